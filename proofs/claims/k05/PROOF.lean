import PyProof.Rows.All
import Wide.All
import OpenK.AllK
import Wide.FinOn
import HandS.ForMost
import HandS.ForExc
import HandS.Wide
import HandS.Ends
import HandS.ExcInit
import KE.KExcIs
import KE.KExcInit
import HandS.IsInst
import HandS.TryMany
import HandS.Style
import PyProof.ReprLen
import PyProof.ReprText
import HandS.Gcd
import HandS.WideMore
import HandS.WideBits
import PyProof.ReprBulk
import PyProof.FitsInt
import HandS.Deep
import HandS.TupAny
import HandS.Walk
import KE.SortData
import PyProof.P3In
import PyProof.StrOps2
import PyProof.Rows.SeqMore
import HandS.Conv
import HandS.Zip
import KE.GoesEnum
import PyProof.P3Eq
import HandS.StrMore
import PySem.Challenge.RW_whyblank_k05_any_values_as_books_and_tab
import PyProof.ListStr
import HandS.OwnEq
import HandS.DictComp
import HandS.More
import HandS.TupLe
import HandS.MakeKwOnly
import KE.DataCmp
import PyProof.CallStr
import HandS.RaiseMore
import PyProof.Rows.IntBool
import HandS.TryOnly
set_option Elab.async false
set_option linter.all false
set_option maxRecDepth 100000
set_option maxHeartbeats 4000000
/-! Wb0: repr of data, and calls whose surroundings run no repr (guards empty). -/
namespace Wb
open PySem PySem.Spec PyProof.Rows L2

/-! ### repr over data -/
def rShow (K : PySem.W.Frag) : List V → Hp → VK → Prop := fun xs H Q =>
  ∃ (x : V) (d : PyData), xs = [x] ∧ Dp K H x d ∧ d.showable = true ∧ d.hasDict = false ∧ d.depth ≤ 60 ∧ d.shown.length ≤ sizeLine ∧ Q (.str d.shown) H
section
variable {X : Cx}
theorem call_show (hg : X.A.guards = some []) (hu : X.A.units + 64 < cLine) : CallR X (.builtin "repr") (rShow X.K) := by
  intro pins s σ H xs us Q I rr hh
  obtain ⟨x, d, rfl, hd, hs, hn, hdep, hl, hq⟩ := hh
  cases rr with
  | cons r1 r2 =>
  cases r2
  rename_i u
  obtain ⟨as, rd⟩ := Dp.reads I d x u hd r1
  have done : ∀ (h' : Heap) (t tk : Nat), (∀ b o, s.heap.get? b = some o → h'.get? b = some o) → EP X pins σ Q (.str d.shown t) { s with heap := h', toks := tk } :=
    fun h' t tk kp => ⟨.str d.shown, H, I.kept kp, ⟨t, rfl⟩, hq⟩
  cases hd with
  | non =>
    obtain rfl : u = Value.none := r1
    simp only [PyData.shown] at done
    exact PySem.P.repr_of_none (done _ _ _ fun _ _ e => e)
  | bl b =>
    obtain rfl : u = Value.bool b := r1
    simp only [PyData.shown] at done
    exact PySem.P.repr_of_bool (done _ _ _ fun _ _ e => e)
  | int i =>
    obtain ⟨t, rfl⟩ := r1
    simp only [PyData.shown] at done
    exact PySem.P.repr_of_int (by simpa [PyData.showable] using hs) (done _ _ _ fun _ _ e => e)
  | str z =>
    obtain ⟨t, rfl⟩ := r1
    simp only [PyData.shown] at done
    exact PySem.P.repr_of_str (done _ _ _ fun _ _ e => e) (by simpa only [PyData.shown] using hl)
  | lst h1 h2 =>
    cases r1
    exact repr_of_reads' rd hs (PyData.noDict_hsm hn) hg (by omega) (fun _ _ e => e) (fun h' t tk kp => done h' t tk kp) hl
  | tup h1 h2 =>
    cases r1
    exact repr_of_reads' rd hs (PyData.noDict_hsm hn) hg (by omega) (fun _ _ e => e) (fun h' t tk kp => done h' t tk kp) hl
end

/-! ### a def that is called where no repr runs -/
structure FnG (P : Program) (w : World) (K : PySem.W.Frag) (mg : Str → Option Value) (base : Heap) (CX : CXT) (k : Nat) (f : Addr) (fd : FuncData) (ps : List Str) (sp : Sp) : Prop where
  arity : ∀ vs H Q E, sp vs H Q E → vs.length = ps.length
  go : ∀ (A : Around) (outer : List Env) (s : Shared) (H : Hp) (args : Args) (us : List Value) (vs : List V) (Q : VK) (E : XK),
    A.guards = some [] → Room k A → Env0 P w K mg base A outer s H → BindsTo s fd args (ps.zip us) → Vals vs us → sp vs H Q E →
    codeAny (model P w) A (.call (.ref f) args) (CR CX outer P w H s Q E) s

theorem FnG.of {P w K mg base CX k f fd ps sp} (F : FnOk P w K mg base CX k f fd ps sp) : FnG P w K mg base CX k f fd ps sp :=
  ⟨F.len, fun A outer s H args us vs Q E _ => F.run A outer s H args us vs Q E⟩

section
variable {P : Program} {w : World} {K : PySem.W.Frag} {mg : Str → Option Value} {base : Heap}
/-- the body of such a def, with the surroundings' guards told -/
theorem okG {CX : CXT} {x qual : Str} {st : Stmt} {f : Addr} {fd : FuncData} {N ps : List Str} {k : Nat} {sp : Sp} (F : Fun K x qual st f fd) (S : FnScope N ps (defScope st)) (ar : ∀ vs H Q E, sp vs H Q E → vs.length = ps.length)
    (body : ∀ (cdv : Value) (A : Around) (outer : List Env) (s : Shared) (H : Hp) (vs : List V) (Q : VK) (E : XK),
      (A.deeper (envOfC qual (defScope st) s.heap.objs.size f cdv)).guards = some [] → Room k (A.deeper (envOfC qual (defScope st) s.heap.objs.size f cdv)) → sp vs H Q E →
      ∃ t, PSs (cxOf CX P w K mg base N qual (defScope st) f cdv A outer s H E) (defBody st) t ∧ t { nx := fun _ H' => Q .non H', rt := Q } (start N vs) H) :
    FnG P w K mg base CX (k + 1) f fd ps sp := by
  obtain ⟨a1, a2, a3, a4, a5, a6, cdv, a8, a9, rfl, found, coded⟩ := F.ex
  refine ⟨ar, ?_⟩
  intro A outer s H args us vs Q E gd room env0 bnd rel want
  have many := ar _ _ _ _ want
  have inS : K.In s.heap := env0.mod.kin.keeps fun b o e => (env0.bs b o e).1
  have noLim : s.heap.NoLimit := env0.mod.nolimit.keeps fun b o e => (env0.bs b o e).1
  refine codeAny_call_function room.depth (inS _ _ found) rfl S.co S.gen rfl (PySem.W.codeRec_of inS coded) (bnd _ _ _ _ ?_)
  have kinds : ∀ y ∈ ps.zip us, (defScope st).names.lookup y.1 = some .local ∨
      ((defScope st).names.lookup y.1 = some .cell ∧ ((cellsFrom (s.heap.objs.size + 1) (defScope st).names []).lookup y.1).isSome = true) := by
    rintro ⟨n, v⟩ mem
    have hp := S.par n (List.of_mem_zip mem).1
    rcases hp with hp | hp
    · exact Or.inl hp
    · exact Or.inr ⟨hp, PySem.W.cellsFrom_some _ _ _ (Or.inl hp)⟩
  refine wpAny_newFunctionEnv_cells S.kind kinds ?_
  intro env isEnv s1 inCall
  subst isEnv
  refine ⟨noLim.keeps inCall.toInCall.keep, codeAny_func ?_⟩
  have gd2 : (A.deeper (envOfC qual (defScope st) s.heap.objs.size f cdv)).guards = some [] := gd
  obtain ⟨t, derived, holds⟩ := body cdv A outer s H vs Q E gd2 (room.deeper _) want
  have inv := inv_start (CX := CX) (E := E) (qual := qual) (cd := cdv) (f := f) S room.hd env0 many rel inCall
  refine wpAny_mono (derived.run [] s1 (start N vs) H _ inv holds) ?_ (fun _ _ z => z)
  intro fl s' got
  cases fl with
  | ret u =>
    obtain ⟨v, σ', H', J, rv, q⟩ := got
    exact ⟨v, H', J.os, J.bare, J.base, J.hok, rv, q⟩
  | next =>
    obtain ⟨σ', H', J, q⟩ := got
    exact ⟨V.non, H', J.os, J.bare, J.base, J.hok, rfl, q⟩
  | brk => obtain ⟨_, _, _, q⟩ := got; exact q.elim
  | cont => obtain ⟨_, _, _, q⟩ := got; exact q.elim
end

/-! ### calling it -/
section
variable {X : Cx} {CX : CXT} {k : Nat} {f : Addr} {fd : FuncData} {ps : List Str} {sp : Sp} {dvs : List V} {ds : List Value} {E : XK} {x : Str} {p pos : Pos} {e : Expr} {es : List Expr} {t : TA}
theorem runG {pins : List (Addr × Obj)} {σ : L2.St} {H : Hp} {s : Shared} {Q : VK} {us : List Value} {vs : List V} (F : FnG X.prog X.w X.K X.mg X.base CX k f fd ps sp) (gd : X.A.guards = some []) (hr : Room k X.A) (hb : Binds X.K fd ps ds) (hd : Vals dvs ds)
    (hx : Passes CX X E) (I : Inv X pins σ H s) (r : Vals vs us) (h : sp (vs ++ dvs) H Q E) : wpAny (model X.prog X.w) X.A (call (.ref f) us) (EP X pins σ Q) X.xe s := by
  have r2 := r.append hd
  have many : (us ++ ds).length = ps.length := r2.length.symm.trans (F.arity _ _ _ _ h)
  apply wpAny_call
  refine codeAny_mono (F.go X.A X.stack s H ⟨us, []⟩ _ _ Q E gd hr I.env0 (hb s us I.kIn many) r2 h) ?_
  intro res s' got
  match res, got with
  | .error er, got => exact hx pins σ H s er s' I got
  | .ok (.ret u), got => exact I.after got
theorem pe_callG (F : FnG X.prog X.w X.K X.mg X.base CX k f fd ps sp) (gd : X.A.guards = some []) (hr : Room k X.A) (hg : Gl X x) (hm : X.mg x = some (.ref f)) (hk : PySem.W.keepIn X.K (.ref f) = true) (hb : Binds X.K fd ps ds) (hd : Vals dvs ds)
    (hx : Passes CX X E) (ha : PA X (e :: es) t) (hdb : (x == ("__debug__" : Str)) = false := by decide) (he : starEach (e :: es) X.env = (false, eval e X.env) :: starEach es X.env := by rfl)
    (hpl : (backTo pos (starEach es X.env)).any (·.1) = false := by rfl) : PE X (.Call (.Name x p) (e :: es) [] pos) (tCall sp dvs E t) := by
  constructor
  intro pins s σ H Q I h
  apply wpAny_Call_Name_kw
  apply ld_glob I hg hm _ hdb
  refine PySem.W.callWith_K (h₀ := X.base) I.ok.mod.kin hk (thn (ha.run pos pins s σ H _ I h) ?_) he hpl
  rintro us s1 ⟨vs, H1, I1, r, q⟩
  exact ⟨I1.kIn, runG F gd hr hb hd hx I1 r q⟩
end
end Wb

set_option Elab.async false
set_option linter.all false
set_option maxRecDepth 100000
set_option maxHeartbeats 4000000
/-! Wb1: the law's own call, guards told. -/
namespace Wb
open PySem PySem.Spec PyProof.Rows L2

/-- the law's def, promised where no repr runs, called from outside -/
theorem lawG {P : Program} {w : World} {K : PySem.W.Frag} {mg mb : Str → Option Value} {CX : CXT} {k : Nat} {fa a : Addr} {fd : FuncData} {x : Str} {sp : Sp} {st : Shared} {vs : List Value} {ns : List Int}
    (inK : K.In st.heap) (names : st.heap.Ns mainGlobals mg) (bns : st.heap.Ns builtinsNs mb) (boot : ∀ x : Str, x ≠ "__name__" → mb x = bootBuiltins x) (lim : st.heap.NoLimit) (nogen : st.gens = #[])
    (atA : st.heap.get? a = some { cls := .type "list", data := .seq vs.toArray }) (areInts : IntsAre vs ns) (short : ns.length ≤ sizeLine) (room : Room k callerA)
    (F : ∀ base : Heap, K.In base → base.Ns mainGlobals mg → FnG P w K mg base CX k fa fd [x] sp) (bind1 : ∀ (s : Shared) (u : Value), BindsTo s fd ⟨[u], []⟩ [(x, u)])
    (want : ∀ H : Hp, Only H → SqL K H a (ns.map V.int) → sp [.ref a] H (fun v _ => v = .bl true) fun _ _ _ => False)
    (noX : ∀ H e s', CX [] H st (fun _ _ _ => False) e s' → False) :
    codeAny (model P w) callerA (.call (.ref fa) ⟨[.ref a], []⟩) (fun r s' => r = .ok (.ret (.bool true)) ∧ OldK st.heap s'.heap ∧ s'.os = st.os ∧ AllBare s'.gens) st := by
  have rel := vals_ints areInts
  have same := areInts.length
  -- what is told of any abstract heap that tracks the script at most
  suffices go : ∀ H : Hp, Only H → SqL K H a (ns.map V.int) → HOk P w H st.heap → (∀ b, H b ≠ none → b = a) → (H a ≠ none → K.lookup a = none) →
      codeAny (model P w) callerA (.call (.ref fa) ⟨[.ref a], []⟩) (fun r s' => r = .ok (.ret (.bool true)) ∧ OldK st.heap s'.heap ∧ s'.os = st.os ∧ AllBare s'.gens) st by
    rcases own : K.lookup a with _ | ob
    · -- the script is tracked, as a thing that stands still
      let frozen : HO := .frz { cls := .type "list", data := .seq vs.toArray } (.lst (ns.map V.int))
      refine go (fun b => if b = a then some frozen else none) ?_ ?_ ?_ ?_ (fun _ => own)
      · intro b
        by_cases e : b = a
        · exact Or.inr ⟨_, _, if_pos e⟩
        · exact Or.inl (if_neg e)
      · exact Or.inl (Or.inr ⟨_, if_pos rfl⟩)
      · intro b u e
        by_cases h : b = a
        · subst h
          cases (if_pos rfl).symm.trans e
          exact ⟨atA, by simpa using short, vs, _, rel, atA⟩
        · cases (if_neg h).symm.trans e
      · intro b e
        by_cases h : b = a
        · exact h
        · exact absurd (if_neg h) e
    · -- the script is one of the module's own objects
      have there := inK a ob own
      rw [atA] at there
      cases there
      refine go (fun _ => none) (fun _ => Or.inl rfl) ?_ (fun b u e => ?_) (fun b e => absurd rfl e) (fun e => absurd rfl e)
      · exact Or.inr ⟨_, vs.toArray, _, own, rfl, rfl, rfl, by rw [List.size_toArray, same]; exact short, by simpa using rel⟩
      · have e' : (none : Option HO) = some u := e
        cases e'
  intro H only seq ok just notK
  have keepB : ∀ {b : Addr} {o : Obj}, st.heap.get? b = some o → H b = none → (hidT st.heap H).get? b = some o := fun e n => hidT_get e n
  have dictFree : ∀ {b : Addr} {o : Obj} {es : Array DictEntry} {ep : Nat}, st.heap.get? b = some o → o.data = .dict es ep → H b = none := by
    intro b o es ep e d
    by_cases q : H b = none
    · exact q
    · have h := just b q
      subst h
      rw [atA] at e
      cases e
      have d' : Data.seq vs.toArray _ = Data.dict es ep := d
      cases d'
  have nsIn : ∀ {b : Addr} {m : Str → Option Value}, st.heap.Ns b m → (hidT st.heap H).Ns b m := by
    rintro b m ⟨o, es, ep, e, d, r⟩
    exact ⟨o, es, ep, keepB e (dictFree e d), d, r⟩
  have inBase : K.In (hidT st.heap H) := by
    intro b o e
    refine keepB (inK b o e) ?_
    by_cases q : H b = none
    · exact q
    · have h := just b q
      subst h
      rw [notK q] at e
      cases e
  have md : Mod K mg (hidT st.heap H) := by
    obtain ⟨mc, l1, l2⟩ := lim
    exact ⟨inBase, nsIn names, ⟨mb, nsIn bns, boot⟩, ⟨mc, nsIn l1, l2⟩⟩
  have env0 : Env0 P w K mg (hidT st.heap H) callerA [] st H :=
    ⟨rfl, md, fun b o e => of_hidT e, Nat.le_of_eq (hidT_size _ _), trivial, fun b hb => absurd (show b ∈ ([] : List Addr) from hb) (by simp), ok, .of_eq nogen⟩
  have ran := (F _ inBase (nsIn names)).go callerA [] st H ⟨[.ref a], []⟩ [.ref a] [.ref a] _ _ rfl room env0 (bind1 st (.ref a)) (.cons rfl .nil) (want H only seq)
  refine codeAny_mono ran ?_
  intro r s' h
  match r, h with
  | .error e, h => exact (noX H e s' h).elim
  | .ok (.ret u), h =>
    obtain ⟨v, H', os, bare, un, ok', rv, q⟩ := h
    have q' : v = .bl true := q
    subst q'
    obtain rfl : u = Value.bool true := rv
    refine ⟨rfl, OldK.of_keep ?_, os, bare⟩
    intro b o e
    by_cases q : H b = none
    · exact un.keep b o e q (fun z => absurd (show b ∈ ([] : List Addr) from z) (by simp)) (by simp)
    · rcases only b with z | ⟨ob, xs, z⟩
      · exact absurd z q
      · obtain ⟨e1, _⟩ := ok b _ z
        obtain ⟨e2, _⟩ := ok' b _ (un.frzs b ob _ z)
        rw [e] at e1
        cases e1
        exact e2

/-- the goal that the head leaves, from such a promise of the law's def -/
theorem walkG {l : PySem.W.OpenLaw} {n k : Nat} {q : Program} {loose : List Str} {XP : (Str → Option Value) → Heap → Prop} {YP : World → Heap → Prop} {d : DefRec} {K : Params → PySem.W.Frag} {CX : World → CXT} {sp : World → Sp} {x : Str}
    (h1 : l.most = some n) (h2 : n ≤ sizeLine) (h3 : d.params.defaults = []) (room : Room k callerA) (hY : ∀ (w : World) (h : Heap), YP w h → (K w.params).In h)
    (F : ∀ (w : World) (mg : Str → Option Value) (fa : Addr) (h : Heap), (K w.params).In h → h.Ns mainGlobals mg → mg d.name = some (.ref fa) →
      ∃ fd : FuncData, (∀ (s : Shared) (u : Value), BindsTo s fd ⟨[u], []⟩ [(x, u)]) ∧
        ∀ base : Heap, (K w.params).In base → base.Ns mainGlobals mg → FnG l.prog w (K w.params) mg base (CX w) k fa fd [x] (sp w))
    (want : ∀ (w : World) (H : Hp) (a : Addr) (ns : List Int), ns.length ≤ n → Only H → SqL (K w.params) H a (ns.map V.int) → sp w [.ref a] H (fun v _ => v = .bl true) fun _ _ _ => False)
    (noX : ∀ (w : World) (H : Hp) (s : Shared) (e : Value) (s' : Shared), CX w [] H s (fun _ _ _ => False) e s' → False) :
    PySem.W.WalkO q loose XP YP l.row.toRowW d [] (fun f vs => PySem.call f vs) := by
  apply Att.attach_call h1 h3
  intro w s₀ s₁ mg mb fa o pm cd doc a vs ns G Y ho hd hcd hmg hobj hints hlen hg
  have inK := hY w _ Y
  obtain ⟨fd, hb, hF⟩ := F w mg fa _ inK G.T.g hmg
  exact lawG inK G.T.g G.T.b G.T.builtins G.T.nolimit hg hobj hints (Nat.le_trans hlen h2) room hF hb (fun H hO hS => want w H a ns hlen hO hS) fun H e s' => noX w H s₁ e s'
end Wb

set_option Elab.async false
set_option linter.all false
set_option maxRecDepth 100000
set_option maxHeartbeats 4000000
/-! Wb2: own exceptions as values: made (by position and by name), their field read, isinstance. -/
namespace PySem
namespace WbE
open PySem.W PySem.Calls PyProof.Rows
section
variable {prog : Program} {w : World} {M : Model} {A : Around} {E : Value → Shared → Prop} {R : Result → Shared → Prop} {h : Heap} {g : Array GenState} {d : Drawn} {t : Nat} {os : OsState}
variable {nm q : Str} {C N : Addr} {bs bm bmB : List Value} {hdct : Bool} {sn : List Str} {sub : List Value} {ab : Bool} {col : Option Bool} {dd : Option Addr} {k0 k1 k2 k3 k5 : Option Value} {B newId initId : String}
variable {rest : List Value} {kw : List (Str × Value)}

/-- what is asked of the class's chain: the built-in base is in it, the two bases with members of their own are not -/
structure Chain (bm : List Value) (B : String) : Prop where
  base : bm.contains (.type B) = true
  noA : bm.contains (.type "AttributeError") = false
  noN : bm.contains (.type "NameError") = false

theorem checkNew (F : ExcBaseFacts B newId initId bmB) (ch : Chain bm B) {Q : Unit → Shared → Prop} (atC : h.get? C = some (excClassObj nm q C N bs bm hdct sn sub ab col dd k0 k1 k2 k3 k5 newId))
    (hq : Q () ⟨h, g, d, t, os⟩) : wpAny M A (checkBuiltinCall newId ⟨.ref C :: rest, kw⟩) Q E ⟨h, g, d, t, os⟩ := by
  have inB : (Value.ref C :: bm).contains (.type B) = true := by
    rw [List.contains_cons, ch.base, Bool.or_true]
  have star := F.noStar
  simp only [checkBuiltinCall, F.newKind, F.newSplit, F.newRow]
  repeat (first
    | refine wpAny_loadPart_at atC ?_
    | (refine wpAny_isSubtype_exc atC ?_; rw [inB])
    | refine wpAny_staticBase_exc atC ?_
    | refine wpAny_madeBy_exc atC ?_
    | simp only [bne_self_eq_false, Bool.false_eq_true, if_false]
    | wp_step)
  exact hq

theorem runNew (F : ExcBaseFacts B newId initId bmB) (ch : Chain bm B) (atC : h.get? C = some (excClassObj nm q C N bs bm hdct sn sub ab col dd k0 k1 k2 k3 k5 newId)) (short : rest.length ≤ sizeLine)
    (hq : R (.ok (.ret (.ref (h.objs.size + 1)))) ⟨(h.push (W.kdv_tup rest)).push (HandSPX.excO C h.objs.size), g, d, t, os⟩) :
    codeAny (model prog w) A (.builtin newId ⟨.ref C :: rest, kw⟩) R ⟨h, g, d, t, os⟩ := by
  have ends := F.ends
  have inB : (Value.ref C :: bm).contains (.type B) = true := by
    rw [List.contains_cons, ch.base, Bool.or_true]
  have outA : (Value.ref C :: bm).contains (.type "AttributeError") = false := by
    rw [List.contains_cons, ch.noA]
    rfl
  have outN : (Value.ref C :: bm).contains (.type "NameError") = false := by
    rw [List.contains_cons, ch.noN]
    rfl
  refine codeAny_builtinAt F.entry ?_
  unfold Builtin.«BaseException.__new__»
  apply wpAt_bind
  show wpAt _ _ _ (stack >>= _) _ _ _
  apply wpAt_bind
  apply wpAt_stack
  intro p below
  apply wpAt_of_wpAny
  wp_walk
  apply wpAt_of_wpAny
  rw [F.owner]
  repeat (first
    | with_reducible refine wpAny_madeHere_exc F.canon atC ?_
    | with_reducible refine wpAny_loadPart_at atC ?_
    | (with_reducible refine wpAny_isSubtype_exc atC ?_; first | rw [inB] | rw [outA] | rw [outN])
    | wp_step)
  show R _ _
  rw [Heap.size_push]
  exact hq

theorem runCall (F : ExcBaseFacts B newId initId bmB) (ch : Chain bm B) {iv : Value} {Q : Fin → Shared → Prop} (atC : h.get? C = some (excClassObj nm q C N bs bm hdct sn sub ab col dd k0 k1 k2 k3 k5 newId))
    (lk : W.Looks (model prog w) h (typeLookup (.ref C) "__init__") (some iv)) (bd : ∀ self, W.Looks (model prog w) h (bindSpecial iv self) (iv, [self])) (short : rest.length ≤ sizeLine)
    (hq : codeAny (model prog w) A (.call iv ⟨.ref (h.objs.size + 1) :: rest, kw⟩)
      (fun r s' => match r with
        | .ok (.ret v) => v = .none ∧ Q (.done (.ret (.ref (h.objs.size + 1)))) s'
        | .ok _ => False
        | .error e => E e s')
      ⟨(h.push (W.kdv_tup rest)).push (HandSPX.excO C h.objs.size), g, d, t, os⟩) :
    wpAny (model prog w) A (Builtin.«type.__call__» ⟨.ref C :: rest, kw⟩) Q E ⟨h, g, d, t, os⟩ := by
  repeat (first
    | with_reducible refine wpAny_loadPart_at atC ?_
    | with_reducible refine wpAny_madeBy_exc atC ?_
    | wp_step)
  refine codeAny_call_builtin_code (Code.quiet_builtin _ F.quiet) (checkNew F ch atC ?_)
  refine runNew F ch atC short ?_
  show wpAny _ _ _ _ _ _
  have grown : ∀ b o, h.get? b = some o → ((h.push (W.kdv_tup rest)).push (HandSPX.excO C h.objs.size)).get? b = some o :=
    fun b o e => Heap.get?_push_of_some _ (Heap.get?_push_of_some _ e)
  have atC1 := grown _ _ atC
  have made : ((h.push (W.kdv_tup rest)).push (HandSPX.excO C h.objs.size)).get? (h.objs.size + 1) = some (HandSPX.excO C h.objs.size) := by heap_get
  have self_ : (Value.ref C :: bm).contains (.ref C) = true := by simp
  have lk1 := lk.keeps grown
  have bd1 := (bd (.ref (h.objs.size + 1))).keeps grown
  unfold isInstance
  repeat (first
    | with_reducible refine wpAny_loadPart_at made ?_
    | (with_reducible refine wpAny_isSubtype_exc atC1 ?_; rw [self_])
    | wp_step)
  show wpAny _ _ (typeLookup (.ref C) _) _ _ _
  refine lk1.at ?_
  refine wpAny_holding (wpAny_bind (bd1.at ?_))
  apply wpAny_bind
  refine wpAny_call (codeAny_mono hq ?_)
  intro r s' z
  match r, z with
  | .error e, z => exact z
  | .ok (.ret v), z =>
    obtain ⟨rfl, z⟩ := z
    first
      | exact wpAny_pure (wpAny_pure z)
      | (wp_walk; exact z)

theorem callE (F : ExcBaseFacts B newId initId bmB) (ch : Chain bm B) {iv : Value} (atC : h.get? C = some (excClassObj nm q C N bs bm hdct sn sub ab col dd k0 k1 k2 k3 k5 newId))
    (lk : W.Looks (model prog w) h (typeLookup (.ref C) "__init__") (some iv)) (bd : ∀ self, W.Looks (model prog w) h (bindSpecial iv self) (iv, [self])) (short : rest.length ≤ sizeLine)
    (hq : codeAny (model prog w) (A.under (.builtin "type.__call__" ⟨.ref C :: rest, kw⟩)) (.call iv ⟨.ref (h.objs.size + 1) :: rest, kw⟩) (W.InitBack (h.objs.size + 1) R)
      ⟨(h.push (W.kdv_tup rest)).push (HandSPX.excO C h.objs.size), g, d, t, os⟩) :
    codeAny (model prog w) A (.call (.ref C) ⟨rest, kw⟩) R ⟨h, g, d, t, os⟩ := by
  have e1 := tc_lookup
  have e2 := tc_bind (.ref C)
  have isT : (⟨h, g, d, t, os⟩ : Shared).TypeIs (.ref C) "type" := ⟨_, atC, rfl⟩
  apply codeAny_of_tree
  show wpAny _ _ (callAny (.ref C) _) _ _ _
  repeat (any_goals (first
    | assumption
    | with_reducible refine wpAny_loadPart_at atC ?_
    | wp_step))
  refine ⟨rfl, ?_⟩
  refine codeAny_call_builtin_at (Code.quiet_builtin _ (by decide +kernel)) entry_typeCall ?_
  refine wpAny_check_type_call_sub atC ?_
  refine runCall F ch atC lk bd short (codeAny_mono hq ?_)
  intro r s' z
  match r, z with
  | .error e, z => exact z
  | .ok (.ret v), z => exact z
end
end WbE
end PySem

set_option Elab.async false
set_option linter.all false
set_option maxRecDepth 100000
set_option maxHeartbeats 4000000
/-! Wb3: own exceptions as tracked values. -/
namespace PySem.F
theorem storeKeyError : StoreFacts "KeyError"
    [.type "KeyError", .type "LookupError", .type "Exception", .type "BaseException", .type "object"]
    "object.__setattr__" "object" := by
  refine ⟨by kernel_rfl, ?_, entry_object_sa, by decide +kernel, by decide +kernel, by decide +kernel, ?_, fun _ => by kernel_rfl⟩
  · refine .of (owner := "object") (n := "__setattr__") ?_ (by decide +kernel) (by decide +kernel) (by decide +kernel) ?_ ?_
    · rw [typeLookup_type, builtinLookup_eq_fast]
      kernel_rfl
    · first
        | exact .inl (by decide +kernel)
        | exact .inr (by decide +kernel)
    · rw [isSubtype_type]
      kernel_rfl
  · intro a b c
    unfold argsOk
    kernel_rfl
end PySem.F
namespace PySem
namespace WbE
open PySem.W PySem.Calls PyProof.Rows
section
open Builtin Builtin.ObjectAttr
variable {prog : Program} {w : World} {A : Around} {R : Result → Shared → Prop} {hp : Heap} {g : Array GenState} {d : Drawn} {t : Nat} {os : OsState}
/-- the first field of an exception of an own class, whatever its built-in base -/
theorem setFirst {S : String} {bmS : List Value} {K : W.Frag} {name : Str} {tk : Tok} {v : Value} {x C : Addr} {fv : Array Value} {cd : ClassData} (SF : StoreFacts S bmS "object.__setattr__" "object")
    (X : K.In hp) (hx : hp.get? x = some { cls := .ref C, data := .fields fv }) (hcd : W.clsIn K C = some cd) (hd : cd.hasDict = true) (over : excOver K C bmS = true) (no : W.findIn K (.ref C) name = some none)
    (hq : ∀ h' tk' dx, (∀ b o, b ≠ x → hp.get? b = some o → h'.get? b = some o) → hp.objs.size ≤ dx → dx ≠ x →
      h'.get? x = some { cls := .ref C, dict := some dx, data := .fields fv } → h'.Ns1 dx (fun y => if y = name then some v else none) → R (.ok (.ret .none)) ⟨h', g, d, tk', os⟩) :
    codeAny (model prog w) A (.call (.builtin "object.__setattr__") ⟨[.ref x, .str name tk, v], []⟩) R ⟨hp, g, d, t, os⟩ := by
  have at_ : W.InstAt hp x { cls := .ref C, data := .fields fv } C none := ⟨hx, rfl, rfl, trivial⟩
  have ne : x ≠ hp.objs.size := Nat.ne_of_lt (Heap.lt_size hx)
  have look : W.Looks (model prog w) hp (classData C) cd := W.looks_clsIn X hcd
  have taker : W.takerIn K C name = some none := by
    unfold W.takerIn
    rw [no]
    rfl
  refine W.osa_openX (s := ⟨hp, g, d, t, os⟩) SF X at_ over taker fun b => ?_
  obtain ⟨c1, c2, c3, c4, c5, hasD, c7, c8, c9, c10, c11⟩ := cd
  dsimp only at hd
  subst hd
  unfold storeInOwnDict ownDictForStores
  repeat (first
    | with_reducible refine HandSPX.store_in_new ?_ ?_
    | with_reducible refine wpAny_loadPart_at hx ?_
    | with_reducible refine look.at ?_
    | wp_step)
  · exact ⟨_, #[], _, (Heap.get?_update_ne _ _ _ _ ne.symm).trans (Heap.get?_push_at rfl rfl), rfl, fun e he => absurd he (by simp), fun _ => rfl⟩
  · intro h' tk' ns' same
    have pushed : (hp.push { cls := .type "dict", data := .dict #[] }).get? x = some { cls := .ref C, data := .fields fv } := Heap.get?_push_of_some _ hx
    refine hq h' tk' hp.objs.size ?_ (Nat.le_refl _) ne.symm ?_ ns'
    · intro b o hb ho
      rw [same.2 b (Nat.ne_of_lt (Heap.lt_size ho)), Heap.get?_update_ne _ _ _ _ hb]
      exact Heap.get?_push_of_some _ ho
    · rw [same.2 x ne]
      exact Heap.get?_update_self _ pushed rfl
end
end WbE
end PySem

namespace Wb
open PySem PySem.Spec PyProof.Rows L2
/-- what the written part says of an own exception's class at C: made by newId (of the built-in B), the fields stored as S's chain stores them -/
structure ErrC (K : PySem.W.Frag) (C : Addr) : Prop where
  new : ∃ (B newId initId : String) (bmB : List Value) (nm q : Str) (N : Addr) (bs bm : List Value) (sn : List Str) (sub : List Value) (ab : Bool) (col : Option Bool) (dd : Option Addr) (k0 k1 k2 k3 k5 : Option Value),
    PySem.ExcBaseFacts B newId initId bmB ∧ PySem.WbE.Chain bm B ∧ K.lookup C = some (excClassObj nm q C N bs bm true sn sub ab col dd k0 k1 k2 k3 k5 newId)
  store : ∃ (S : String) (bmS : List Value), PySem.StoreFacts S bmS "object.__setattr__" "object" ∧ PySem.W.excOver K C bmS = true
  sa : PySem.W.findIn K (.ref C) "__setattr__" = some (some (.builtin "object.__setattr__"))
  ga : PySem.W.findIn K (.ref C) "__getattribute__" = some (some (.builtin "BaseException.__getattribute__"))
  gg : PySem.W.findIn K (.ref C) "__getattr__" = some none
  exc : PySem.W.subIn K (.ref C) (.type "BaseException") = some true
  ty : PySem.W.typeIn K (.ref C) = some (.type "type")
  hd : PySem.W.hasDictIn K C = true
  kp : PySem.W.keepIn K (.ref C) = true
  hc : PySem.W.findIn K (.ref C) "__class__" = some (some (.builtin "object.__class__"))
  hn : PySem.W.specialIn K (.builtin "object.__class__") "__get__" = some (some (.builtin "getset_descriptor.__get__"))
  ht : PySem.W.takesIn K (.builtin "object.__class__") = some true
  hm : PySem.W.mroIn K C (.type "object") = some true

section
variable {X : Cx} {pins : List (Addr × Obj)} {σ : L2.St} {H : Hp} {s : Shared} {a C dx fI : Addr} {f : Str} {y v : V} {u : Value} {fs : List (Str × V)} {A : Around} {k : Nat}
/-- self.f = y in an __init__, the first field -/
theorem setNew {Q : Unit → Shared → Prop} {E : Value → Shared → Prop} (T : ErrC X.K C) (I : Inv X pins σ H s) (e : H a = some (exo a C none)) (no : PySem.W.findIn X.K (.ref C) f = some none) (ry : RelV y u)
    (h : ∀ dx s', H dx = none → dx ≠ a → Inv X pins σ (upd (upd H dx (exd dx [(f, y)])) a (exo a C (some dx))) s' → Q () s') : wpAny (model X.prog X.w) A (setAttr (.ref a) f u) Q E s := by
  obtain ⟨B, newId, initId, bmB, nm, q, N, bs, bm, sn, sub, ab, col, dd, k0, k1, k2, k3, k5, _, _, atC⟩ := T.new
  obtain ⟨S, bmS, SF, over⟩ := T.store
  have cls : PySem.W.clsIn X.K C = some { name := nm, bases := bs, mro := .ref C :: bm, ns := N, qualname := q, hasDict := true, slotNames := sn, subclasses := sub, abstract := ab, collection := col, hasDel := false } := by
    unfold PySem.W.clsIn
    rw [atC] <;> rfl
  obtain ⟨t1, ho⟩ := exo_at I.hok e
  obtain ⟨hp, g, d, t, os⟩ := s
  refine PySem.W.set_plain I.kIn (ox := { cls := .ref C, dict := none, data := .fields #[.ref t1, .none, .none, .none, .bool false, .none] }) (od := none) ⟨ho, rfl, rfl, trivial⟩ T.sa ?_
  refine PySem.WbE.setFirst SF I.kIn ho cls rfl over no ?_
  intro h' tk' dx kept big ne hx ns'
  have free : H dx = none := I.hok.fresh big
  have old : ∀ {b : Addr} {o : Obj}, hp.get? b = some o → b ≠ dx := fun {b o} z => Nat.ne_of_lt (Nat.lt_of_lt_of_le (Heap.lt_size z) big)
  have notA : ∀ {b : Addr}, H b = none → b ≠ a := by
    intro b n z
    rw [z, e] at n
    cases n
  have un : Un X.fs [] H (upd (upd H dx (exd dx [(f, y)])) a (exo a C (some dx))) hp h' := by
    constructor
    · exact fun b o z n _ _ => kept b o (notA n) z
    · exact fun b o z n _ _ => ⟨o.slots, kept b o (notA n) z⟩
    · intro b o z n _
      rw [upd_ne (notA n), upd_ne (old z)]
      exact n
    · intro b o z _
      by_cases hb : b = a
      · exact ⟨_, by rw [hb]; exact hx⟩
      · exact ⟨o, kept b o hb z⟩
    · intro b xs z
      rw [upd_ne (at_ne e z exo_tup), upd_ne (ne_of_none z free)]
      exact z
    · intro b o w z
      rw [upd_ne (at_ne e z exo_frz), upd_ne (ne_of_none z free)]
      exact z
    · intro b ps z
      refine ⟨#[], ?_⟩
      rw [upd_ne (at_ne e z exo_tbl), upd_ne (ne_of_none z free), z]
      simp
  refine h dx _ free ne (I.un (t' := tk') un ?_)
  intro b o z
  by_cases hb : b = a
  · subst hb
    rw [upd_same] at z
    cases z
    exact exo_ok hx
  rw [upd_ne hb] at z
  by_cases hb2 : b = dx
  · subst hb2
    rw [upd_same] at z
    cases z
    exact exd_ok ns' (relO_put (fs := []) ry fun g => True.intro)
  rw [upd_ne hb2] at z
  refine (I.hok b o z).stay ?_ ?_ ?_
  · intro c w hc z2
    refine kept c w ?_ z2
    rcases hc with hc | hc
    · rw [hc]; exact hb
    · exact at_ne e hc exo_own
  · intro c hc
    rw [upd_ne (at_ne e hc exo_own), upd_ne (ne_of_none hc free)]
    exact hc
  · intro c xs hc
    rw [upd_ne (at_ne e hc exo_tup), upd_ne (ne_of_none hc free)]
    exact hc

/-- C(..), C(k = ..) with C's own __init__: an exception at a new address -/
theorem runErr {CX : CXT} {fd : FuncData} {ps : List Str} {sp : Sp} {us : List Value} {kw : List (Str × Value)} {vs : List V} {binds : List Value} {Q : VK} (T : ErrC X.K C) (iC : PySem.W.findIn X.K (.ref C) "__init__" = some (some (.ref fI)))
    (tI : PySem.W.typeIn X.K (.ref fI) = some (.type "function")) (F1 : FnOk X.prog X.w X.K X.mg X.base CX k fI fd ps sp) (room : Room (k + 1) X.A) (hx : Passes CX X (fun _ _ _ => False)) (I : Inv X pins σ H s) (short : us.length ≤ sizeLine)
    (bind : ∀ (s' : Shared) (a : Addr), X.K.In s'.heap → BindsTo s' fd ⟨.ref a :: us, kw⟩ (ps.zip (.ref a :: binds))) (rel : Vals vs binds)
    (h : ∀ a, H a = none → sp (.ref a :: vs) (upd H a (exo a C none)) (fun v H2 => v = .non ∧ Q (.ref a) H2) (fun _ _ _ => False)) :
    wpAny (model X.prog X.w) X.A (call (.ref C) us kw) (EP X pins σ Q) X.xe s := by
  obtain ⟨B, newId, initId, bmB, nm, q, N, bs, bm, sn, sub, ab, col, dd, k0, k1, k2, k3, k5, FB, ch, atC⟩ := T.new
  obtain ⟨hp, g, dr, tk, os⟩ := s
  have le1 : hp.objs.size ≤ hp.objs.size + 1 := Nat.le_succ _
  have free : H (hp.objs.size + 1) = none := I.hok.fresh le1
  have want := h _ free
  have grown : ∀ b o, hp.get? b = some o → ((hp.push (PySem.W.kdv_tup us)).push (PySem.HandSPX.excO C hp.objs.size)).get? b = some o :=
    fun b o e => Heap.get?_push_of_some _ (Heap.get?_push_of_some _ e)
  have made : ((hp.push (PySem.W.kdv_tup us)).push (PySem.HandSPX.excO C hp.objs.size)).get? (hp.objs.size + 1) = some (PySem.HandSPX.excO C hp.objs.size) := by heap_get
  have I2 : Inv X pins σ (upd H (hp.objs.size + 1) (exo (hp.objs.size + 1) C none)) ⟨(hp.push (PySem.W.kdv_tup us)).push (PySem.HandSPX.excO C hp.objs.size), g, dr, tk, os⟩ :=
    I.laid (t' := tk) (a := hp.objs.size + 1) (o := exo (hp.objs.size + 1) C none) (h' := (hp.push (PySem.W.kdv_tup us)).push (PySem.HandSPX.excO C hp.objs.size)) grown le1 (exo_ok made)
  have rel2 : Vals (V.ref (hp.objs.size + 1) :: vs) (Value.ref (hp.objs.size + 1) :: binds) := .cons rfl rel
  apply wpAny_call
  refine PySem.WbE.callE (iv := .ref fI) FB ch (I.kIn _ _ atC) (PySem.W.looks_findIn I.kIn iC) (fun self => PySem.W.bind_fn I.kIn self tI) short ?_
  refine codeAny_mono (F1.run _ X.stack _ _ ⟨Value.ref (hp.objs.size + 1) :: us, kw⟩ (Value.ref (hp.objs.size + 1) :: binds) _ _ (fun _ _ _ => False) (room.make C us kw) (I2.env0.make C us kw) (bind _ _ I2.kIn) rel2 want) ?_
  intro r s' got
  match r, got with
  | .error er, got => exact hx pins σ _ _ er s' I2 got
  | .ok (.ret u), got =>
    obtain ⟨v, H', I3, rv, ev, q3⟩ := I2.after got
    subst ev
    exact ⟨rv, ⟨V.ref (hp.objs.size + 1), H', I3, rfl, q3⟩⟩
end
end Wb

set_option Elab.async false
set_option linter.all false
set_option maxRecDepth 100000
set_option maxHeartbeats 4000000
/-! Wb4: the rules over them. -/
namespace Wb
open PySem PySem.Spec PyProof.Rows L2

theorem upd_mid {H : Hp} {a d : Addr} {o p q : HO} : upd (upd (upd H a o) d p) a q = upd (upd H d p) a q := by
  funext b
  unfold upd
  by_cases h : b = a
  · rw [if_pos h, if_pos h]
  · rw [if_neg h, if_neg h]
    by_cases h2 : b = d
    · rw [if_pos h2, if_neg h]
    · rw [if_neg h2, if_neg h]

/-- self.f = e of an exception's __init__ -/
def tIni (K : PySem.W.Frag) (f : Str) (to te : TE) : TS := fun D σ H => te σ H fun y H1 => to σ H1 fun x H2 =>
  ∃ a C : Addr, x = .ref a ∧ ErrC K C ∧ PySem.W.findIn K (.ref C) f = some none ∧ H2 a = some (exo a C none) ∧
    ∀ dx, H2 dx = none → dx ≠ a → D.nx σ (upd (upd H2 dx (exd dx [(f, y)])) a (exo a C (some dx)))
/-- err.f -/
def tEFld (K : PySem.W.Frag) (f : Str) (to : TE) : TE := fun σ H Q => to σ H fun x H1 =>
  ∃ (a C dx : Addr) (fs : List (Str × V)) (v : V), x = .ref a ∧ H1 a = some (exo a C (some dx)) ∧ H1 dx = some (exd dx fs) ∧ ErrC K C ∧ PySem.W.findIn K (.ref C) f = some none ∧ fs.lookup f = some v ∧ Q v H1
/-- isinstance(err, c) -/
def rIsErr (K : PySem.W.Frag) : List V → Hp → VK → Prop := fun xs H Q =>
  ∃ (a C : Addr) (od : Option Addr) (c : V) (cu : Value) (b : Bool), xs = [.ref a, c] ∧ H a = some (exo a C od) ∧ (∀ dx, od = some dx → ∃ fs, H dx = some (exd dx fs)) ∧ ErrC K C ∧ ClsV c cu ∧
    PySem.W.kitOne K (.ref C) cu = some b ∧ Q (.bl b) H
/-- C(v): an exception at a, its dict at dx -/
def tErr (C : Addr) (f : Str) (ta : TA) : TE := fun σ H Q => ta σ H fun vs H1 =>
  ∃ v, vs = [v] ∧ ∀ a dx, H1 a = none → H1 dx = none → dx ≠ a → Q (.ref a) (upd (upd H1 dx (exd dx [(f, v)])) a (exo a C (some dx)))
/-- the same, to be raised -/
def tErrX (C : Addr) (f : Str) (ta : TA) : L2.St → Hp → XK → Prop := fun σ H Q => ta σ H fun vs H1 =>
  ∃ v, vs = [v] ∧ ∀ dx, H1 dx = none → Q (.ref C) (some dx) (upd H1 dx (.xd [(f, v)]))
/-- __init__(self, f): self.f = f -/
def spIni (C : Addr) (f : Str) : Sp := fun vs H Q _ => ∃ (a : Addr) (v : V), vs = [.ref a, v] ∧ H a = some (exo a C none) ∧
  ∀ dx, H dx = none → dx ≠ a → Q .non (upd (upd H dx (exd dx [(f, v)])) a (exo a C (some dx)))
/-- __init__(self): pass -/
def spIni0 : Sp := fun vs H Q _ => ∃ a : Addr, vs = [.ref a] ∧ Q .non H

section
variable {X : Cx} {o e : Expr} {es : List Expr} {kws : List Keyword} {to te : TE} {ta : TA} {f x : Str} {p p' pos : Pos} {C fI : Addr} {fd : FuncData} {CX : CXT} {k : Nat}
theorem ps_ini (ho : PE X o to) (he : PE X e te) (hs : swapsWith e (some (.Attribute o f p')) pos.line X.env = pure false := by rfl) : PS X (.Assign [.Attribute o f p'] e pos) (tIni X.K f to te) := by
  constructor
  intro pins s σ H D I h
  refine plainObj_wpAny_Assign_Attribute (thn (he.run pins s σ H _ I h) ?_) hs
  rintro v s1 ⟨y, H1, I1, ry, q1⟩
  refine thn (ho.run pins s1 σ H1 _ I1 q1) ?_
  rintro u s2 ⟨x, H2, I2, rx, a, C, rfl, T, no, ea, q⟩
  obtain rfl : u = Value.ref a := rx
  exact setNew T I2 ea no ry fun dx s' n ne J => ⟨σ, _, J, q dx n ne⟩

theorem readErr {pins : List (Addr × Obj)} {σ : L2.St} {H : Hp} {s : Shared} {a dx : Addr} {fs : List (Str × V)} {v : V} {b : Bool} {A : Around} {Q : Value → Shared → Prop} {E : Value → Shared → Prop} (T : ErrC X.K C) (I : Inv X pins σ H s) (ea : H a = some (exo a C (some dx)))
    (ed : H dx = some (exd dx fs)) (no : PySem.W.findIn X.K (.ref C) f = some none) (l : fs.lookup f = some v) (h : ∀ u t', RelV v u → Q u { s with toks := t' }) : wpAny (model X.prog X.w) A (getAttr (.ref a) f b) Q E s := by
  obtain ⟨t1, ho⟩ := exo_at I.hok ea
  obtain ⟨mA, hns, rel⟩ := exd_at I.hok ed
  obtain ⟨od, hod, look⟩ := lookIn_ns hns
  obtain ⟨u, hu, ru⟩ := RelO.some_of (v := v) (o := mA f) (by rw [← l]; exact rel f)
  exact PySem.HandSPX.exc_get (od := some od) I.kIn ⟨ho, rfl, rfl, hod⟩ T.ga T.gg T.exc (PySem.W.findObj_own T.hd no rfl (by rw [look, hu])) (handed_of ru) (h u _ ru)

theorem pe_efld (ho : PE X o to) (hb : attributeBase o f X.env (eval o X.env) = eval o X.env := by rfl) : PE X (.Attribute o f pos) (tEFld X.K f to) := by
  constructor
  intro pins s σ H Q I h
  refine attr_of hb (thn (ho.run pins s σ H _ I h) ?_)
  rintro u s1 ⟨x, H1, I1, rx, a, C, dx, fs, v, rfl, ea, ed, T, no, l, q⟩
  obtain rfl : u = Value.ref a := rx
  exact readErr T I1 ea ed no l fun w t' rw' => ⟨v, H1, I1.tok t', rw', q⟩

theorem call_isErr : CallR X (.builtin "isinstance") (rIsErr X.K) := by
  intro pins s σ H xs us Q I r h
  obtain ⟨a, C, od, c, cu, b, rfl, ea, hod, T, kc, ek, q⟩ := h
  obtain ⟨u1, u2, rfl, r1, r2⟩ := vals2 r
  obtain rfl : u1 = Value.ref a := r1
  have e2 := kc.eq r2
  subst e2
  obtain ⟨t1, ho⟩ := exo_at I.hok ea
  have cls : (PySem.W.clsIn X.K C).isSome = true := by
    obtain ⟨cd, hcd, _⟩ := PySem.W.any_some T.hd
    rw [hcd]
    rfl
  have fin : ∀ tk, EP X pins σ Q (.bool b) { s with toks := tk } := fun tk => ⟨.bl b, H, I.tok tk, rfl, q⟩
  cases od with
  | none =>
    exact PySem.W.kia_one (PySem.W.kitx_exc (od := none) cls T.ga T.gg T.exc T.hc T.hn T.ht T.hm) I.kIn (⟨ho, rfl, rfl, trivial⟩ : PySem.W.InstAt s.heap a _ C none) ek (fun z => nomatch z) fin
  | some dx =>
    obtain ⟨fs, ed⟩ := hod dx rfl
    obtain ⟨mA, hns, _⟩ := exd_at I.hok ed
    obtain ⟨od, hod, _⟩ := lookIn_ns hns
    exact PySem.W.kia_one (PySem.W.kitx_exc (od := some od) cls T.ga T.gg T.exc T.hc T.hn T.ht T.hm) I.kIn (⟨ho, rfl, rfl, hod⟩ : PySem.W.InstAt s.heap a _ C (some od)) ek (fun z => nomatch z) fin

/-- C(e) -/
theorem pe_err (T : ErrC X.K C) (iC : PySem.W.findIn X.K (.ref C) "__init__" = some (some (.ref fI))) (tI : PySem.W.typeIn X.K (.ref fI) = some (.type "function")) {ps : List Str} (F1 : FnOk X.prog X.w X.K X.mg X.base CX k fI fd ps (spIni C f)) (room : Room (k + 1) X.A)
    (hb : Binds X.K fd ps []) (hx : Passes CX X (fun _ _ _ => False)) (hg : Gl X x) (hm : X.mg x = some (.ref C)) (ha : PA X (e :: es) ta) (hdb : (x == ("__debug__" : Str)) = false := by decide)
    (he : starEach (e :: es) X.env = (false, eval e X.env) :: starEach es X.env := by rfl) (hpl : (backTo pos (starEach es X.env)).any (·.1) = false := by rfl) : PE X (.Call (.Name x p) (e :: es) [] pos) (tErr C f ta) := by
  constructor
  intro pins s σ H Q I h
  apply wpAny_Call_Name_kw
  apply ld_glob I hg hm _ hdb
  refine PySem.W.callWith_K (h₀ := X.base) I.ok.mod.kin T.kp (thn (ha.run pos pins s σ H _ I h) ?_) he hpl
  rintro us s1 ⟨vs, H1, I1, r1, v, rfl, q⟩
  refine ⟨I1.kIn, ?_⟩
  show wpAny _ _ (call (.ref C) us) _ _ _
  have want : ∀ a : Addr, H1 a = none → spIni C f (.ref a :: [v]) (upd H1 a (exo a C none)) (fun v H2 => v = .non ∧ Q (.ref a) H2) (fun _ _ _ => False) := by
    intro a ha
    refine ⟨a, v, rfl, upd_same, fun dx hd ne => ⟨rfl, ?_⟩⟩
    rw [upd_mid]
    rw [upd_ne ne] at hd
    exact q a dx ha hd ne
  have many : ∀ a : Addr, (Value.ref a :: us).length = ps.length := by
    intro a
    obtain ⟨n0, hn0⟩ : ∃ n0, H1 n0 = none := ⟨s1.heap.objs.size, I1.hok.fresh (Nat.le_refl _)⟩
    have e1 := F1.len _ _ _ _ (want n0 hn0)
    have e2 := r1.length
    simp only [List.length_cons] at e1 e2 ⊢
    omega
  refine runErr T iC tI F1 room hx I1 (binds := us) (vs := [v]) ?_ ?_ r1 want
  · rw [← r1.length, sizeLine_eq]
    simp
  · intro s' a inK
    have q2 := hb s' (.ref a :: us) inK (by rw [List.append_nil]; exact many a)
    rw [List.append_nil] at q2
    exact q2

/-- C(f = e) -/
theorem pe_errK {g : Str} {kpos : Pos} (T : ErrC X.K C) (iC : PySem.W.findIn X.K (.ref C) "__init__" = some (some (.ref fI))) (tI : PySem.W.typeIn X.K (.ref fI) = some (.type "function")) {s0 : Str} (F1 : FnOk X.prog X.w X.K X.mg X.base CX k fI fd [s0, g] (spIni C f)) (room : Room (k + 1) X.A)
    (hb : ∀ (s' : Shared) (a v : Value), BindsTo s' fd ⟨[a], [(g, v)]⟩ [(s0, a), (g, v)]) (hx : Passes CX X (fun _ _ _ => False)) (hg : Gl X x) (hm : X.mg x = some (.ref C)) (he : PE X e te) (hdb : (x == ("__debug__" : Str)) = false := by decide) :
    PE X (.Call (.Name x p) [] [⟨some g, e, kpos⟩] pos) (tErr C f (tCons te tNil)) := by
  constructor
  intro pins s σ H Q I h
  apply wpAny_Call_Name_kw
  apply ld_glob I hg hm _ hdb
  have pk : PK X [⟨some g, e, kpos⟩] (tCons te tNil) := pk_cons he pk_nil
  refine PySem.W.callWith_KW0 (h₀ := X.base) I.ok.mod.kin T.kp (by rfl) (thn (pk.run pos pins s σ H _ I h) ?_)
  rintro us s1 ⟨vs, H1, I1, r1, v, rfl, q⟩
  refine ⟨I1.kIn, ?_⟩
  have want : ∀ a : Addr, H1 a = none → spIni C f (.ref a :: [v]) (upd H1 a (exo a C none)) (fun v H2 => v = .non ∧ Q (.ref a) H2) (fun _ _ _ => False) := by
    intro a ha
    refine ⟨a, v, rfl, upd_same, fun dx hd ne => ⟨rfl, ?_⟩⟩
    rw [upd_mid]
    rw [upd_ne ne] at hd
    exact q a dx ha hd ne
  cases r1 with
  | cons rv rn =>
  cases rn
  rename_i u
  refine runErr (us := []) (kw := [(g, u)]) T iC tI F1 room hx I1 (binds := [u]) (vs := [v]) (by rw [sizeLine_eq]; simp) ?_ (.cons rv .nil) want
  intro s' a inK
  exact hb s' _ _
end
end Wb

set_option Elab.async false
set_option linter.all false
set_option maxRecDepth 100000
set_option maxHeartbeats 4000000
/-! Wb5: own exceptions raised; those whose __init__ does nothing; those without one. -/
namespace Wb
open PySem PySem.Spec PyProof.Rows L2

section
variable {X : Cx} {e : Expr} {es : List Expr} {te : TE} {ta : TA} {f x : Str} {p p' pos : Pos} {C fI : Addr} {fd : FuncData} {CX : CXT} {k : Nat}
theorem untracked' {H : Hp} {a dx : Addr} {o o' u : HO} {z : HO} (ha : H a = none) (ne : dx ≠ a) : upd (del (upd (upd (upd H a o) dx u) a o') a) dx z = upd H dx z := by
  funext b
  unfold upd del
  by_cases h : b = dx
  · rw [if_pos h, if_pos h]
  · rw [if_neg h, if_neg h]
    by_cases h2 : b = a
    · rw [if_pos h2, h2, ha]
    · rw [if_neg h2]
      show (if b = a then some o' else if b = dx then some u else if b = a then some o else H b) = H b
      rw [if_neg h2, if_neg h, if_neg h2]

/-- C(e), to be raised -/
theorem pmk_err (T : ErrC X.K C) (iC : PySem.W.findIn X.K (.ref C) "__init__" = some (some (.ref fI))) (tI : PySem.W.typeIn X.K (.ref fI) = some (.type "function")) {ps : List Str} (F1 : FnOk X.prog X.w X.K X.mg X.base CX k fI fd ps (spIni C f)) (room : Room (k + 1) X.A)
    (hb : Binds X.K fd ps []) (hx : Passes CX X (fun _ _ _ => False)) (hg : Gl X x) (hm : X.mg x = some (.ref C)) (ha : PA X (e :: es) ta) (hdb : (x == ("__debug__" : Str)) = false := by decide)
    (he : starEach (e :: es) X.env = (false, eval e X.env) :: starEach es X.env := by rfl) (hpl : (backTo pos (starEach es X.env)).any (·.1) = false := by rfl) : PMk X (.Call (.Name x p) (e :: es) [] pos) (tErrX C f ta) := by
  intro pins s σ H Q I h
  obtain ⟨B, newId, initId, bmB, nm, q, N, bs, bm, sn, sub, ab, col, dd, k0, k1, k2, k3, k5, FB, ch, atC⟩ := T.new
  apply wpAny_Call_Name_kw
  apply ld_glob I hg hm _ hdb
  refine PySem.W.callWith_K (h₀ := X.base) I.ok.mod.kin T.kp (thn (ha.run pos pins s σ H _ I h) ?_) he hpl
  rintro us s1 ⟨vs, H1, I1, r1, v, rfl, q1⟩
  refine ⟨I1.kIn, ?_⟩
  show wpAny _ _ (call (.ref C) us) _ _ _
  obtain ⟨hp, g, dr, tk, os⟩ := s1
  have le1 : hp.objs.size ≤ hp.objs.size + 1 := Nat.le_succ _
  have free : H1 (hp.objs.size + 1) = none := I1.hok.fresh le1
  have want : spIni C f (.ref (hp.objs.size + 1) :: [v]) (upd H1 (hp.objs.size + 1) (exo (hp.objs.size + 1) C none))
      (fun r H2 => r = .non ∧ ∃ d : Addr, H2 (hp.objs.size + 1) = some (exo (hp.objs.size + 1) C (some d)) ∧ H2 d = some (exd d [(f, v)]) ∧ H1 d = none ∧ Q (.ref C) (some d) (upd (del H2 (hp.objs.size + 1)) d (.xd [(f, v)]))) (fun _ _ _ => False) := by
    refine ⟨_, v, rfl, upd_same, fun dx hd ne => ⟨rfl, dx, upd_same, ?_, ?_, ?_⟩⟩
    · rw [upd_ne ne, upd_same]
    · rw [upd_ne ne] at hd
      exact hd
    · rw [untracked' free ne]
      rw [upd_ne ne] at hd
      exact q1 dx hd
  have grown : ∀ b o, hp.get? b = some o → ((hp.push (PySem.W.kdv_tup us)).push (PySem.HandSPX.excO C hp.objs.size)).get? b = some o :=
    fun b o z => Heap.get?_push_of_some _ (Heap.get?_push_of_some _ z)
  have made : ((hp.push (PySem.W.kdv_tup us)).push (PySem.HandSPX.excO C hp.objs.size)).get? (hp.objs.size + 1) = some (PySem.HandSPX.excO C hp.objs.size) := by heap_get
  have I2 : Inv X pins σ (upd H1 (hp.objs.size + 1) (exo (hp.objs.size + 1) C none)) ⟨(hp.push (PySem.W.kdv_tup us)).push (PySem.HandSPX.excO C hp.objs.size), g, dr, tk, os⟩ :=
    I1.laid (t' := tk) (a := hp.objs.size + 1) (o := exo (hp.objs.size + 1) C none) (h' := (hp.push (PySem.W.kdv_tup us)).push (PySem.HandSPX.excO C hp.objs.size)) grown le1 (exo_ok made)
  have rel2 : Vals (V.ref (hp.objs.size + 1) :: [v]) (Value.ref (hp.objs.size + 1) :: us) := .cons rfl r1
  have many : (Value.ref (hp.objs.size + 1) :: us).length = ps.length := rel2.length.symm.trans (F1.len _ _ _ _ want)
  have short : us.length ≤ sizeLine := by
    rw [← r1.length, sizeLine_eq]
    simp
  have hb2 := hb ⟨(hp.push (PySem.W.kdv_tup us)).push (PySem.HandSPX.excO C hp.objs.size), g, dr, tk, os⟩ (Value.ref (hp.objs.size + 1) :: us) I2.kIn (by rw [List.append_nil]; exact many)
  rw [List.append_nil] at hb2
  apply wpAny_call
  refine PySem.WbE.callE (iv := .ref fI) FB ch (I1.kIn _ _ atC) (PySem.W.looks_findIn I1.kIn iC) (fun self => PySem.W.bind_fn I1.kIn self tI) short ?_
  refine codeAny_mono (F1.run _ X.stack _ _ ⟨Value.ref (hp.objs.size + 1) :: us, []⟩ (Value.ref (hp.objs.size + 1) :: us) _ _ (fun _ _ _ => False) (room.make C us []) (I2.env0.make C us []) hb2 rel2 want) ?_
  intro r s' got
  match r, got with
  | .error er, got => exact hx pins σ _ _ er s' I2 got
  | .ok (.ret u), got =>
    obtain ⟨r, H2, os2, bare2, un2, ok2, rv, ev, d, ea, ed, hd1, q2⟩ := got
    subst ev
    obtain ⟨h2, g2, d2, t2, os'⟩ := s'
    exact ⟨rv, mk_end (raises_own T.exc T.ty) I1 le1 grown un2 ok2 os2 bare2 ea ed hd1 q2⟩
end

/-! ### an __init__ that does nothing -/
section
variable {prog : Program} {w : World} {A : Around} {R : Result → Shared → Prop} {s : Shared} {K : PySem.W.Frag}
theorem idle {qual : Str} {st : Stmt} {fI : Addr} {fd : FuncData} {pp : Pos} {x : Value} (inK : K.In s.heap) (lim : s.heap.NoLimit) (F : Fun K "__init__" qual st fI fd) (body : defBody st = [.Pass pp])
    (S : FnScope ["self"] ["self"] (defScope st)) (loc : (defScope st).names.lookup ("self" : Str) = some NameKind.local) (bind : BindsTo s fd ⟨[x], []⟩ [("self", x)]) (room : A.depth < recursionLimit)
    (hq : ∀ h' tk, (∀ b o, s.heap.get? b = some o → h'.get? b = some o) → R (.ok (.ret .none)) { s with heap := h', toks := tk }) :
    codeAny (model prog w) A (.call (.ref fI) ⟨[x], []⟩) R s := by
  obtain ⟨a1, a2, a3, a4, a5, a6, cdv, a8, a9, rfl, found, coded⟩ := F.ex
  refine Att.call_fn inK lim found coded room bind ?_ ?_ S.co S.gen S.kind
  · simp [loc]
  · intro s1 ic
    obtain ⟨h1, tk1, rfl⟩ := ic.toInCall.same
    rw [body]
    refine wpAny_execs_cons (wpAny_Pass ?_)
    exact wpAny_execs_nil (hq h1 tk1 ic.toInCall.keep)
end
section
variable {X : Cx} {f x : Str} {p pos : Pos} {C fI : Addr} {fd : FuncData} {k : Nat}
/-- C(): an exception at a new address -/
def tErr0 (C : Addr) : TE := fun _ H Q => ∀ a, H a = none → Q (.ref a) (upd H a (exo a C none))
def tErrX0 (C : Addr) : L2.St → Hp → XK → Prop := fun _ H Q => Q (.ref C) none H

theorem run0 {pins : List (Addr × Obj)} {σ : L2.St} {H : Hp} {s : Shared} {qual : Str} {st : Stmt} {pp : Pos} {Q : Value → Shared → Prop} {E : Value → Shared → Prop} (T : ErrC X.K C) (iC : PySem.W.findIn X.K (.ref C) "__init__" = some (some (.ref fI))) (tI : PySem.W.typeIn X.K (.ref fI) = some (.type "function"))
    (F : Fun X.K "__init__" qual st fI fd) (body : defBody st = [.Pass pp]) (S : FnScope ["self"] ["self"] (defScope st)) (loc : (defScope st).names.lookup ("self" : Str) = some NameKind.local) (bind : ∀ (s : Shared) (v : Value), BindsTo s fd ⟨[v], []⟩ [("self", v)]) (room : Room 1 X.A) (I : Inv X pins σ H s)
    (hq : ∀ h' tk t0, (∀ b o, s.heap.get? b = some o → h'.get? b = some o) → h'.get? (s.heap.objs.size + 1) = some (PySem.HandSPX.excO C t0) → s.heap.get? t0 = none → h'.get? t0 = some (PySem.W.kdv_tup []) → Q (.ref (s.heap.objs.size + 1)) { s with heap := h', toks := tk }) :
    wpAny (model X.prog X.w) X.A (call (.ref C) []) Q E s := by
  obtain ⟨B, newId, initId, bmB, nm, q, N, bs, bm, sn, sub, ab, col, dd, k0, k1, k2, k3, k5, FB, ch, atC⟩ := T.new
  have lim := I.nolimit
  have inK := I.kIn
  obtain ⟨hp, g, dr, tk, os⟩ := s
  have grown : ∀ b o, hp.get? b = some o → ((hp.push (PySem.W.kdv_tup [])).push (PySem.HandSPX.excO C hp.objs.size)).get? b = some o :=
    fun b o z => Heap.get?_push_of_some _ (Heap.get?_push_of_some _ z)
  have made : ((hp.push (PySem.W.kdv_tup [])).push (PySem.HandSPX.excO C hp.objs.size)).get? (hp.objs.size + 1) = some (PySem.HandSPX.excO C hp.objs.size) := by heap_get
  have made2 : ((hp.push (PySem.W.kdv_tup [])).push (PySem.HandSPX.excO C hp.objs.size)).get? hp.objs.size = some (PySem.W.kdv_tup []) := by heap_get
  apply wpAny_call
  refine PySem.WbE.callE (iv := .ref fI) FB ch (inK _ _ atC) (PySem.W.looks_findIn inK iC) (fun self => PySem.W.bind_fn inK self tI) (by rw [sizeLine_eq]; simp) ?_
  refine idle (s := ⟨(hp.push (PySem.W.kdv_tup [])).push (PySem.HandSPX.excO C hp.objs.size), g, dr, tk, os⟩) (inK.keeps grown) (lim.keeps grown) F body S loc (bind _ _) ?_ ?_
  · have := (room.make C [] [] (k := 0)).depth
    exact this
  · intro h' tk' kept
    exact ⟨rfl, hq h' tk' hp.objs.size (fun b o z => kept b o (grown b o z)) (kept _ _ made) (Heap.get?_none_of_le (Nat.le_refl _)) (kept _ _ made2)⟩

theorem pe_err0 {qual : Str} {st : Stmt} {pp : Pos} (T : ErrC X.K C) (iC : PySem.W.findIn X.K (.ref C) "__init__" = some (some (.ref fI))) (tI : PySem.W.typeIn X.K (.ref fI) = some (.type "function"))
    (F : Fun X.K "__init__" qual st fI fd) (body : defBody st = [.Pass pp]) (S : FnScope ["self"] ["self"] (defScope st)) (loc : (defScope st).names.lookup ("self" : Str) = some NameKind.local) (bind : ∀ (s : Shared) (v : Value), BindsTo s fd ⟨[v], []⟩ [("self", v)]) (room : Room 1 X.A)
    (hg : Gl X x) (hm : X.mg x = some (.ref C)) (hdb : (x == ("__debug__" : Str)) = false := by decide) : PE X (.Call (.Name x p) [] [] pos) (tErr0 C) := by
  constructor
  intro pins s σ H Q I h
  apply wpAny_Call_Name_kw
  apply ld_glob I hg hm _ hdb
  refine PySem.W.callWith_K0 I.kIn T.kp ?_
  refine run0 T iC tI F body S loc bind room I ?_
  intro h' tk t0 kept made _ _
  exact ⟨.ref _, _, I.laid (t' := tk) kept (Nat.le_succ _) (exo_ok made), rfl, h _ (I.hok.fresh (Nat.le_succ _))⟩

theorem pmk_err0 {qual : Str} {st : Stmt} {pp : Pos} (T : ErrC X.K C) (iC : PySem.W.findIn X.K (.ref C) "__init__" = some (some (.ref fI))) (tI : PySem.W.typeIn X.K (.ref fI) = some (.type "function"))
    (F : Fun X.K "__init__" qual st fI fd) (body : defBody st = [.Pass pp]) (S : FnScope ["self"] ["self"] (defScope st)) (loc : (defScope st).names.lookup ("self" : Str) = some NameKind.local) (bind : ∀ (s : Shared) (v : Value), BindsTo s fd ⟨[v], []⟩ [("self", v)]) (room : Room 1 X.A)
    (hg : Gl X x) (hm : X.mg x = some (.ref C)) (hdb : (x == ("__debug__" : Str)) = false := by decide) : PMk X (.Call (.Name x p) [] [] pos) (tErrX0 C) := by
  intro pins s σ H Q I h
  apply wpAny_Call_Name_kw
  apply ld_glob I hg hm _ hdb
  refine PySem.W.callWith_K0 I.kIn T.kp ?_
  refine run0 T iC tI F body S loc bind room I ?_
  intro h' tk t0 kept made fr madeT
  have mexc : Heap.MadeExcOf s.heap h' (s.heap.objs.size + 1) (.ref C) [] := ⟨kept, Heap.get?_none_of_le (Nat.le_succ _), t0, made, fr, madeT⟩
  have J : Inv X pins σ H { s with toks := tk } := I.tok tk
  exact mk_of (s := { s with toks := tk }) J mexc (raises_own T.exc T.ty) h (I.hok.fresh (Nat.le_succ _))

/-- a class without own __init__: C() -/
theorem pe_errB {B newId initId : String} {bmB : List Value} (T : ErrC X.K C) (FB : PySem.ExcBaseFacts B newId initId bmB) (iC : PySem.W.findIn X.K (.ref C) "__init__" = some (some (.builtin initId)))
    (new : ∃ (nm q : Str) (N : Addr) (bs bm : List Value) (sn : List Str) (sub : List Value) (ab : Bool) (col : Option Bool) (dd : Option Addr) (k0 k1 k2 k3 k5 : Option Value),
      X.K.lookup C = some (excClassObj nm q C N bs bm true sn sub ab col dd k0 k1 k2 k3 k5 newId) ∧ PySem.WbE.Chain bm B ∧ ∀ X : String, bm.contains (.type X) = bmB.contains (.type X))
    (hg : Gl X x) (hm : X.mg x = some (.ref C)) (hdb : (x == ("__debug__" : Str)) = false := by decide) : PE X (.Call (.Name x p) [] [] pos) (tErr0 C) := by
  obtain ⟨nm, q, N, bs, bm, sn, sub, ab, col, dd, k0, k1, k2, k3, k5, atC, ch, hT⟩ := new
  constructor
  intro pins s σ H Q I h
  apply wpAny_Call_Name_kw
  apply ld_glob I hg hm _ hdb
  refine PySem.W.callWith_K0 I.kIn T.kp ?_
  show wpAny _ _ (call (.ref C) []) _ _ _
  have inK := I.kIn
  have fr := I.hok.fresh (a := s.heap.objs.size + 1) (Nat.le_succ _)
  obtain ⟨hp, g, dr, tk, os⟩ := s
  have grown : ∀ b o, hp.get? b = some o → ((hp.push (PySem.W.kdv_tup [])).push (PySem.HandSPX.excO C hp.objs.size)).get? b = some o :=
    fun b o z => Heap.get?_push_of_some _ (Heap.get?_push_of_some _ z)
  have made : ((hp.push (PySem.W.kdv_tup [])).push (PySem.HandSPX.excO C hp.objs.size)).get? (hp.objs.size + 1) = some (PySem.HandSPX.excO C hp.objs.size) := by heap_get
  apply wpAny_call
  refine PySem.WbE.callE (iv := .builtin initId) FB ch (inK _ _ atC) (PySem.W.looks_findIn inK iC) (fun self => ?_) (by rw [sizeLine_eq]; simp) ?_
  · rw [FB.init.bind self]
    exact .now
  · refine PySem.HandSPX.init_base FB hT (grown _ _ (inK _ _ atC)) made (by rw [sizeLine_eq]; simp) ?_
    intro h' t1 kept now
    have old : ∀ b o, hp.get? b = some o → h'.get? b = some o := fun b o z => kept b o (Nat.ne_of_lt (Nat.lt_succ_of_lt (Heap.lt_size z))) (grown b o z)
    exact ⟨rfl, .ref _, _, I.laid (t' := tk) old (Nat.le_succ _) (exo_ok now), rfl, h _ fr⟩
end
end Wb

set_option Elab.async false
set_option linter.all false
set_option maxRecDepth 100000
set_option maxHeartbeats 4000000
/-! Wb6: the deal that a law draws from: what is known of it, and what is kept beside it. -/
namespace Wb
open PySem PySem.Spec PyProof.Rows L2

/-- the heap without the deal's two lists -/
def off (H : Hp) (d c : Addr) : Hp := fun b => if b = d ∨ b = c then none else H b
theorem off_at {H : Hp} {d c b : Addr} (h1 : b ≠ d) (h2 : b ≠ c) : off H d c b = H b := if_neg (fun z => z.elim h1 h2)
theorem off_some {H : Hp} {d c b : Addr} {o : HO} (h : off H d c b = some o) : H b = some o ∧ b ≠ d ∧ b ≠ c := by
  unfold off at h
  by_cases e : b = d ∨ b = c
  · rw [if_pos e] at h
    cases h
  · rw [if_neg e] at h
    exact ⟨h, fun z => e (.inl z), fun z => e (.inr z)⟩
theorem off_le (H : Hp) (d c : Addr) : Same (off H d c) H := fun b o h => (off_some h).1
theorem off_mono {H H' : Hp} {d c : Addr} (h : Same H H') : Same (off H d c) (off H' d c) := by
  intro b o z
  obtain ⟨z1, z2, z3⟩ := off_some z
  rw [off_at z2 z3]
  exact h b o z1
theorem off_none {H : Hp} {d c b : Addr} (h : H b = none) : off H d c b = none := by
  unfold off
  split
  · rfl
  · exact h
/-- a new object is kept -/
theorem new_same {H : Hp} {p : Addr} {o : HO} (h : H p = none) : Same H (upd H p o) := fun b u z => by
  rw [upd_ne (ne_of_none z h)]
  exact z
theorem off_new {H : Hp} {d c p : Addr} {o : HO} (h1 : p ≠ d) (h2 : p ≠ c) : off (upd H p o) d c p = some o := by
  rw [off_at h1 h2]
  exact upd_same

/-- the deal: a list at d of the cells' list at c, and a number -/
structure Deal (H : Hp) (d c : Addr) : Prop where
  ex : ∃ (cs : List Int) (mix : Int), H d = some (.lst [.ref c, .int mix]) ∧ H c = some (.lst (cs.map V.int)) ∧ cs.length ≤ 63 ∧ (∀ z ∈ cs, 0 ≤ z) ∧ 0 ≤ mix ∧ mix < 2147483647
theorem Deal.ne {H : Hp} {d c : Addr} (D : Deal H d c) : d ≠ c := by
  obtain ⟨cs, mix, h1, h2, _⟩ := D.ex
  refine ne_of h1 h2 fun z => ?_
  have z2 : [V.ref c, V.int mix] = cs.map V.int := HO.lst.inj z
  cases cs with
  | nil => cases z2
  | cons a r => cases z2
theorem Deal.same {H H' : Hp} {d c : Addr} (D : Deal H d c) (s : Same H H') : Deal H' d c := by
  obtain ⟨cs, mix, h1, h2, h3⟩ := D.ex
  exact ⟨cs, mix, s _ _ h1, s _ _ h2, h3⟩
/-- a free address is none of the deal's -/
theorem Deal.free {H : Hp} {d c p : Addr} (D : Deal H d c) (h : H p = none) : p ≠ d ∧ p ≠ c := by
  obtain ⟨cs, mix, h1, h2, h3⟩ := D.ex
  exact ⟨(ne_of_none h1 h).symm, (ne_of_none h2 h).symm⟩
/-- the deal's own lists changed: all else is kept -/
theorem off_dc {H : Hp} {d c : Addr} {o u : HO} : off (upd (upd H c o) d u) d c = off H d c := by
  funext b
  unfold off
  by_cases e : b = d ∨ b = c
  · rw [if_pos e, if_pos e]
  · rw [if_neg e, if_neg e, upd_ne (fun z => e (.inl z)), upd_ne (fun z => e (.inr z))]
theorem off_c {H : Hp} {d c : Addr} {o : HO} : off (upd H c o) d c = off H d c := by
  funext b
  unfold off
  by_cases e : b = d ∨ b = c
  · rw [if_pos e, if_pos e]
  · rw [if_neg e, if_neg e, upd_ne (fun z => e (.inr z))]
theorem off_d {H : Hp} {d c : Addr} {o : HO} : off (upd H d o) d c = off H d c := by
  funext b
  unfold off
  by_cases e : b = d ∨ b = c
  · rw [if_pos e, if_pos e]
  · rw [if_neg e, if_neg e, upd_ne (fun z => e (.inl z))]

theorem seqT {K : PySem.W.Frag} {H H' : Hp} {a : Addr} {xs : List V} (e : Same H H') (h : SqT K H a xs) : SqT K H' a xs := by
  rcases h with (h | ⟨o, h⟩) | h
  · exact Or.inl (Or.inl (e _ _ h))
  · exact Or.inl (Or.inr ⟨o, e _ _ h⟩)
  · exact Or.inr h
/-- an item at a place drawn -/
theorem item_at {xs : List V} {r : Int} (h0 : 0 ≤ r) (h1 : r < (xs.length : Int)) : ∃ v, v ∈ xs ∧ atI xs r = some v := by
  obtain ⟨j, rfl⟩ := Int.eq_ofNat_of_zero_le h0
  have hj : j < xs.length := by omega
  exact ⟨xs[j], List.getElem_mem hj, atI_nat (List.getElem?_eq_getElem hj)⟩
theorem nil_or_last {α : Type} (l : List α) : l = [] ∨ ∃ ini z, l = ini ++ [z] := by
  cases l with
  | nil => exact .inl rfl
  | cons a r => exact .inr ⟨(a :: r).dropLast, (a :: r).getLast (by simp), (List.dropLast_concat_getLast (by simp)).symm⟩
/-- one statement and the rest, what is known between them said apart -/
theorem seqI {t1 t2 : TS} {D : Ends} {σ : L2.St} {H : Hp} (Ex : L2.St → Hp → Prop) (rest : ∀ σ' H', Ex σ' H' → t2 D σ' H')
    (first : ∀ Z : L2.St → Hp → Prop, (∀ σ' H', Ex σ' H' → Z σ' H') → t1 { D with nx := Z } σ H) : tSeq t1 t2 D σ H :=
  first _ rest
/-- a while by an invariant, a measure, and what is known at its end; what follows is asked apart -/
theorem whileI {c : TT} {tb : TS} {D : Ends} {σ : L2.St} {H : Hp} (I Ex : L2.St → Hp → Prop) (m : L2.St → Hp → Nat) (h0 : I σ H) (rest : ∀ σ H, Ex σ H → D.nx σ H)
    (step : ∀ σ H, I σ H → ∀ Y Z : Hp → Prop,
      (∀ H1, tb { D with nx := fun σ' H' => I σ' H' ∧ m σ' H' < m σ H, ct := fun σ' H' => I σ' H' ∧ m σ' H' < m σ H, bk := D.nx } σ H1 → Y H1) → (∀ H1, Ex σ H1 → Z H1) →
      c σ H fun b H1 => if b = true then Y H1 else Z H1) : tWhile c tb D σ H := by
  refine ⟨fun k σ H => k = m σ H ∧ I σ H, ⟨_, rfl, h0⟩, ?_⟩
  rintro k σ H ⟨rfl, hI⟩
  refine step σ H hI _ _ (fun H1 q => ?_) (fun H1 e => rest σ H1 e)
  exact ⟨_, fun σ' H' ⟨p', l⟩ => ⟨_, l, rfl, p'⟩, q⟩

/-- _law_any(deal, bound): some number below the bound; the deal is one again, all else is kept -/
def spAny : Sp := fun vs H Q _ => ∃ (d c : Addr) (bound : Int), vs = [.ref d, .int bound] ∧ Deal H d c ∧ 0 < bound ∧ bound < 2 ^ 300 ∧
  ∀ (r : Int) (H' : Hp), 0 ≤ r → r < bound → Deal H' d c → Same (off H d c) (off H' d c) → Q (.int r) H'
/-- _law_of(deal, some): some item of a list, of a tuple, or a sign of a text -/
def spOf (K : PySem.W.Frag) : Sp := fun vs H Q _ => ∃ (d c : Addr) (x : V), vs = [.ref d, x] ∧ Deal H d c ∧
  ((∃ (p : Addr) (xs : List V), x = .ref p ∧ SqL K (off H d c) p xs ∧ xs ≠ [] ∧ xs.length ≤ 1000 ∧ ∀ (v : V) (H' : Hp), v ∈ xs → Deal H' d c → Same (off H d c) (off H' d c) → Q v H') ∨
   (∃ (p : Addr) (xs : List V), x = .ref p ∧ SqT K (off H d c) p xs ∧ xs ≠ [] ∧ xs.length ≤ 1000 ∧ ∀ (v : V) (H' : Hp), v ∈ xs → Deal H' d c → Same (off H d c) (off H' d c) → Q v H') ∨
   (∃ z : Str, x = .str z ∧ 0 < z.length ∧ z.length ≤ 1000 ∧ ∀ (a : Nat) (H' : Hp), a ∈ z.cps.toList → Deal H' d c → Same (off H d c) (off H' d c) → Q (.str ⟨#[a]⟩) H'))
/-- _law_deal(script, base): a new deal -/
def spDeal (K : PySem.W.Frag) : Sp := fun vs H Q _ => ∃ (a : Addr) (ns : List Int) (b : Int), vs = [.ref a, .int b] ∧ SqL K H a (ns.map V.int) ∧ ns.length ≤ 63 ∧ 0 ≤ b ∧ b ≤ 1000 ∧
  ∀ (d c : Addr) (H' : Hp), H d = none → H c = none → Deal H' d c → Same H H' → Q (.ref d) H'
end Wb

set_option Elab.async false
set_option linter.all false
set_option maxRecDepth 100000
set_option maxHeartbeats 4000000
/-! Wb7: data that is all new; how large it is shown. -/
namespace Wb
open PySem PySem.Spec PyProof.Rows L2

/-- what stands in H' and was free in H -/
def nw (H H' : Hp) : Hp := fun b => if H b = none then H' b else none
theorem nw_at {H H' : Hp} {b : Addr} (h : H b = none) : nw H H' b = H' b := if_pos h
theorem nw_some {H H' : Hp} {b : Addr} {o : HO} (h : nw H H' b = some o) : H b = none ∧ H' b = some o := by
  unfold nw at h
  by_cases e : H b = none
  · rw [if_pos e] at h
    exact ⟨e, h⟩
  · rw [if_neg e] at h
    cases h
theorem nw_le (H H' : Hp) : Same (nw H H') H' := fun b o h => (nw_some h).2
/-- every address that is taken stays taken -/
def Dom (H H' : Hp) : Prop := ∀ b, H' b = none → H b = none
theorem Dom.refl (H : Hp) : Dom H H := fun _ h => h
theorem Dom.trans {H G J : Hp} (a : Dom H G) (b : Dom G J) : Dom H J := fun x h => a x (b x h)
theorem Dom.of {H H' : Hp} (s : Same H H') : Dom H H' := fun b h => s.free h
theorem Dom.deal {H H' : Hp} {d c : Addr} (s : Same (off H d c) (off H' d c)) (D : Deal H' d c) : Dom H H' := by
  intro b h
  obtain ⟨n1, n2⟩ := D.free h
  have q : off H' d c b = none := (off_at n1 n2).trans h
  have z := s.free q
  rwa [off_at n1 n2] at z
/-- new since later is new since earlier; and it is kept where all but the deal is -/
theorem nw_mono {H0 H G G' : Hp} {d c : Addr} (a : Dom H0 H) (D : Deal H d c) (s : Same (off G d c) (off G' d c)) : Same (nw H G) (nw H0 G') := by
  intro b o h
  obtain ⟨h1, h2⟩ := nw_some h
  obtain ⟨n1, n2⟩ := D.free h1
  rw [nw_at (a b h1)]
  have q := s b o (by rw [off_at n1 n2]; exact h2)
  exact (off_some q).1
theorem nw_off {H G : Hp} {d c : Addr} (D : Deal H d c) : Same (nw H G) (off G d c) := by
  intro b o h
  obtain ⟨h1, h2⟩ := nw_some h
  obtain ⟨n1, n2⟩ := D.free h1
  rw [off_at n1 n2]
  exact h2
theorem nw_upd {H G : Hp} {p : Addr} {o : HO} (h : H p ≠ none) : nw H (upd G p o) = nw H G := by
  funext b
  unfold nw
  by_cases e : H b = none
  · rw [if_pos e, if_pos e, upd_ne (fun z => h (by rw [← z]; exact e))]
  · rw [if_neg e, if_neg e]

mutual
theorem dpMono {K : PySem.W.Frag} {H H' : Hp} (s : Same H H') : ∀ (d : PyData) (v : V), Dp K H v d → Dp K H' v d
  | .none, _, h => by
    cases h
    exact .non
  | .bool b, _, h => by
    cases h
    exact .bl b
  | .int i, _, h => by
    cases h
    exact .int i
  | .str x, _, h => by
    cases h
    exact .str x
  | .list ds, _, h => by
    cases h with
    | lst h1 h2 => exact .lst (s.seq h1) (dpMonoAll s ds _ h2)
  | .tuple ds, _, h => by
    cases h with
    | tup h1 h2 => exact .tup (seqT s h1) (dpMonoAll s ds _ h2)
  | .dict _, _, h => by cases h
theorem dpMonoAll {K : PySem.W.Frag} {H H' : Hp} (s : Same H H') : ∀ (ds : List PyData) (vs : List V), DpAll K H vs ds → DpAll K H' vs ds
  | [], _, h => by
    cases h
    exact .nil
  | d :: ds, _, h => by
    cases h with
    | cons h1 h2 => exact .cons (dpMono s d _ h1) (dpMonoAll s ds _ h2)
end
theorem dpAll_snoc {K : PySem.W.Frag} {H : Hp} {v : V} {e : PyData} (h : Dp K H v e) : ∀ {vs : List V} {es : List PyData}, DpAll K H vs es → DpAll K H (vs ++ [v]) (es ++ [e])
  | _, _, .nil => .cons h .nil
  | _, _, .cons h1 h2 => .cons h1 (dpAll_snoc h h2)
theorem dpAll_len {K : PySem.W.Frag} {H : Hp} : ∀ {vs : List V} {es : List PyData}, DpAll K H vs es → vs.length = es.length
  | _, _, .nil => rfl
  | _, _, .cons _ h2 => by simp [dpAll_len h2]
theorem dpAll_mem {K : PySem.W.Frag} {H : Hp} : ∀ {vs : List V} {es : List PyData} {v : V}, DpAll K H vs es → v ∈ vs → ∃ e, e ∈ es ∧ Dp K H v e
  | _, _, _, .nil, h => nomatch h
  | _, _, v, .cons h1 h2, h => by
    rcases List.mem_cons.mp h with rfl | h
    · exact ⟨_, List.mem_cons_self, h1⟩
    · obtain ⟨e, q1, q2⟩ := dpAll_mem h2 h
      exact ⟨e, List.mem_cons_of_mem _ q1, q2⟩

/-- what may be shown: n deep, of a weight W -/
structure Tame (n W : Nat) (e : PyData) : Prop where
  shows : e.showable = true
  noDict : e.hasDict = false
  deep : e.depth ≤ n
  short : e.leavesShort 13 = true
  light : e.weight ≤ W
theorem Tame.fits {n W : Nat} {e : PyData} (t : Tame n W e) (h : W ≤ 1000000) : e.shown.length ≤ sizeLine := by
  have q := PyData.shown_le 13 (by decide) e t.short
  have l := t.light
  rw [sizeLine_eq]
  omega
theorem Tame.more {n m W Z : Nat} {e : PyData} (t : Tame n W e) (h1 : n ≤ m) (h2 : W ≤ Z) : Tame m Z e :=
  ⟨t.shows, t.noDict, Nat.le_trans t.deep h1, t.short, Nat.le_trans t.light h2⟩
structure TameAll (n W : Nat) (es : List PyData) : Prop where
  shows : PyData.showableAll es = true
  noDict : PyData.hasDictAll es = false
  deep : PyData.depthAll es ≤ n
  short : PyData.leavesShortAll 13 es = true
  light : PyData.weightAll es ≤ es.length * (W + 1)
theorem TameAll.nil {n W : Nat} : TameAll n W [] := ⟨by simp [PyData.showableAll], by simp [PyData.hasDictAll], by simp [PyData.depthAll], by simp [PyData.leavesShortAll], by simp [PyData.weightAll]⟩
theorem TameAll.cons {n W : Nat} {e : PyData} {es : List PyData} (t : Tame n W e) (h : TameAll n W es) : TameAll n W (e :: es) := by
  obtain ⟨a1, a2, a3, a4, a5⟩ := t
  obtain ⟨b1, b2, b3, b4, b5⟩ := h
  refine ⟨by simp [PyData.showableAll, a1, b1], by simp [PyData.hasDictAll, a2, b2], ?_, by simp [PyData.leavesShortAll, a4, b4], ?_⟩
  · simp only [PyData.depthAll]
    exact Nat.max_le.mpr ⟨a3, b3⟩
  · simp only [PyData.weightAll, List.length_cons, Nat.succ_mul]
    omega
theorem TameAll.of {n W : Nat} : ∀ {es : List PyData}, (∀ e ∈ es, Tame n W e) → TameAll n W es
  | [], _ => .nil
  | e :: es, h => .cons (h e List.mem_cons_self) (TameAll.of fun x hx => h x (List.mem_cons_of_mem _ hx))
theorem TameAll.list {n W k : Nat} {es : List PyData} (h : TameAll n W es) (few : es.length ≤ k) : Tame (n + 1) (k * (W + 1)) (.list es) := by
  obtain ⟨b1, b2, b3, b4, b5⟩ := h
  refine ⟨by simpa [PyData.showable] using b1, by simpa [PyData.hasDict] using b2, ?_, by simpa [PyData.leavesShort] using b4, ?_⟩
  · simp only [PyData.depth]
    omega
  · simp only [PyData.weight]
    exact Nat.le_trans b5 (Nat.mul_le_mul_right _ few)
theorem TameAll.tuple {n W k : Nat} {es : List PyData} (h : TameAll n W es) (few : es.length ≤ k) : Tame (n + 1) (k * (W + 1)) (.tuple es) := by
  obtain ⟨b1, b2, b3, b4, b5⟩ := h
  refine ⟨by simpa [PyData.showable] using b1, by simpa [PyData.hasDict] using b2, ?_, by simpa [PyData.leavesShort] using b4, ?_⟩
  · simp only [PyData.depth]
    omega
  · simp only [PyData.weight]
    exact Nat.le_trans b5 (Nat.mul_le_mul_right _ few)
theorem tame_none : Tame 0 40 .none := ⟨by decide +kernel, by decide +kernel, by decide +kernel, by decide +kernel, by decide +kernel⟩
theorem tame_bool (b : Bool) : Tame 0 40 (.bool b) := by cases b <;> exact ⟨by decide +kernel, by decide +kernel, by decide +kernel, by decide +kernel, by decide +kernel⟩
theorem log2_small {i : Int} (h : i.natAbs < 10 ^ 12) : i.natAbs.log2 ≤ 39 := by
  by_cases z : i.natAbs = 0
  · rw [z]
    decide
  · have := (Nat.log2_lt z (k := 40)).mpr (Nat.lt_trans h (by decide))
    omega
theorem tame_int {i : Int} (h : i.natAbs < 10 ^ 12) : Tame 0 40 (.int i) := by
  have l := log2_small h
  refine ⟨?_, by simp [PyData.hasDict], by simp [PyData.depth], ?_, ?_⟩
  · simp only [PyData.showable, decide_eq_true_eq]
    omega
  · simp only [PyData.leavesShort, decide_eq_true_eq]
    exact PyData.shown_int_le h
  · simp only [PyData.weight]
    split <;> omega
theorem tame_str {x : Str} (h : ∀ a ∈ x.cps.toList, a < 16 ^ 8) (few : x.length ≤ 40) : Tame 0 40 (.str x) := by
  refine ⟨by simp [PyData.showable], by simp [PyData.hasDict], by simp [PyData.depth], ?_, ?_⟩
  · simp only [PyData.leavesShort, List.all_eq_true, decide_eq_true_eq]
    exact h
  · simp only [PyData.weight]
    exact few

/-- signs glued -/
theorem glued (L : List Nat) : ∀ ys : List Str, (∀ y ∈ ys, ∃ a ∈ L, y = ⟨#[a]⟩) → (Str.join (Str.ofString "") ys).length = ys.length ∧ ∀ a ∈ (Str.join (Str.ofString "") ys).cps.toList, a ∈ L
  | [], _ => ⟨by decide, fun a ha => by
    have e : (Str.join (Str.ofString "") []).cps.toList = [] := by decide
    rw [e] at ha
    cases ha⟩
  | [y], h => by
    obtain ⟨a, ha, rfl⟩ := h y List.mem_cons_self
    refine ⟨rfl, fun b hb => ?_⟩
    have hb' : b ∈ [a] := hb
    rw [List.mem_singleton.mp hb']
    exact ha
  | y :: z :: r, h => by
    obtain ⟨a, ha, rfl⟩ := h y List.mem_cons_self
    obtain ⟨i1, i2⟩ := glued L (z :: r) fun x hx => h x (List.mem_cons_of_mem _ hx)
    have e : Str.join (Str.ofString "") (⟨#[a]⟩ :: z :: r) = (⟨#[a]⟩ ++ Str.ofString "") ++ Str.join (Str.ofString "") (z :: r) := rfl
    rw [e]
    refine ⟨?_, fun b hb => ?_⟩
    · rw [strLen_append, strLen_append, i1]
      have e1 : (Str.ofString "").length = 0 := by decide
      have e2 : (⟨#[a]⟩ : Str).length = 1 := rfl
      rw [e1, e2]
      simp
      omega
    · rw [cps_toList_append, cps_toList_append] at hb
      have e1 : (Str.ofString "").cps.toList = [] := by decide
      rw [e1, List.append_nil] at hb
      rcases List.mem_append.mp hb with q | q
      · have q' : b ∈ [a] := q
        rw [List.mem_singleton.mp q']
        exact ha
      · exact i2 b q
end Wb

set_option Elab.async false
set_option linter.all false
set_option maxRecDepth 100000
set_option maxHeartbeats 4000000
/-! Wf1: what fractions take of the language: // below 0, lcm, calls by names alone, a caught error looked at. -/
namespace Wb
open PySem PySem.Spec PyProof.Rows L2
section
variable {X : Cx}
/-- // by a divisor of either sign -/
def CDivS (_ j : Int) : Prop := j ≠ 0 ∧ j.natAbs.log2 < 9000
theorem op_fdivS : OpR X (binaryOp .FloorDiv) (rI CDivS fun i j => .int (i.fdiv j)) := opI fun i j _ _ _ _ _ hc q => floordiv_int hc.1 q (.inl (PyProof.noPylong_of_log2 hc.2))
def rLcm : List V → Hp → VK → Prop := fun vs H Q => ∃ a b : Int, vs = [.int a, .int b] ∧ a.natAbs < 2 ^ 9000 ∧ b.natAbs < 2 ^ 9000 ∧ Q (.int ((Nat.lcm a.natAbs b.natAbs : Nat) : Int)) H
theorem log_le {n k : Nat} (h : n < 2 ^ k) (h0 : 0 < k) : n.log2 < k := by
  by_cases z : n = 0
  · subst z
    rw [Nat.log2_zero]
    exact h0
  · exact (Nat.log2_lt z).mpr h
theorem cr_lcm : CallR X (.builtin "math.lcm") rLcm := by
  intro pins s σ H vs us Q I r h
  obtain ⟨a, b, rfl, ha, hb, q⟩ := h
  obtain ⟨t, u, rfl⟩ := Vals.int2 r
  have one9 : (1 : Nat) < 2 ^ 9000 := Nat.one_lt_two_pow (by decide)
  have h1 : (max 1 a.natAbs).log2 < 9000 := log_le (Nat.max_lt.mpr ⟨one9, ha⟩) (by decide)
  have h2 : (max a.natAbs b.natAbs).log2 < 9000 := log_le (Nat.max_lt.mpr ⟨ha, hb⟩) (by decide)
  have h3 : (Nat.lcm 1 a.natAbs).lcm b.natAbs = Nat.lcm a.natAbs b.natAbs := by rw [PySem.W.mc_lcm_one]
  have h4 : (Nat.lcm a.natAbs b.natAbs).log2 < 18000 := by
    refine log_le (Nat.lt_of_le_of_lt (PySem.W.mc_lcm_le _ _) ?_) (by decide)
    have e : (18000 : Nat) = 9000 + 9000 := rfl
    rw [e, Nat.pow_add]
    exact Nat.mul_lt_mul'' ha hb
  have h5 : ((((Nat.lcm 1 a.natAbs).lcm b.natAbs : Nat) : Int)).natAbs.log2 < bitsLine := by
    rw [h3, Int.natAbs_natCast]
    exact Nat.lt_trans h4 (by decide)
  refine call_function_meets PySem.W.MGF.kind_lcm PySem.W.MGF.plain_lcm PySem.W.MGF.entry_lcm (PySem.W.MGF.args_lcm _ _) (PySem.W.mg_run_lcm a t b u (by omega) (by omega) h5).meets ?_
  rw [h3]
  exact ⟨.int _, H, I.tok _, ⟨_, rfl⟩, q⟩
end
section
variable {X : Cx} {CX : CXT} {k : Nat} {f C : Addr} {fd : FuncData} {ps ks : List Str} {sp : Sp} {E : XK} {x m : Str} {p pos apos kpos : Pos} {e o : Expr} {es : List Expr} {kws : List Keyword} {te ta : TE} {t tk : TA} {nm : Option Str}
variable {g : List Value → List Value → List Value} {gV : List V → List V → List V}
def tCallK0 (sp : Sp) (gV : List V → List V → List V) (E : XK) (tk : TA) : TE := fun σ H Q => tk σ H fun zs H2 => sp (gV [] zs) H2 Q E
/-- f(k = v, ..), nothing by position -/
theorem pe_callK0 (F : FnOk X.prog X.w X.K X.mg X.base CX k f fd ps sp) (hr : Room k X.A) (hg : Gl X x) (hm : X.mg x = some (.ref f)) (hk : PySem.W.keepIn X.K (.ref f) = true) (hb : KBinds X.K fd ps ks g gV) (hx : Passes CX X E)
    (hkw : PK X kws tk) (hall : (backToKw pos (keywordEach kws X.env)).all (·.1.isSome) = true := by rfl) (hks : (backToKw pos (keywordEach kws X.env)).filterMap (·.1) = ks := by rfl)
    (hdb : (x == ("__debug__" : Str)) = false := by decide) (hpl : ((backTo pos (starEach [] X.env)).any (·.1) || (backToKw pos (keywordEach kws X.env)).any (·.1.isNone)) = false := by rfl) :
    PE X (.Call (.Name x p) [] kws pos) (tCallK0 sp gV E tk) := by
  refine ⟨fun pins s σ H Q I h => ?_⟩
  refine wpAny_Call_Name_kw (ld_glob I hg hm ?_ hdb)
  refine PySem.W.callWith_KW0 (h₀ := X.base) I.ok.mod.kin hk hall (thn (hkw.run pos pins s σ H _ I h) fun ws s2 ⟨zs, H2, I2, rz, q2⟩ => ⟨I2.kIn, ?_⟩) hpl
  rw [hks]
  exact run_fnk (us := []) (vs := []) F hr hb hx I2 .nil rz q2
end
/-- a def that may raise, where it doesn't -/
theorem quiet {P : Program} {w : World} {K : PySem.W.Frag} {mg : Str → Option Value} {base : Heap} {k : Nat} {f : Addr} {fd : FuncData} {ps : List Str} {sp : Sp} (F : FnOk P w K mg base (L2.CX P w) k f fd ps sp) :
    FnOk P w K mg base CX0 k f fd ps (fun vs H Q _ => sp vs H Q (fun _ _ _ => False)) :=
  ⟨fun vs H Q E h => F.len vs H Q _ h, fun A outer s H args us vs Q E hr he hb hv hs => by
    refine codeAny_mono (F.run A outer s H args us vs Q (fun _ _ _ => False) hr he hb hv hs) ?_
    intro r s' h
    match r, h with
    | .ok (.ret u), h => exact h
    | .error er, h =>
      obtain ⟨a, B, H', cls, d, _, _, _, _, _, _, _, z⟩ := h
      exact z.elim⟩
section
variable {X : Cx} {e : Expr} {te : TE} {pos : Pos} {a : Addr} {oe : Obj} {cls : Value} {d : Option Addr} {pn : List (Addr × Obj)} {f : Str}
theorem xd_at {P : Program} {w : World} {H : Hp} {h : Heap} {dd : Addr} {fs : List (Str × V)} (hok : HOk P w H h) (ea : H dd = some (.xd fs)) : ∃ mA, h.Ns1 dd mA ∧ ∀ g, RelO (fs.lookup g) (mA g) := by
  have hx : ObjOk P w H h dd (.xd fs) := hok dd _ ea
  obtain ⟨mA, hns, hr⟩ := hx
  exact ⟨mA, hns, hr⟩
/-- e.f, e the error that the suite holds -/
def tErrF (K : PySem.W.Frag) (a : Addr) (cls : Value) (d : Option Addr) (f : Str) (te : TE) : TE := fun σ H Q => te σ H fun x H1 => x = .ref a ∧ ∃ (C dd : Addr) (v : V), cls = .ref C ∧ d = some dd ∧ ErrC K C ∧ PySem.W.findIn K (.ref C) f = some none ∧ H1 dd = some (.xd [(f, v)]) ∧ Q v H1
theorem pe_errF (hz : Zc cls d oe) (hf : ∃ vs, oe.data = .fields vs) (he : PE (X.suite a ((a, oe) :: pn)) e te) (hb : attributeBase e f X.env (eval e X.env) = eval e X.env := by rfl) :
    PE (X.suite a ((a, oe) :: pn)) (.Attribute e f pos) (tErrF X.K a cls d f te) := by
  refine ⟨fun pins s σ H Q I h => ?_⟩
  refine attr_of hb (thn (he.run pins s σ H _ I h) fun u s1 hh => ?_)
  obtain ⟨x, H1, I1, rx, ex, C, dd, v, ec, ed, T, no, ea, q⟩ := hh
  subst ex
  obtain rfl : u = Value.ref a := rx
  subst ec
  subst ed
  obtain ⟨ha, _⟩ := I1.pin (a, oe) (List.mem_append_left _ List.mem_cons_self)
  obtain ⟨vs, hd⟩ := hf
  obtain ⟨mA, hns, hr⟩ := xd_at I1.hok ea
  obtain ⟨od, ho, hl⟩ := lookIn_ns hns
  have l : List.lookup f [(f, v)] = some v := by simp [List.lookup]
  obtain ⟨u, hu, ru⟩ := RelO.some_of (v := v) (o := mA f) (by rw [← l]; exact hr f)
  have J : PySem.W.InstAt s1.heap a oe C (some od) := ⟨ha, hz.1, by unfold PySem.W.notCls; rw [hd] <;> rfl, by rw [hz.2]; exact ho⟩
  exact HandSPX.exc_get I1.kIn J T.ga T.gg T.exc (PySem.W.findObj_own T.hd no rfl (by rw [hl, hu])) (handed_of ru) ⟨v, H1, I1.tok _, ru, q⟩
/-- isinstance(e, ..), e the error that the suite holds -/
def rIsX (K : PySem.W.Frag) (a : Addr) (cls : Value) (d : Option Addr) : List V → Hp → VK → Prop := fun xs H Q =>
  ∃ (C : Addr) (c : V) (cu : Value) (b : Bool), xs = [.ref a, c] ∧ cls = .ref C ∧ (∀ dd, d = some dd → ∃ fs, H dd = some (.xd fs)) ∧ ErrC K C ∧ ClsV c cu ∧ PySem.W.kitOne K (.ref C) cu = some b ∧ Q (.bl b) H
theorem call_isX (hz : Zc cls d oe) (hf : ∃ vs, oe.data = .fields vs) : CallR (X.suite a ((a, oe) :: pn)) (.builtin "isinstance") (rIsX X.K a cls d) := by
  intro pins s σ H xs us Q I r h
  obtain ⟨C, c, cu, b, rfl, ec, hod, T, kc, ek, q⟩ := h
  obtain ⟨u1, u2, rfl, r1, r2⟩ := vals2 r
  obtain rfl : u1 = Value.ref a := r1
  have e2 := kc.eq r2
  subst e2
  subst ec
  obtain ⟨ha, _⟩ := I.pin (a, oe) (List.mem_append_left _ List.mem_cons_self)
  obtain ⟨vs, hd⟩ := hf
  have cls : (PySem.W.clsIn X.K C).isSome = true := by
    obtain ⟨cd, hcd, _⟩ := PySem.W.any_some T.hd
    rw [hcd]
    rfl
  have fin : ∀ tk, EP (X.suite a ((a, oe) :: pn)) pins σ Q (.bool b) { s with toks := tk } := fun tk => ⟨.bl b, H, I.tok tk, rfl, q⟩
  have no : PySem.W.notCls oe = true := by unfold PySem.W.notCls; rw [hd] <;> rfl
  cases d with
  | none =>
    exact PySem.W.kia_one (PySem.W.kitx_exc (od := none) cls T.ga T.gg T.exc T.hc T.hn T.ht T.hm) I.kIn (⟨ha, hz.1, no, by rw [hz.2]; exact trivial⟩ : PySem.W.InstAt s.heap a oe C none) ek (fun z => nomatch z) fin
  | some dx =>
    obtain ⟨fs, ed⟩ := hod dx rfl
    obtain ⟨mA, hns, _⟩ := xd_at I.hok ed
    obtain ⟨od, ho, _⟩ := lookIn_ns hns
    exact PySem.W.kia_one (PySem.W.kitx_exc (od := some od) cls T.ga T.gg T.exc T.hc T.hn T.ht T.hm) I.kIn (⟨ha, hz.1, no, by rw [hz.2]; exact ho⟩ : PySem.W.InstAt s.heap a oe C (some od)) ek (fun z => nomatch z) fin
end
end Wb

set_option Elab.async false
set_option linter.all false
set_option maxRecDepth 100000
set_option maxHeartbeats 4000000
/-! Wc0: a def by its name: what may be called (Cal, CalG), the rules of its calls, how one comes to be. -/
namespace Wb
open PySem PySem.Spec PyProof.Rows L2
/-- the def's record -/
def FdOf (x : Str) (st : Stmt) (fd : FuncData) : Prop := ∃ (kV dc pm : Value) (an : Option Addr) (cd ct : Value), fd = PySem.W.fnOf x x (defArgs st) (defBody st) (defScope st) .none kV dc pm an cd ct
section
variable (P : Program) (w : World) (K : PySem.W.Frag) (mg : Str → Option Value) (base : Heap)
/-- the def of this name, promised -/
def Cal (CX : CXT) (k : Nat) (x : Str) (st : Stmt) (ps : List Str) (sp : Sp) : Prop := ∃ (f : Addr) (fd : FuncData), FnOk P w K mg base CX k f fd ps sp ∧ mg x = some (.ref f) ∧ PySem.W.keepIn K (.ref f) = true ∧ Binds K fd ps [] ∧ FdOf x st fd
/-- .. where no repr runs -/
def CalG (CX : CXT) (k : Nat) (x : Str) (st : Stmt) (ps : List Str) (sp : Sp) : Prop := ∃ (f : Addr) (fd : FuncData), FnG P w K mg base CX k f fd ps sp ∧ mg x = some (.ref f) ∧ PySem.W.keepIn K (.ref f) = true ∧ Binds K fd ps [] ∧ FdOf x st fd
/-- the def of this name as it stands in the text -/
def Def (K : PySem.W.Frag) (mg : Str → Option Value) (x : Str) (st : Stmt) (ps : List Str) : Prop := ∃ (f : Addr) (fd : FuncData), Fun K x x st f fd ∧ mg x = some (.ref f) ∧ Binds K fd ps [] ∧ FdOf x st fd
end
section
variable {P : Program} {w : World} {K : PySem.W.Frag} {mg : Str → Option Value} {base : Heap} {CX : CXT} {k : Nat} {x : Str} {N ps : List Str} {sp : Sp} {st : Stmt}
theorem Cal.G (C : Cal P w K mg base CX k x st ps sp) : CalG P w K mg base CX k x st ps sp := by
  obtain ⟨f, fd, F, m, kp, b, o⟩ := C
  exact ⟨f, fd, .of F, m, kp, b, o⟩
theorem Cal.quiet (C : Cal P w K mg base (L2.CX P w) k x st ps sp) : Cal P w K mg base CX0 k x st ps (fun vs H Q _ => sp vs H Q (fun _ _ _ => False)) := by
  obtain ⟨f, fd, F, m, kp, b, o⟩ := C
  exact ⟨f, fd, Wb.quiet F, m, kp, b, o⟩
theorem Cal.weaken {sp' : Sp} (C : Cal P w K mg base CX k x st ps sp) (h : ∀ vs H Q E, sp' vs H Q E → sp vs H Q E) : Cal P w K mg base CX k x st ps sp' := by
  obtain ⟨f, fd, F, m, kp, b, o⟩ := C
  exact ⟨f, fd, ⟨fun vs H Q E z => F.len vs H Q E (h _ _ _ _ z), fun A outer s H args us vs Q E hr he hb hv hs => F.run A outer s H args us vs Q E hr he hb hv (h _ _ _ _ hs)⟩, m, kp, b, o⟩
theorem Def.ok (D : Def K mg x st ps) (S : FnScope N ps (defScope st)) (len : ∀ vs H Q E, sp vs H Q E → vs.length = ps.length)
    (hbody : ∀ (cdv : Value) (f : Addr) (A : Around) (outer : List Env) (s : Shared) (H : Hp) (vs : List V) (Q : VK) (E : XK), Room k (A.deeper (envOfC x (defScope st) s.heap.objs.size f cdv)) → sp vs H Q E →
      ∃ t, PSs (cxOf CX0 P w K mg base N x (defScope st) f cdv A outer s H E).nox (defBody st) t ∧ t { nx := fun _ H' => Q .non H', rt := Q } (start N vs) H) : Cal P w K mg base CX0 (k + 1) x st ps sp := by
  obtain ⟨f, fd, F, m, b, o⟩ := D
  exact ⟨f, fd, F.ok S len fun cdv => hbody cdv f, m, F.kp, b, o⟩
theorem Def.okX (D : Def K mg x st ps) (S : FnScope N ps (defScope st)) (len : ∀ vs H Q E, sp vs H Q E → vs.length = ps.length)
    (hbody : ∀ (cdv : Value) (f : Addr) (A : Around) (outer : List Env) (s : Shared) (H : Hp) (vs : List V) (Q : VK) (E : XK), Room k (A.deeper (envOfC x (defScope st) s.heap.objs.size f cdv)) → sp vs H Q E →
      ∃ t, PSs (cxOf (L2.CX P w) P w K mg base N x (defScope st) f cdv A outer s H E) (defBody st) t ∧ t { nx := fun _ H' => Q .non H', rt := Q } (start N vs) H) : Cal P w K mg base (L2.CX P w) (k + 1) x st ps sp := by
  obtain ⟨f, fd, F, m, b, o⟩ := D
  exact ⟨f, fd, F.okX S len fun cdv => hbody cdv f, m, F.kp, b, o⟩
theorem Def.okG (D : Def K mg x st ps) (S : FnScope N ps (defScope st)) (len : ∀ vs H Q E, sp vs H Q E → vs.length = ps.length)
    (hbody : ∀ (cdv : Value) (f : Addr) (A : Around) (outer : List Env) (s : Shared) (H : Hp) (vs : List V) (Q : VK) (E : XK),
      (A.deeper (envOfC x (defScope st) s.heap.objs.size f cdv)).guards = some [] → Room k (A.deeper (envOfC x (defScope st) s.heap.objs.size f cdv)) → sp vs H Q E →
      ∃ t, PSs (cxOf CX P w K mg base N x (defScope st) f cdv A outer s H E) (defBody st) t ∧ t { nx := fun _ H' => Q .non H', rt := Q } (start N vs) H) : CalG P w K mg base CX (k + 1) x st ps sp := by
  obtain ⟨f, fd, F, m, b, o⟩ := D
  exact ⟨f, fd, Wb.okG F S len fun cdv => hbody cdv f, m, F.kp, b, o⟩
end
section
variable {X : Cx} {CX : CXT} {k : Nat} {ps ks : List Str} {sp : Sp} {E : XK} {x : Str} {st : Stmt} {p pos : Pos} {e : Expr} {es : List Expr} {t : TA}
theorem pe_cal (C : Cal X.prog X.w X.K X.mg X.base CX k x st ps sp) (hr : Room k X.A) (hg : Gl X x) (hx : Passes CX X E)
    (ha : PA X (e :: es) t) (hdb : (x == ("__debug__" : Str)) = false := by decide) (he : starEach (e :: es) X.env = (false, eval e X.env) :: starEach es X.env := by rfl) (hpl : (backTo pos (starEach es X.env)).any (·.1) = false := by rfl) :
    PE X (.Call (.Name x p) (e :: es) [] pos) (tCall sp [] E t) := by
  obtain ⟨f, fd, F, m, kp, b, o⟩ := C
  exact pe_call F hr hg m kp b .nil hx ha hdb he hpl
theorem pe_cal0 (C : Cal X.prog X.w X.K X.mg X.base CX k x st ps sp) (hr : Room k X.A) (hg : Gl X x) (hx : Passes CX X E) (hdb : (x == ("__debug__" : Str)) = false := by decide) : PE X (.Call (.Name x p) [] [] pos) (tCall sp [] E tNil) := by
  obtain ⟨f, fd, F, m, kp, b, o⟩ := C
  exact pe_call0 F hr hg m kp b .nil hx hdb
theorem pe_calG (C : CalG X.prog X.w X.K X.mg X.base CX k x st ps sp) (gd : X.A.guards = some []) (hr : Room k X.A) (hg : Gl X x) (hx : Passes CX X E)
    (ha : PA X (e :: es) t) (hdb : (x == ("__debug__" : Str)) = false := by decide) (he : starEach (e :: es) X.env = (false, eval e X.env) :: starEach es X.env := by rfl) (hpl : (backTo pos (starEach es X.env)).any (·.1) = false := by rfl) :
    PE X (.Call (.Name x p) (e :: es) [] pos) (tCall sp [] E t) := by
  obtain ⟨f, fd, F, m, kp, b, o⟩ := C
  exact pe_callG F gd hr hg m kp b .nil hx ha hdb he hpl
/-- a def that may raise, called where it is caught, or let out -/
theorem pe_calS {E : L2.St → XK} (C : Cal X.prog X.w X.K X.mg X.base CX k x st ps sp) (hr : Room k X.A) (hg : Gl X x) (hx : ∀ σ, PassesAt CX X σ (E σ))
    (ha : PA X (e :: es) t) (hdb : (x == ("__debug__" : Str)) = false := by decide) (he : starEach (e :: es) X.env = (false, eval e X.env) :: starEach es X.env := by rfl) (hpl : (backTo pos (starEach es X.env)).any (·.1) = false := by rfl) :
    PE X (.Call (.Name x p) (e :: es) [] pos) (tCallS sp E t) := by
  obtain ⟨f, fd, F, m, kp, b, o⟩ := C
  exact pe_callS F hr hg m kp b hx ha hdb he hpl
end
/-- f(k = v, ..): ix tells, for each parameter, the place of its keyword among those written -/
def kwV (ix : List Nat) (zs : List V) : List V := ix.map fun i => zs.getD i .non
def kwU (ix : List Nat) (zs : List Value) : List Value := ix.map fun i => zs.getD i .none
theorem kw_rel {vs : List V} {us : List Value} (r : Vals vs us) : ∀ ix : List Nat, Vals (kwV ix vs) (kwU ix us)
  | [] => .nil
  | i :: ix => by
    refine .cons ?_ (kw_rel r ix)
    have go : ∀ {vs : List V} {us : List Value}, Vals vs us → ∀ i : Nat, RelV (vs.getD i .non) (us.getD i .none) := by
      intro vs us r
      induction r with
      | nil => intro i; exact rfl
      | cons h _ ih =>
        intro i
        cases i with
        | zero => exact h
        | succ i => exact ih i
    exact go r i
/-- how the keywords of such a call bind -/
def Kw (x : Str) (st : Stmt) (ps ks : List Str) (ix : List Nat) : Prop := ix.length = ps.length ∧ ∀ (kV dc pm : Value) (an : Option Addr) (cd ct : Value) (s : Shared) (ws : List Value), ws.length = ks.length →
  BindsTo s (PySem.W.fnOf x x (defArgs st) (defBody st) (defScope st) .none kV dc pm an cd ct) ⟨[], ks.zip ws⟩ (ps.zip (kwU ix ws))
section
variable {X : Cx} {CX : CXT} {k : Nat} {ps ks : List Str} {sp : Sp} {E : XK} {x : Str} {p pos : Pos} {st : Stmt} {kws : List Keyword} {tk : TA} {ix : List Nat}
def tCalK (sp : Sp) (ix : List Nat) (n : Nat) (E : XK) (tk : TA) : TE := fun σ H Q => tk σ H fun zs H2 => zs.length = n ∧ sp (kwV ix zs) H2 Q E
theorem pe_calK (C : Cal X.prog X.w X.K X.mg X.base CX k x st ps sp) (hr : Room k X.A) (hg : Gl X x) (hx : Passes CX X E) (hb : Kw x st ps ks ix)
    (hkw : PK X kws tk) (hall : (backToKw pos (keywordEach kws X.env)).all (·.1.isSome) = true := by rfl) (hks : (backToKw pos (keywordEach kws X.env)).filterMap (·.1) = ks := by rfl)
    (hdb : (x == ("__debug__" : Str)) = false := by decide) (hpl : ((backTo pos (starEach [] X.env)).any (·.1) || (backToKw pos (keywordEach kws X.env)).any (·.1.isNone)) = false := by rfl) :
    PE X (.Call (.Name x p) [] kws pos) (tCalK sp ix ks.length E tk) := by
  obtain ⟨f, fd, F, m, kp, b, ⟨kV, dc, pm, an, cd, ct, rfl⟩⟩ := C
  refine ⟨fun pins s σ H Q I h => ?_⟩
  refine wpAny_Call_Name_kw (ld_glob I hg m ?_ hdb)
  refine PySem.W.callWith_KW0 (h₀ := X.base) I.ok.mod.kin kp hall (thn (hkw.run pos pins s σ H _ I h) fun ws s2 ⟨zs, H2, I2, rz, hl, q2⟩ => ⟨I2.kIn, ?_⟩) hpl
  rw [hks]
  have hl2 : ws.length = ks.length := by rw [← rz.length]; exact hl
  have r2 := kw_rel rz ix
  refine wpAny_call (codeAny_mono (F.run X.A X.stack s2 H2 ⟨[], ks.zip ws⟩ (kwU ix ws) (kwV ix zs) _ E hr I2.env0 (hb.2 _ _ _ _ _ _ s2 ws hl2) r2 q2) fun r s' hq => ?_)
  cases r with
  | error e => exact hx pins σ H2 s2 e s' I2 hq
  | ok fl =>
    cases fl with
    | ret u => exact I2.after hq
    | next => exact False.elim hq
    | brk => exact False.elim hq
    | cont => exact False.elim hq
theorem pe_calKG (C : CalG X.prog X.w X.K X.mg X.base CX k x st ps sp) (gd : X.A.guards = some []) (hr : Room k X.A) (hg : Gl X x) (hx : Passes CX X E) (hb : Kw x st ps ks ix)
    (hkw : PK X kws tk) (hall : (backToKw pos (keywordEach kws X.env)).all (·.1.isSome) = true := by rfl) (hks : (backToKw pos (keywordEach kws X.env)).filterMap (·.1) = ks := by rfl)
    (hdb : (x == ("__debug__" : Str)) = false := by decide) (hpl : ((backTo pos (starEach [] X.env)).any (·.1) || (backToKw pos (keywordEach kws X.env)).any (·.1.isNone)) = false := by rfl) :
    PE X (.Call (.Name x p) [] kws pos) (tCalK sp ix ks.length E tk) := by
  obtain ⟨f, fd, F, m, kp, b, ⟨kV, dc, pm, an, cd, ct, rfl⟩⟩ := C
  refine ⟨fun pins s σ H Q I h => ?_⟩
  refine wpAny_Call_Name_kw (ld_glob I hg m ?_ hdb)
  refine PySem.W.callWith_KW0 (h₀ := X.base) I.ok.mod.kin kp hall (thn (hkw.run pos pins s σ H _ I h) fun ws s2 ⟨zs, H2, I2, rz, hl, q2⟩ => ⟨I2.kIn, ?_⟩) hpl
  rw [hks]
  have hl2 : ws.length = ks.length := by rw [← rz.length]; exact hl
  have r2 := kw_rel rz ix
  refine wpAny_call (codeAny_mono (F.go X.A X.stack s2 H2 ⟨[], ks.zip ws⟩ (kwU ix ws) (kwV ix zs) _ E gd hr I2.env0 (hb.2 _ _ _ _ _ _ s2 ws hl2) r2 q2) fun r s' hq => ?_)
  cases r with
  | error e => exact hx pins σ H2 s2 e s' I2 hq
  | ok fl =>
    cases fl with
    | ret u => exact I2.after hq
    | next => exact False.elim hq
    | brk => exact False.elim hq
    | cont => exact False.elim hq
end
/-! ### what the head finds -/
/-- a def as the top has left it -/
def FnF (K : PySem.W.Frag) (nm q : Str) (st : Stmt) (f : Addr) : Prop := ∃ (oc : Value) (od : Option Addr) (kV dc pm : Value) (an : Option Addr) (cd ct : Value) (sl : Array (Option Value)),
  K.lookup f = some ⟨oc, od, .func (PySem.W.fnOf nm q (defArgs st) (defBody st) (defScope st) .none kV dc pm an cd ct), sl⟩ ∧ PySem.W.codeIn K cd q = true ∧ PySem.W.keepIn K (.ref f) = true
theorem FnF.mk2 {K : PySem.W.Frag} {nm q : Str} {st : Stmt} {f : Addr} {oc : Value} {od : Option Addr} {kV dc pm : Value} {an : Option Addr} {cd ct : Value} {sl : Array (Option Value)}
    (l : K.lookup f = some ⟨oc, od, .func (PySem.W.fnOf nm q (defArgs st) (defBody st) (defScope st) .none kV dc pm an cd ct), sl⟩) (c : PySem.W.codeIn K cd q = true) (k : PySem.W.keepIn K (.ref f) = true) : FnF K nm q st f := ⟨oc, od, kV, dc, pm, an, cd, ct, sl, l, c, k⟩
theorem FnF.def_ {K : PySem.W.Frag} {mg : Str → Option Value} {h : Heap} (X : K.In h) (G : h.Ns mainGlobals mg) {x : Str} {st : Stmt} {ps : List Str} {f : Addr} (z : PySem.W.nsIn K mainGlobals x = some (some (.ref f))) (y : FnF K x x st f)
    (b : ∀ (kV doc pm : Value) (an : Option Addr) (cdv ct : Value) (us : List Value), us.length = ps.length → bindArgs (PySem.W.fnOf x x (defArgs st) (defBody st) (defScope st) .none kV doc pm an cdv ct) ⟨us, []⟩ = pure (ps.zip us)) : Def K mg x st ps := by
  obtain ⟨oc, od, kV, dc, pm, an, cd, ct, sl, l, c, kp⟩ := y
  exact ⟨f, _, fun_mk l c kp, PySem.W.mg_of X G z, .all (b kV dc pm an cd ct), kV, dc, pm, an, cd, ct, rfl⟩
end Wb

set_option Elab.async false
set_option linter.all false
set_option maxRecDepth 100000
set_option maxHeartbeats 4000000
/-! Wc1: own exceptions by their names: what the head finds of them, how they are raised, caught, asked. -/
namespace Wb
open PySem PySem.Spec PyProof.Rows L2
section
variable {K : PySem.W.Frag}
/-- an own exception's class as the top has left it: what stands above it in its chain, and how it is made -/
def ClsRow (K : PySem.W.Frag) (C : Addr) (top : List Value) (newId : String) : Prop :=
  ∃ (nm q : Str) (N : Addr) (bs : List Value) (sn : List Str) (sub : List Value) (ab : Bool) (col : Option Bool) (dd : Option Addr) (k0 k1 k2 k3 k5 : Option Value),
    K.lookup C = some (excClassObj nm q C N bs top true sn sub ab col dd k0 k1 k2 k3 k5 newId)
structure EF (K : PySem.W.Frag) (C : Addr) (top : List Value) (newId : String) : Prop where
  row : ClsRow K C top newId
  sa : PySem.W.findIn K (.ref C) "__setattr__" = some (some (.builtin "object.__setattr__"))
  ga : PySem.W.findIn K (.ref C) "__getattribute__" = some (some (.builtin "BaseException.__getattribute__"))
  gg : PySem.W.findIn K (.ref C) "__getattr__" = some none
  exc : PySem.W.subIn K (.ref C) (.type "BaseException") = some true
  ty : PySem.W.typeIn K (.ref C) = some (.type "type")
  hd : PySem.W.hasDictIn K C = true
  kp : PySem.W.keepIn K (.ref C) = true
  hc : PySem.W.findIn K (.ref C) "__class__" = some (some (.builtin "object.__class__"))
  hm : PySem.W.mroIn K C (.type "object") = some true
theorem EF.err {C : Addr} {top : List Value} {newId B initId S : String} {bmB bmS : List Value} (e : EF K C top newId) (FB : PySem.ExcBaseFacts B newId initId bmB) (SF : PySem.StoreFacts S bmS "object.__setattr__" "object") (ch : PySem.WbE.Chain top B)
    (tl : PySem.W.excTail bmS top = true) (hn : PySem.W.specialIn K (.builtin "object.__class__") "__get__" = some (some (.builtin "getset_descriptor.__get__"))) (ht : PySem.W.takesIn K (.builtin "object.__class__") = some true) : ErrC K C := by
  obtain ⟨nm, q, N, bs, sn, sub, ab, col, dd, k0, k1, k2, k3, k5, xL⟩ := e.row
  refine ⟨⟨B, newId, initId, bmB, nm, q, N, bs, top, sn, sub, ab, col, dd, k0, k1, k2, k3, k5, FB, ch, xL⟩, ⟨S, bmS, SF, ?_⟩, e.sa, e.ga, e.gg, e.exc, e.ty, e.hd, e.kp, e.hc, hn, ht, e.hm⟩
  unfold PySem.W.excOver PySem.W.clsIn
  rw [xL]
  show (C == C && PySem.W.excTail bmS top) = true
  rw [tl]
  simp
/-- what is below what -/
structure Row (K : PySem.W.Frag) (C : Addr) (top : List Value) : Prop where
  sub : ∀ v, PySem.W.subIn K (.ref C) v = some ((Value.ref C :: top).contains v)
  cls : (PySem.W.clsIn K C).isSome = true
  ty : PySem.W.typeIn K (.ref C) = some (.type "type")
theorem EF.chain {C : Addr} {top : List Value} {newId : String} (e : EF K C top newId) : Row K C top := by
  obtain ⟨nm, q, N, bs, sn, sub, ab, col, dd, k0, k1, k2, k3, k5, xL⟩ := e.row
  refine ⟨fun v => ?_, ?_, e.ty⟩
  · show PySem.W.mroIn K C v = _
    unfold PySem.W.mroIn PySem.W.clsIn
    rw [xL]
    rfl
  · unfold PySem.W.clsIn
    rw [xL]
    rfl
theorem Row.one_ty {C : Addr} {top : List Value} {X : String} (r : Row K C top) (km : PySem.W.kitMeta X = true) : PySem.W.kitOne K (.ref C) (.type X) = some (top.contains (.type X)) := by
  unfold PySem.W.kitOne
  rw [if_neg (by simp)]
  show (if PySem.W.kitMeta X = true then PySem.W.subIn K (.ref C) (.type X) else none) = _
  rw [if_pos km, r.sub]
  simp
theorem Row.one_ref {C D : Addr} {top up : List Value} (r : Row K C top) (r2 : Row K D up) : PySem.W.kitOne K (.ref C) (.ref D) = some (decide (C = D) || top.contains (.ref D)) := by
  unfold PySem.W.kitOne
  by_cases h : C = D
  · subst h
    rw [if_pos (by simp)]
    simp
  · rw [if_neg (by simpa using h)]
    show (if ((PySem.W.clsIn K D).isSome && PySem.W.typeIn K (.ref D) == some (.type "type")) = true then PySem.W.subIn K (.ref C) (.ref D) else none) = _
    rw [r2.cls, r2.ty, if_pos (by simp), r.sub]
    have h' : ¬ D = C := fun e => h e.symm
    simp [h, h']
theorem Row.exm_ref {C D : Addr} {top up : List Value} (r : Row K C top) (r2 : Row K D up) (b : up.contains (.type "BaseException") = true) : PySem.W.exmOne K (.ref C) (.ref D) = some (decide (C = D) || top.contains (.ref D)) := by
  unfold PySem.W.exmOne
  rw [r2.sub, if_pos (by rw [List.contains_cons, b]; simp)]
  show (if ((PySem.W.clsIn K D).isSome && PySem.W.typeIn K (.ref D) == some (.type "type")) = true then PySem.W.subIn K (.ref C) (.ref D) else none) = _
  rw [r2.cls, r2.ty, if_pos (by simp), r.sub]
  by_cases h : C = D
  · subst h
    simp
  · have h' : ¬ D = C := fun e => h e.symm
    simp [h, h']
theorem Row.exm_ty {C : Addr} {top : List Value} {X : String} (r : Row K C top) (km : PySem.W.kitMeta X = true) (b : PySem.W.subIn K (.type X) (.type "BaseException") = some true) : PySem.W.exmOne K (.ref C) (.type X) = some (top.contains (.type X)) := by
  unfold PySem.W.exmOne
  rw [b, if_pos (by simp)]
  show (if PySem.W.kitMeta X = true then PySem.W.subIn K (.ref C) (.type X) else none) = _
  rw [if_pos km, r.sub]
  simp
theorem ClsRow.mk2 {C : Addr} {top : List Value} {newId : String} {nm q : Str} {N : Addr} {bs : List Value} {sn : List Str} {sub : List Value} {ab : Bool} {col : Option Bool} {dd : Option Addr} {k0 k1 k2 k3 k5 : Option Value}
    (l : K.lookup C = some (excClassObj nm q C N bs top true sn sub ab col dd k0 k1 k2 k3 k5 newId)) : ClsRow K C top newId := ⟨nm, q, N, bs, sn, sub, ab, col, dd, k0, k1, k2, k3, k5, l⟩

end
def topE (CB : Addr) : List Value := [.ref CB, .type "Exception", .type "BaseException", .type "object"]
def topK : List Value := [.type "KeyError", .type "LookupError", .type "Exception", .type "BaseException", .type "object"]
def topB : List Value := [.type "Exception", .type "BaseException", .type "object"]
section
variable (P : Program) (w : World) (K : PySem.W.Frag) (mg : Str → Option Value) (base : Heap)
/-- an own exception with one field -/
structure Err (x fld : Str) (C : Addr) (top : List Value) : Prop where
  T : ErrC K C
  g : mg x = some (.ref C)
  row : Row K C top
  no : PySem.W.findIn K (.ref C) fld = some none
  ini : ∃ (fI : Addr) (fd : FuncData), PySem.W.findIn K (.ref C) "__init__" = some (some (.ref fI)) ∧ PySem.W.typeIn K (.ref fI) = some (.type "function") ∧ FnOk P w K mg base CX0 1 fI fd ["self", fld] (spIni C fld) ∧ Binds K fd ["self", fld] []
/-- an own exception without fields -/
structure ErrB (K : PySem.W.Frag) (mg : Str → Option Value) (x : Str) (C : Addr) (top : List Value) : Prop where
  T : ErrC K C
  g : mg x = some (.ref C)
  row : Row K C top
end
section
variable {P : Program} {w : World} {K : PySem.W.Frag} {mg : Str → Option Value} {base : Heap} {x fld y g : Str} {C D B : Addr} {top : List Value}
theorem Err.exm_self (Z : Err P w K mg base x fld C top) (h : top.contains (.type "BaseException") = true) : PySem.W.exmOne K (.ref C) (.ref C) = some true := by
  rw [Z.row.exm_ref Z.row h]
  simp
theorem Err.is_self (Z : Err P w K mg base x fld C top) : PySem.W.kitOne K (.ref C) (.ref C) = some true := by
  rw [Z.row.one_ref Z.row]
  simp
theorem Err.is_base (Z : Err P w K mg base x fld C (topE B)) (ZB : ErrB K mg y B topB) : PySem.W.kitOne K (.ref C) (.ref B) = some true := by
  rw [Z.row.one_ref ZB.row]
  simp [topE]
theorem Err.isnt {up : List Value} (Z : Err P w K mg base x fld C (topE B)) (Y : Err P w K mg base y g D up) (h1 : C ≠ D) (h2 : D ≠ B) : PySem.W.kitOne K (.ref C) (.ref D) = some false := by
  rw [Z.row.one_ref Y.row]
  simp [topE, h1, h2]
end
section
variable {X : Cx} {x fld : Str} {C : Addr} {top : List Value} {k : Nat} {p pos : Pos} {e : Expr} {es : List Expr} {ta : TA}
/-- raise C(e) -/
theorem pmk_E (Z : Err X.prog X.w X.K X.mg X.base x fld C top) (hr : Room k X.A) (hk : 2 ≤ k) (hg : Gl X x) (ha : PA X (e :: es) ta) (hdb : (x == ("__debug__" : Str)) = false := by decide)
    (he : starEach (e :: es) X.env = (false, eval e X.env) :: starEach es X.env := by rfl) (hpl : (backTo pos (starEach es X.env)).any (·.1) = false := by rfl) : PMk X (.Call (.Name x p) (e :: es) [] pos) (tErrX C fld ta) := by
  obtain ⟨fI, fd, iC, tI, F1, hb⟩ := Z.ini
  exact pmk_err Z.T iC tI F1 (hr.mono hk) hb pass0 hg Z.g ha hdb he hpl
end
end Wb

set_option Elab.async false
set_option linter.all false
set_option maxRecDepth 100000
set_option maxHeartbeats 4000000
/-! Wc2: the law's own call, for a def by its name; the head's ends. -/
namespace Wb
open PySem PySem.Spec PyProof.Rows L2

/-- the law's def, promised where no repr runs, called from outside -/
theorem lawG2 {P : Program} {w : World} {K : PySem.W.Frag} {mg mb : Str → Option Value} {CX : CXT} {k : Nat} {fa a : Addr} {x : Str} {sp : Sp} {st : Shared} {vs : List Value} {ns : List Int}
    (inK : K.In st.heap) (names : st.heap.Ns mainGlobals mg) (bns : st.heap.Ns builtinsNs mb) (boot : ∀ x : Str, x ≠ "__name__" → mb x = bootBuiltins x) (lim : st.heap.NoLimit) (nogen : st.gens = #[])
    (atA : st.heap.get? a = some { cls := .type "list", data := .seq vs.toArray }) (areInts : IntsAre vs ns) (short : ns.length ≤ sizeLine) (room : Room k callerA)
    (F : ∀ base : Heap, K.In base → base.Ns mainGlobals mg → ∃ fd : FuncData, (∀ (s : Shared) (u : Value), BindsTo s fd ⟨[u], []⟩ [(x, u)]) ∧ FnG P w K mg base CX k fa fd [x] sp)
    (want : ∀ H : Hp, Only H → SqL K H a (ns.map V.int) → sp [.ref a] H (fun v _ => v = .bl true) fun _ _ _ => False)
    (noX : ∀ H e s', CX [] H st (fun _ _ _ => False) e s' → False) :
    codeAny (model P w) callerA (.call (.ref fa) ⟨[.ref a], []⟩) (fun r s' => r = .ok (.ret (.bool true)) ∧ OldK st.heap s'.heap ∧ s'.os = st.os ∧ AllBare s'.gens) st := by
  have rel := vals_ints areInts
  have same := areInts.length
  -- what is told of any abstract heap that tracks the script at most
  suffices go : ∀ H : Hp, Only H → SqL K H a (ns.map V.int) → HOk P w H st.heap → (∀ b, H b ≠ none → b = a) → (H a ≠ none → K.lookup a = none) →
      codeAny (model P w) callerA (.call (.ref fa) ⟨[.ref a], []⟩) (fun r s' => r = .ok (.ret (.bool true)) ∧ OldK st.heap s'.heap ∧ s'.os = st.os ∧ AllBare s'.gens) st by
    rcases own : K.lookup a with _ | ob
    · -- the script is tracked, as a thing that stands still
      let frozen : HO := .frz { cls := .type "list", data := .seq vs.toArray } (.lst (ns.map V.int))
      refine go (fun b => if b = a then some frozen else none) ?_ ?_ ?_ ?_ (fun _ => own)
      · intro b
        by_cases e : b = a
        · exact Or.inr ⟨_, _, if_pos e⟩
        · exact Or.inl (if_neg e)
      · exact Or.inl (Or.inr ⟨_, if_pos rfl⟩)
      · intro b u e
        by_cases h : b = a
        · subst h
          cases (if_pos rfl).symm.trans e
          exact ⟨atA, by simpa using short, vs, _, rel, atA⟩
        · cases (if_neg h).symm.trans e
      · intro b e
        by_cases h : b = a
        · exact h
        · exact absurd (if_neg h) e
    · -- the script is one of the module's own objects
      have there := inK a ob own
      rw [atA] at there
      cases there
      refine go (fun _ => none) (fun _ => Or.inl rfl) ?_ (fun b u e => ?_) (fun b e => absurd rfl e) (fun e => absurd rfl e)
      · exact Or.inr ⟨_, vs.toArray, _, own, rfl, rfl, rfl, by rw [List.size_toArray, same]; exact short, by simpa using rel⟩
      · have e' : (none : Option HO) = some u := e
        cases e'
  intro H only seq ok just notK
  have keepB : ∀ {b : Addr} {o : Obj}, st.heap.get? b = some o → H b = none → (hidT st.heap H).get? b = some o := fun e n => hidT_get e n
  have dictFree : ∀ {b : Addr} {o : Obj} {es : Array DictEntry} {ep : Nat}, st.heap.get? b = some o → o.data = .dict es ep → H b = none := by
    intro b o es ep e d
    by_cases q : H b = none
    · exact q
    · have h := just b q
      subst h
      rw [atA] at e
      cases e
      have d' : Data.seq vs.toArray _ = Data.dict es ep := d
      cases d'
  have nsIn : ∀ {b : Addr} {m : Str → Option Value}, st.heap.Ns b m → (hidT st.heap H).Ns b m := by
    rintro b m ⟨o, es, ep, e, d, r⟩
    exact ⟨o, es, ep, keepB e (dictFree e d), d, r⟩
  have inBase : K.In (hidT st.heap H) := by
    intro b o e
    refine keepB (inK b o e) ?_
    by_cases q : H b = none
    · exact q
    · have h := just b q
      subst h
      rw [notK q] at e
      cases e
  have md : Mod K mg (hidT st.heap H) := by
    obtain ⟨mc, l1, l2⟩ := lim
    exact ⟨inBase, nsIn names, ⟨mb, nsIn bns, boot⟩, ⟨mc, nsIn l1, l2⟩⟩
  have env0 : Env0 P w K mg (hidT st.heap H) callerA [] st H :=
    ⟨rfl, md, fun b o e => of_hidT e, Nat.le_of_eq (hidT_size _ _), trivial, fun b hb => absurd (show b ∈ ([] : List Addr) from hb) (by simp), ok, .of_eq nogen⟩
  obtain ⟨fd, bind1, FF⟩ := F _ inBase (nsIn names)
  have ran := FF.go callerA [] st H ⟨[.ref a], []⟩ [.ref a] [.ref a] _ _ rfl room env0 (bind1 st (.ref a)) (.cons rfl .nil) (want H only seq)
  refine codeAny_mono ran ?_
  intro r s' h
  match r, h with
  | .error e, h => exact (noX H e s' h).elim
  | .ok (.ret u), h =>
    obtain ⟨v, H', os, bare, un, ok', rv, q⟩ := h
    have q' : v = .bl true := q
    subst q'
    obtain rfl : u = Value.bool true := rv
    refine ⟨rfl, OldK.of_keep ?_, os, bare⟩
    intro b o e
    by_cases q : H b = none
    · exact un.keep b o e q (fun z => absurd (show b ∈ ([] : List Addr) from z) (by simp)) (by simp)
    · rcases only b with z | ⟨ob, xs, z⟩
      · exact absurd z q
      · obtain ⟨e1, _⟩ := ok b _ z
        obtain ⟨e2, _⟩ := ok' b _ (un.frzs b ob _ z)
        rw [e] at e1
        cases e1
        exact e2

/-- the goal that the head leaves, from such a promise of the law's def -/
theorem walkG2 {l : PySem.W.OpenLaw} {n k : Nat} {q : Program} {loose : List Str} {XP : (Str → Option Value) → Heap → Prop} {YP : World → Heap → Prop} {d : DefRec} {K : Params → PySem.W.Frag} {CX : World → CXT} {sp : World → Sp} {x : Str}
    (h1 : l.most = some n) (h2 : n ≤ sizeLine) (h3 : d.params.defaults = []) (room : Room k callerA) (hY : ∀ (w : World) (h : Heap), YP w h → (K w.params).In h)
    (F : ∀ (w : World) (mg : Str → Option Value) (fa : Addr) (h : Heap), (K w.params).In h → h.Ns mainGlobals mg → mg d.name = some (.ref fa) →
      ∀ base : Heap, (K w.params).In base → base.Ns mainGlobals mg → ∃ fd : FuncData, (∀ (s : Shared) (u : Value), BindsTo s fd ⟨[u], []⟩ [(x, u)]) ∧ FnG l.prog w (K w.params) mg base (CX w) k fa fd [x] (sp w))
    (want : ∀ (w : World) (H : Hp) (a : Addr) (ns : List Int), ns.length ≤ n → Only H → SqL (K w.params) H a (ns.map V.int) → sp w [.ref a] H (fun v _ => v = .bl true) fun _ _ _ => False)
    (noX : ∀ (w : World) (H : Hp) (s : Shared) (e : Value) (s' : Shared), CX w [] H s (fun _ _ _ => False) e s' → False) :
    PySem.W.WalkO q loose XP YP l.row.toRowW d [] (fun f vs => PySem.call f vs) := by
  apply Att.attach_call h1 h3
  intro w s₀ s₁ mg mb fa o pm cd doc a vs ns G Y ho hd hcd hmg hobj hints hlen hg
  have inK := hY w _ Y
  have hF := F w mg fa _ inK G.T.g hmg
  exact lawG2 inK G.T.g G.T.b G.T.builtins G.T.nolimit hg hobj hints (Nat.le_trans hlen h2) room hF (fun H hO hS => want w H a ns hlen hO hS) fun H e s' => noX w H s₁ e s'
theorem FnF.fn {K : PySem.W.Frag} {nm q : Str} {st : Stmt} {f : Addr} (h : FnF K nm q st f) : ∃ (kV dc pm : Value) (an : Option Addr) (cd ct : Value), Fun K nm q st f (PySem.W.fnOf nm q (defArgs st) (defBody st) (defScope st) .none kV dc pm an cd ct) := by
  obtain ⟨oc, od, kV, dc, pm, an, cd, ct, sl, l, c, k⟩ := h
  exact ⟨kV, dc, pm, an, cd, ct, fun_mk l c k⟩
/-- what the head needs of the law -/
theorem CalG.law {P : Program} {w : World} {K : PySem.W.Frag} {mg : Str → Option Value} {base : Heap} {k : Nat} {st : Stmt} {sp : Sp} {fa : Addr} (C : CalG P w K mg base CX0 k "law" st ["script"] sp) (hfa : mg "law" = some (.ref fa))
    (hb : ∀ (kV dc pm : Value) (an : Option Addr) (cd ct : Value) (s : Shared) (u : Value), BindsTo s (PySem.W.fnOf "law" "law" (defArgs st) (defBody st) (defScope st) .none kV dc pm an cd ct) ⟨[u], []⟩ [("script", u)]) :
    ∃ fd : FuncData, (∀ (s : Shared) (u : Value), BindsTo s fd ⟨[u], []⟩ [("script", u)]) ∧ FnG P w K mg base CX0 k fa fd ["script"] sp := by
  obtain ⟨f, fd, F, m, _, _, kV, dc, pm, an, cd, ct, rfl⟩ := C
  have e := m.symm.trans hfa
  cases e
  exact ⟨_, hb kV dc pm an cd ct, F⟩
/-- the law of a script -/
def spLaw (K : PySem.W.Frag) : Sp := fun vs H Q _ => ∃ (a : Addr) (ns : List Int), vs = [.ref a] ∧ SqL K H a (ns.map V.int) ∧ ns.length ≤ 63 ∧ ∀ H', Q (.bl true) H'
theorem walk2 {l : PySem.W.OpenLaw} {q : Program} {loose : List Str} {XP : (Str → Option Value) → Heap → Prop} {YP : World → Heap → Prop} {d : DefRec} {K : Params → PySem.W.Frag} {k : Nat} (room : Room k callerA) (hn : l.most = some 63) (hdf : d.params.defaults = [])
    (hY : ∀ (w : World) (h : Heap), YP w h → (K w.params).In h)
    (F : ∀ (w : World) (mg : Str → Option Value) (fa : Addr) (h : Heap), (K w.params).In h → h.Ns mainGlobals mg → mg d.name = some (.ref fa) →
      ∀ base : Heap, (K w.params).In base → base.Ns mainGlobals mg → ∃ fd : FuncData, (∀ (s : Shared) (u : Value), BindsTo s fd ⟨[u], []⟩ [("script", u)]) ∧ FnG l.prog w (K w.params) mg base CX0 k fa fd ["script"] (spLaw (K w.params))) :
    PySem.W.WalkO q loose XP YP l.row.toRowW d [] (fun f vs => PySem.call f vs) :=
  walkG2 (n := 63) (k := k) (x := "script") (CX := fun _ => CX0) (sp := fun w => spLaw (K w.params)) hn (by decide) hdf room hY F (fun _ _ a ns hl _ hS => ⟨a, ns, rfl, hS, hl, fun _ => rfl⟩) fun _ _ _ _ _ z => z
/-- a written tuple of ints -/
theorem tup_of {K : PySem.W.Frag} {a : Addr} {od : Option Addr} {its : Array Value} {n : Nat} {sl : Array (Option Value)} {xs : List V} (l : K.lookup a = some ⟨.type "tuple", od, .seq its n, sl⟩) (hz : its.size ≤ sizeLine) (r : Vals xs its.toList) : ∀ H, SqT K H a xs :=
  fun H => .inr ⟨_, its, n, l, rfl, rfl, hz, r⟩
end Wb

set_option Elab.async false
set_option linter.all false
set_option maxRecDepth 100000
set_option maxHeartbeats 4000000
/-! Wd0: what may be shown, ints of some hundred figures among it. -/
namespace Wb
open PySem PySem.Spec PyProof.Rows L2
/-- what repr asks of data -/
def Shw (d : PyData) : Prop := d.showable = true ∧ d.hasDict = false ∧ d.depth ≤ 60 ∧ d.shown.length ≤ sizeLine
structure Tb (n W : Nat) (e : PyData) : Prop where
  shows : e.showable = true
  noDict : e.hasDict = false
  deep : e.depth ≤ n
  short : e.leavesShort 2000 = true
  light : e.bulk ≤ W
structure TbAll (n W : Nat) (es : List PyData) : Prop where
  shows : PyData.showableAll es = true
  noDict : PyData.hasDictAll es = false
  deep : PyData.depthAll es ≤ n
  short : PyData.leavesShortAll 2000 es = true
  light : PyData.bulkAll es ≤ W
theorem Tb.shw {n W : Nat} {e : PyData} (t : Tb n W e) (h : n ≤ 60 := by decide) (hw : W ≤ 8000 := by decide) : Shw e := by
  refine ⟨t.shows, t.noDict, Nat.le_trans t.deep h, ?_⟩
  have q := PyData.shown_le_bulk 2000 (by decide) e t.short
  have l := t.light
  rw [sizeLine_eq]
  omega
theorem Tb.more {n m W Z : Nat} {e : PyData} (t : Tb n W e) (h1 : n ≤ m) (h2 : W ≤ Z) : Tb m Z e :=
  ⟨t.shows, t.noDict, Nat.le_trans t.deep h1, t.short, Nat.le_trans t.light h2⟩
theorem TbAll.nil {n : Nat} : TbAll n 0 [] := ⟨by simp [PyData.showableAll], by simp [PyData.hasDictAll], by simp [PyData.depthAll], by simp [PyData.leavesShortAll], by simp [PyData.bulkAll]⟩
theorem TbAll.cons {n V W : Nat} {e : PyData} {es : List PyData} (t : Tb n V e) (h : TbAll n W es) : TbAll n (V + 1 + W) (e :: es) := by
  obtain ⟨a1, a2, a3, a4, a5⟩ := t
  obtain ⟨b1, b2, b3, b4, b5⟩ := h
  refine ⟨by simp [PyData.showableAll, a1, b1], by simp [PyData.hasDictAll, a2, b2], ?_, by simp [PyData.leavesShortAll, a4, b4], ?_⟩
  · simp only [PyData.depthAll]
    exact Nat.max_le.mpr ⟨a3, b3⟩
  · simp only [PyData.bulkAll]
    omega
theorem TbAll.of {n W : Nat} : ∀ {es : List PyData}, (∀ e ∈ es, Tb n W e) → TbAll n (es.length * (W + 1)) es
  | [], _ => by
    have := TbAll.nil (n := n)
    simpa using this
  | e :: es, h => by
    have a := TbAll.cons (h e List.mem_cons_self) (TbAll.of fun x hx => h x (List.mem_cons_of_mem _ hx))
    have q : (e :: es).length * (W + 1) = W + 1 + es.length * (W + 1) := by
      rw [List.length_cons, Nat.succ_mul]
      omega
    rw [q]
    exact a
theorem TbAll.more {n m W Z : Nat} {es : List PyData} (t : TbAll n W es) (h1 : n ≤ m) (h2 : W ≤ Z) : TbAll m Z es :=
  ⟨t.shows, t.noDict, Nat.le_trans t.deep h1, t.short, Nat.le_trans t.light h2⟩
theorem TbAll.list {n W : Nat} {es : List PyData} (h : TbAll n W es) : Tb (n + 1) W (.list es) := by
  obtain ⟨b1, b2, b3, b4, b5⟩ := h
  refine ⟨by simpa [PyData.showable] using b1, by simpa [PyData.hasDict] using b2, ?_, by simpa [PyData.leavesShort] using b4, by simpa [PyData.bulk] using b5⟩
  simp only [PyData.depth]
  omega
theorem TbAll.tuple {n W : Nat} {es : List PyData} (h : TbAll n W es) : Tb (n + 1) W (.tuple es) := by
  obtain ⟨b1, b2, b3, b4, b5⟩ := h
  refine ⟨by simpa [PyData.showable] using b1, by simpa [PyData.hasDict] using b2, ?_, by simpa [PyData.leavesShort] using b4, by simpa [PyData.bulk] using b5⟩
  simp only [PyData.depth]
  omega
theorem tb_none : Tb 0 0 .none := ⟨by decide +kernel, by decide +kernel, by decide +kernel, by decide +kernel, by decide +kernel⟩
theorem tb_bool (b : Bool) : Tb 0 0 (.bool b) := by cases b <;> exact ⟨by decide +kernel, by decide +kernel, by decide +kernel, by decide +kernel, by decide +kernel⟩
theorem tb_int {i : Int} (h : i.natAbs < 2 ^ 1900) : Tb 0 0 (.int i) := by
  have l : i.natAbs.log2 < 1900 := log_le h (by decide)
  refine ⟨?_, by simp [PyData.hasDict], by simp [PyData.depth], ?_, by simp [PyData.bulk]⟩
  · simp only [PyData.showable, decide_eq_true_eq]
    omega
  · simp only [PyData.leavesShort, decide_eq_true_eq]
    have := int_text_length_le (a := i) (by decide) l
    show (Str.ofString (toString i)).length ≤ 2000
    have e : (Str.ofString (toString i)).length = (toString i).length := by
      rw [Str.ofString_eq_toList]
      simp [Str.length]
      exact String.length_toList
    rw [e]
    omega
theorem tb_str {x : Str} {n : Nat} (h : ∀ a ∈ x.cps.toList, a < 16 ^ 8) (few : x.length ≤ n) : Tb 0 n (.str x) := by
  refine ⟨by simp [PyData.showable], by simp [PyData.hasDict], by simp [PyData.depth], ?_, ?_⟩
  · simp only [PyData.leavesShort, List.all_eq_true, decide_eq_true_eq]
    exact h
  · simp only [PyData.bulk]
    exact few
end Wb

set_option Elab.async false
set_option linter.all false
set_option maxRecDepth 100000
set_option maxHeartbeats 4000000
/-! Wv0: what an expression is worth, told apart from what may change: a base heap that only grows, values by relations. -/
namespace Wv
open PySem PySem.Spec PyProof.Rows L2 Wb

/-- a base within a heap, and both later: nothing hidden comes into the base -/
structure Ext (B H B' H' : Hp) : Prop where
  hh : Same H H'
  bb : Same B B'
  bh : Same B' H'
  nw : ∀ b, H b ≠ none → B b = none → B' b = none
theorem Ext.refl {B H : Hp} (s : Same B H) : Ext B H B H := ⟨Same.refl _, Same.refl _, s, fun _ _ h => h⟩
theorem Ext.trans {B H B1 H1 B2 H2 : Hp} (a : Ext B H B1 H1) (b : Ext B1 H1 B2 H2) : Ext B H B2 H2 :=
  ⟨a.hh.trans b.hh, a.bb.trans b.bb, b.bh, fun x h1 h2 => by
    refine b.nw x ?_ (a.nw x h1 h2)
    cases e : H x with
    | none => exact absurd e h1
    | some o =>
      rw [a.hh x o e]
      exact fun z => nomatch z⟩
/-- a new object, in the base too -/
theorem Ext.new {B H : Hp} {p : Addr} {o : HO} (s : Same B H) (h : H p = none) : Ext B H (upd B p o) (upd H p o) :=
  ⟨new_same h, new_same (s.free h), fun b u z => by
    by_cases e : b = p
    · subst e
      rw [upd_same] at *
      exact z
    · rw [upd_ne e] at *
      exact s b u z, fun b h1 h2 => by
    have e : b ≠ p := fun e => h1 (by rw [e]; exact h)
    rw [upd_ne e]
    exact h2⟩
/-- .. of the heap alone -/
theorem Ext.own {B H : Hp} {p : Addr} {o : HO} (s : Same B H) (h : H p = none) : Ext B H B (upd H p o) :=
  ⟨new_same h, Same.refl _, s.trans (new_same h), fun _ _ h => h⟩

/-! ### relations -/
abbrev Rel := Hp → V → Prop
class Mo (R : Rel) : Prop where
  mo : ∀ {B B' : Hp} {v : V}, Same B B' → R B v → R B' v
def dat (K : PySem.W.Frag) (d : PyData) : Rel := fun B v => Dp K B v d
instance {K : PySem.W.Frag} {d : PyData} : Mo (dat K d) := ⟨fun s h => dpMono s d _ h⟩
def AllR : List Rel → Hp → List V → Prop
  | [], _, vs => vs = []
  | R :: Rs, B, vs => ∃ v r, vs = v :: r ∧ R B v ∧ AllR Rs B r
class MoA (Rs : List Rel) : Prop where
  mo : ∀ {B B' : Hp} {vs : List V}, Same B B' → AllR Rs B vs → AllR Rs B' vs
instance : MoA [] := ⟨fun _ h => h⟩
instance {R : Rel} {Rs : List Rel} [m : Mo R] [t : MoA Rs] : MoA (R :: Rs) := ⟨fun s ⟨v, r, e, h, g⟩ => ⟨v, r, e, m.mo s h, t.mo s g⟩⟩
theorem moA_of {Rs : List Rel} (h : ∀ R ∈ Rs, Mo R) : MoA Rs := by
  induction Rs with
  | nil => exact inferInstance
  | cons R Rs ih =>
    have := h R List.mem_cons_self
    have := ih fun R hR => h R (List.mem_cons_of_mem _ hR)
    exact inferInstance
instance {K : PySem.W.Frag} {ds : List PyData} : MoA (ds.map (dat K)) := moA_of fun R h => by
  obtain ⟨d, _, rfl⟩ := List.mem_map.mp h
  exact inferInstance
theorem allR_dp {K : PySem.W.Frag} {B : Hp} : ∀ {ds : List PyData} {vs : List V}, AllR (ds.map (dat K)) B vs → DpAll K B vs ds
  | [], _, h => by
    have h : _ = [] := h
    subst h
    exact .nil
  | d :: ds, _, h => by
    obtain ⟨v, r, rfl, h1, h2⟩ := h
    exact .cons h1 (allR_dp h2)
theorem dp_allR {K : PySem.W.Frag} {B : Hp} : ∀ {ds : List PyData} {vs : List V}, DpAll K B vs ds → AllR (ds.map (dat K)) B vs
  | _, _, .nil => rfl
  | _, _, .cons h t => ⟨_, _, rfl, h, dp_allR t⟩
theorem allR_len {B : Hp} : ∀ {Rs : List Rel} {vs : List V}, AllR Rs B vs → vs.length = Rs.length
  | [], _, h => by
    have h : _ = [] := h
    subst h
    rfl
  | R :: Rs, _, h => by
    obtain ⟨v, r, rfl, _, h2⟩ := h
    simp [allR_len h2]
theorem allR_at {B : Hp} : ∀ {Rs : List Rel} {vs : List V} {i : Nat} {v : V}, AllR Rs B vs → vs[i]? = some v → ∃ R, Rs[i]? = some R ∧ R B v
  | [], _, _, _, h, z => by
    have h : _ = [] := h
    subst h
    cases z
  | R :: Rs, _, 0, _, h, z => by
    obtain ⟨v, r, rfl, h1, _⟩ := h
    cases z
    exact ⟨R, rfl, h1⟩
  | R :: Rs, _, i + 1, _, h, z => by
    obtain ⟨v, r, rfl, _, h2⟩ := h
    exact allR_at (i := i) h2 z
theorem allR_of {B : Hp} : ∀ {Rs : List Rel} {vs : List V} {i : Nat} {R : Rel}, AllR Rs B vs → Rs[i]? = some R → ∃ v, vs[i]? = some v ∧ R B v
  | R :: Rs, _, 0, _, h, z => by
    obtain ⟨v, r, rfl, h1, _⟩ := h
    cases z
    exact ⟨v, rfl, h1⟩
  | R :: Rs, _, i + 1, _, h, z => by
    obtain ⟨v, r, rfl, _, h2⟩ := h
    exact allR_of (i := i) h2 z
theorem allR_app {B : Hp} : ∀ {Rs Ss : List Rel} {vs ws : List V}, AllR Rs B vs → AllR Ss B ws → AllR (Rs ++ Ss) B (vs ++ ws)
  | [], _, _, _, h, g => by
    have h : _ = [] := h
    subst h
    exact g
  | R :: Rs, _, _, _, h, g => by
    obtain ⟨v, r, rfl, h1, h2⟩ := h
    exact ⟨v, r ++ _, rfl, h1, allR_app h2 g⟩
theorem allR_snoc {B : Hp} {R : Rel} {Rs : List Rel} {vs : List V} {v : V} (h : AllR Rs B vs) (g : R B v) : AllR (Rs ++ [R]) B (vs ++ [v]) := allR_app h ⟨v, [], rfl, g, rfl⟩
/-- a list, a tuple of such -/
def lstR (K : PySem.W.Frag) (Rs : List Rel) : Rel := fun B v => ∃ a xs, v = .ref a ∧ SqL K B a xs ∧ AllR Rs B xs
def tupR (K : PySem.W.Frag) (Rs : List Rel) : Rel := fun B v => ∃ a xs, v = .ref a ∧ SqT K B a xs ∧ AllR Rs B xs
instance {K : PySem.W.Frag} {Rs : List Rel} [m : MoA Rs] : Mo (lstR K Rs) := ⟨fun s ⟨a, xs, e, h, g⟩ => ⟨a, xs, e, s.seq h, m.mo s g⟩⟩
instance {K : PySem.W.Frag} {Rs : List Rel} [m : MoA Rs] : Mo (tupR K Rs) := ⟨fun s ⟨a, xs, e, h, g⟩ => ⟨a, xs, e, seqT s h, m.mo s g⟩⟩
theorem lstR_dat {K : PySem.W.Frag} {ds : List PyData} {B : Hp} {v : V} (h : lstR K (ds.map (dat K)) B v) : dat K (.list ds) B v := by
  obtain ⟨a, xs, rfl, h, g⟩ := h
  exact .lst h (allR_dp g)
theorem tupR_dat {K : PySem.W.Frag} {ds : List PyData} {B : Hp} {v : V} (h : tupR K (ds.map (dat K)) B v) : dat K (.tuple ds) B v := by
  obtain ⟨a, xs, rfl, h, g⟩ := h
  exact .tup h (allR_dp g)
theorem dat_lstR {K : PySem.W.Frag} {ds : List PyData} {B : Hp} {v : V} (h : dat K (.list ds) B v) : lstR K (ds.map (dat K)) B v := by
  cases h with
  | lst h1 h2 => exact ⟨_, _, rfl, h1, dp_allR h2⟩
theorem dat_tupR {K : PySem.W.Frag} {ds : List PyData} {B : Hp} {v : V} (h : dat K (.tuple ds) B v) : tupR K (ds.map (dat K)) B v := by
  cases h with
  | tup h1 h2 => exact ⟨_, _, rfl, h1, dp_allR h2⟩
theorem dat_int {K : PySem.W.Frag} {i : Int} {B : Hp} {v : V} (h : dat K (.int i) B v) : v = .int i := by cases h; rfl
theorem dat_str {K : PySem.W.Frag} {i : Str} {B : Hp} {v : V} (h : dat K (.str i) B v) : v = .str i := by cases h; rfl
theorem dat_bl {K : PySem.W.Frag} {i : Bool} {B : Hp} {v : V} (h : dat K (.bool i) B v) : v = .bl i := by cases h; rfl

/-! ### what evaluates to what -/
def De (te : TE) (σ : L2.St) (B : Hp) (R : Rel) : Prop := ∀ B1 H, Same B B1 → Same B1 H → ∀ Q : VK, (∀ v B' H', Ext B1 H B' H' → R B' v → Q v H') → te σ H Q
def Da (ta : TA) (σ : L2.St) (B : Hp) (Rs : List Rel) : Prop := ∀ B1 H, Same B B1 → Same B1 H → ∀ Q : List V → Hp → Prop, (∀ vs B' H', Ext B1 H B' H' → AllR Rs B' vs → Q vs H') → ta σ H Q
def Dt (tt : TT) (σ : L2.St) (B : Hp) (b : Bool) : Prop := ∀ B1 H, Same B B1 → Same B1 H → ∀ Q : Bool → Hp → Prop, (∀ B' H', Ext B1 H B' H' → Q b H') → tt σ H Q
def Do (to : TO) (σ : L2.St) (B : Hp) (o : Option Int) : Prop := ∀ B1 H, Same B B1 → Same B1 H → ∀ Q : Option Int → Hp → Prop, (∀ B' H', Ext B1 H B' H' → Q o H') → to σ H Q
/-- operations on values -/
def Rv (r : R2) (B : Hp) (R S T : Rel) : Prop := ∀ x y B1 H, Same B B1 → Same B1 H → R B1 x → S B1 y → ∀ Q : VK, (∀ v B' H', Ext B1 H B' H' → T B' v → Q v H') → r x y H Q
def Ru (r : V → Hp → VK → Prop) (B : Hp) (R T : Rel) : Prop := ∀ x B1 H, Same B B1 → Same B1 H → R B1 x → ∀ Q : VK, (∀ v B' H', Ext B1 H B' H' → T B' v → Q v H') → r x H Q
def Rc (r : List V → Hp → VK → Prop) (B : Hp) (Rs : List Rel) (T : Rel) : Prop := ∀ vs B1 H, Same B B1 → Same B1 H → AllR Rs B1 vs → ∀ Q : VK, (∀ v B' H', Ext B1 H B' H' → T B' v → Q v H') → r vs H Q

section
variable {K : PySem.W.Frag} {σ : L2.St} {B B' : Hp} {ta tb te : TE} {tt tu : TT} {R S T U : Rel} {Rs : List Rel} {x v : V}
theorem De.mono (s : Same B B') (h : De te σ B R) : De te σ B' R := fun B1 H s1 s2 => h B1 H (s.trans s1) s2
theorem Da.mono {ta : TA} (s : Same B B') (h : Da ta σ B Rs) : Da ta σ B' Rs := fun B1 H s1 s2 => h B1 H (s.trans s1) s2
theorem Dt.mono {b : Bool} (s : Same B B') (h : Dt tt σ B b) : Dt tt σ B' b := fun B1 H s1 s2 => h B1 H (s.trans s1) s2
theorem De.conv (h : De te σ B R) (f : ∀ B v, R B v → S B v) : De te σ B S := fun B1 H s1 s2 Q q => h B1 H s1 s2 Q fun v B2 H2 e hv => q v B2 H2 e (f _ _ hv)
theorem De.eq {d e : PyData} (h : De te σ B (dat K d)) (z : d = e) : De te σ B (dat K e) := z ▸ h
theorem Dt.eq {b c : Bool} (h : Dt tt σ B b) (z : b = c) : Dt tt σ B c := z ▸ h
theorem De.var {i : Nat} [m : Mo R] (hR : R B v) (h : σ[i]? = some (some v)) : De (tVar i) σ B R := fun B1 H s1 s2 Q q => ⟨v, h, q v B1 H (.refl s2) (m.mo s1 hR)⟩
theorem De.cst (h : ∀ B, R B v) : De (tC v) σ B R := fun B1 H _ s2 Q q => q v B1 H (.refl s2) (h _)
theorem De.int {n : Int} : De (tC (.int n)) σ B (dat K (.int n)) := .cst fun _ => .int n
theorem De.str {z : Str} : De (tC (.str z)) σ B (dat K (.str z)) := .cst fun _ => .str z
theorem De.bl {b : Bool} : De (tC (.bl b)) σ B (dat K (.bool b)) := .cst fun _ => .bl b
theorem De.non : De (tC .non) σ B (dat K .none) := .cst fun _ => .non
theorem Da.nil : Da tNil σ B [] := fun B1 H _ s2 Q q => q [] B1 H (.refl s2) rfl
theorem Da.cons {tr : TA} [m : Mo R] (h : De ta σ B R) (t : Da tr σ B Rs) : Da (tCons ta tr) σ B (R :: Rs) := fun B1 H s1 s2 Q q =>
  h B1 H s1 s2 _ fun v B2 H2 e hv => t B2 H2 (s1.trans e.bb) e.bh _ fun vs B3 H3 e2 hvs => q _ B3 H3 (e.trans e2) ⟨v, vs, rfl, m.mo e2.bb hv, hvs⟩
theorem De.lst {ta : TA} [m : MoA Rs] (h : Da ta σ B Rs) (hz : Rs.length ≤ sizeLine) : De (tLst ta) σ B (lstR K Rs) := fun B1 H s1 s2 Q q =>
  h B1 H s1 s2 _ fun vs B2 H2 e hvs => ⟨by rw [allR_len hvs]; exact hz, fun p hp => q _ (upd B2 p (.lst vs)) _ (e.trans (Ext.new e.bh hp)) ⟨p, vs, rfl, SqL.of upd_same, m.mo (new_same (e.bh.free hp)) hvs⟩⟩
theorem De.tup {ta : TA} [m : MoA Rs] (h : Da ta σ B Rs) (hz : Rs.length ≤ sizeLine) : De (tTup ta) σ B (tupR K Rs) := fun B1 H s1 s2 Q q =>
  h B1 H s1 s2 _ fun vs B2 H2 e hvs => ⟨by rw [allR_len hvs]; exact hz, fun p hp => q _ (upd B2 p (.tup vs)) _ (e.trans (Ext.new e.bh hp)) ⟨p, vs, rfl, SqT.of upd_same, m.mo (new_same (e.bh.free hp)) hvs⟩⟩
theorem De.op {r : R2} [m : Mo R] (ha : De ta σ B R) (hb : De tb σ B S) (hr : Rv r B R S T) : De (tOp r ta tb) σ B T := fun B1 H s1 s2 Q q =>
  ha B1 H s1 s2 _ fun x B2 H2 e hx => hb B2 H2 (s1.trans e.bb) e.bh _ fun y B3 H3 e2 hy => hr x y B3 H3 ((s1.trans e.bb).trans e2.bb) e2.bh (m.mo e2.bb hx) hy Q fun v B4 H4 e3 hv => q v B4 H4 ((e.trans e2).trans e3) hv
theorem De.un {r : V → Hp → VK → Prop} (ha : De ta σ B R) (hr : Ru r B R T) : De (tUn r ta) σ B T := fun B1 H s1 s2 Q q =>
  ha B1 H s1 s2 _ fun x B2 H2 e hx => hr x B2 H2 (s1.trans e.bb) e.bh hx Q fun v B4 H4 e3 hv => q v B4 H4 (e.trans e3) hv
theorem De.cb {r : List V → Hp → VK → Prop} {ta : TA} (ha : Da ta σ B Rs) (hr : Rc r B Rs T) : De (tCB r ta) σ B T := fun B1 H s1 s2 Q q =>
  ha B1 H s1 s2 _ fun x B2 H2 e hx => hr x B2 H2 (s1.trans e.bb) e.bh hx Q fun v B4 H4 e3 hv => q v B4 H4 (e.trans e3) hv
/-- what a def is worth, that changes nothing that was -/
def Pf {α : Type} (args : α → List Rel) (pre : α → Prop) (res : α → Rel) : Sp := fun vs H Q _ => ∃ (B : Hp) (a : α), Same B H ∧ AllR (args a) B vs ∧ pre a ∧ ∀ v B' H', Ext B H B' H' → res a B' v → Q v H'
theorem De.call {α : Type} {args : α → List Rel} {pre : α → Prop} {res : α → Rel} {E : XK} {ta : TA} (a : α) (ha : Da ta σ B (args a)) (hp : pre a) : De (tCall (Pf args pre res) [] E ta) σ B (res a) := fun B1 H s1 s2 Q q =>
  ha B1 H s1 s2 _ fun x B2 H2 e hx => by
    show Pf args pre res (x ++ []) H2 Q E
    rw [List.append_nil]
    exact ⟨B2, a, e.bh, hx, hp, fun v B4 H4 e3 hv => q v B4 H4 (e.trans e3) hv⟩
/-- .. by names: the values as they are written, the parameters' places among them -/
theorem De.callK {α : Type} {args : α → List Rel} {pre : α → Prop} {res : α → Rel} {E : XK} {tk : TA} {ix : List Nat} {n : Nat} (a : α) (ha : Da tk σ B Rs) (hn : Rs.length = n) (hx : ∀ B vs, AllR Rs B vs → AllR (args a) B (kwV ix vs)) (hp : pre a) : De (tCalK (Pf args pre res) ix n E tk) σ B (res a) := fun B1 H s1 s2 Q q =>
  ha B1 H s1 s2 _ fun x B2 H2 e hv => ⟨by rw [allR_len hv]; exact hn, B2, a, e.bh, hx _ _ hv, hp, fun v B4 H4 e3 hv => q v B4 H4 (e.trans e3) hv⟩
theorem Do.none : Do tNoPart σ B none := fun B1 H _ s2 Q q => q B1 H (.refl s2)
theorem Do.some {i : Int} (h : De te σ B (dat K (.int i))) : Do (tPart te) σ B (some i) := fun B1 H s1 s2 Q q =>
  h B1 H s1 s2 _ fun v B2 H2 e hv => ⟨i, dat_int hv, q B2 H2 e⟩
theorem De.sl {r : V → Option Int → Option Int → Hp → VK → Prop} {tl th : TO} {lo hi : Option Int} [m : Mo R] (h : De te σ B R) (h1 : Do tl σ B lo) (h2 : Do th σ B hi)
    (hr : ∀ x B1 H, Same B B1 → Same B1 H → R B1 x → ∀ Q : VK, (∀ v B' H', Ext B1 H B' H' → T B' v → Q v H') → r x lo hi H Q) : De (tSl r te tl th) σ B T := fun B1 H s1 s2 Q q =>
  h B1 H s1 s2 _ fun x B2 H2 e hx => h1 B2 H2 (s1.trans e.bb) e.bh _ fun B3 H3 e2 => h2 B3 H3 ((s1.trans e.bb).trans e2.bb) e2.bh _ fun B4 H4 e3 =>
    hr x B4 H4 (((s1.trans e.bb).trans e2.bb).trans e3.bb) e3.bh (m.mo (e2.bb.trans e3.bb) hx) Q fun v B5 H5 e4 hv => q v B5 H5 (((e.trans e2).trans e3).trans e4) hv

/-! ### tests, choices -/
theorem Dt.test {b : Bool} (h : De te σ B (dat K (.bool b))) : Dt (tTest te) σ B b := fun B1 H s1 s2 Q q => h B1 H s1 s2 _ fun v B2 H2 e hv => ⟨b, dat_bl hv, q B2 H2 e⟩
theorem Dt.tB {b : Bool} (h : De te σ B (dat K (.bool b))) : Dt (tB te) σ B b := fun B1 H s1 s2 Q q => h B1 H s1 s2 _ fun v B2 H2 e hv => ⟨b, dat_bl hv, q B2 H2 e⟩
theorem Dt.and {a b : Bool} (h1 : Dt tt σ B a) (h2 : a = true → Dt tu σ B b) : Dt (tAnd tt tu) σ B (a && b) := fun B1 H s1 s2 Q q => h1 B1 H s1 s2 _ fun B2 H2 e => by
  cases a with
  | true => exact h2 rfl B2 H2 (s1.trans e.bb) e.bh Q fun B3 H3 e3 => q B3 H3 (e.trans e3)
  | false => exact q B2 H2 e
theorem Dt.or {a b : Bool} (h1 : Dt tt σ B a) (h2 : a = false → Dt tu σ B b) : Dt (tOr tt tu) σ B (a || b) := fun B1 H s1 s2 Q q => h1 B1 H s1 s2 _ fun B2 H2 e => by
  cases a with
  | true => exact q B2 H2 e
  | false => exact h2 rfl B2 H2 (s1.trans e.bb) e.bh Q fun B3 H3 e3 => q B3 H3 (e.trans e3)
theorem Dt.not {a : Bool} (h1 : Dt tt σ B a) : Dt (tNot tt) σ B (!a) := fun B1 H s1 s2 Q q => h1 B1 H s1 s2 _ q
theorem Dt.yes : Dt tYes σ B true := fun B1 H _ s2 Q q => q B1 H (.refl s2)
theorem De.ite {b : Bool} (h : Dt tt σ B b) (h1 : b = true → De ta σ B R) (h2 : b = false → De tb σ B R) : De (tIf tt ta tb) σ B R := fun B1 H s1 s2 Q q => h B1 H s1 s2 _ fun B2 H2 e => by
  cases b with
  | true => exact h1 rfl B2 H2 (s1.trans e.bb) e.bh Q fun v B3 H3 e3 => q v B3 H3 (e.trans e3)
  | false => exact h2 rfl B2 H2 (s1.trans e.bb) e.bh Q fun v B3 H3 e3 => q v B3 H3 (e.trans e3)
theorem De.iteD {b : Bool} {d e : PyData} (h : Dt tt σ B b) (h1 : b = true → De ta σ B (dat K d)) (h2 : b = false → De tb σ B (dat K e)) : De (tIf tt ta tb) σ B (dat K (if b = true then d else e)) :=
  .ite h (fun z => by rw [if_pos z]; exact h1 z) (fun z => by rw [if_neg (by rw [z]; decide)]; exact h2 z)
theorem De.andV {a b : Bool} (h1 : De ta σ B (dat K (.bool a))) (h2 : a = true → De tb σ B (dat K (.bool b))) : De (tAndV ta tb) σ B (dat K (.bool (a && b))) := fun B1 H s1 s2 Q q => h1 B1 H s1 s2 _ fun v B2 H2 e hv => ⟨a, dat_bl hv, by
  cases a with
  | true => exact h2 rfl B2 H2 (s1.trans e.bb) e.bh Q fun v B3 H3 e3 => q v B3 H3 (e.trans e3)
  | false => exact q _ B2 H2 e (.bl false)⟩
theorem De.orV {a b : Bool} (h1 : De ta σ B (dat K (.bool a))) (h2 : a = false → De tb σ B (dat K (.bool b))) : De (tOrV ta tb) σ B (dat K (.bool (a || b))) := fun B1 H s1 s2 Q q => h1 B1 H s1 s2 _ fun v B2 H2 e hv => ⟨a, dat_bl hv, by
  cases a with
  | true => exact q _ B2 H2 e (.bl true)
  | false => exact h2 rfl B2 H2 (s1.trans e.bb) e.bh Q fun v B3 H3 e3 => q v B3 H3 (e.trans e3)⟩
theorem De.notV {a : Bool} (h1 : De ta σ B (dat K (.bool a))) : De (tNotV ta) σ B (dat K (.bool (!a))) := fun B1 H s1 s2 Q q => h1 B1 H s1 s2 _ fun v B2 H2 e hv => ⟨a, dat_bl hv, q _ B2 H2 e (.bl _)⟩

/-! ### operations -/
theorem Rv.I0 {f : Int → Int → Int} {i j : Int} : Rv (rI0 fun i j => V.int (f i j)) B (dat K (.int i)) (dat K (.int j)) (dat K (.int (f i j))) := fun x y B1 H _ s2 hx hy Q q =>
  ⟨i, j, dat_int hx, dat_int hy, q _ B1 H (.refl s2) (.int _)⟩
theorem Rv.I0b {f : Int → Int → Bool} {i j : Int} : Rv (rI0 fun i j => V.bl (f i j)) B (dat K (.int i)) (dat K (.int j)) (dat K (.bool (f i j))) := fun x y B1 H _ s2 hx hy Q q =>
  ⟨i, j, dat_int hx, dat_int hy, q _ B1 H (.refl s2) (.bl _)⟩
theorem Rv.I {C : Int → Int → Prop} {f : Int → Int → Int} {i j : Int} (hc : C i j) : Rv (rI C fun i j => V.int (f i j)) B (dat K (.int i)) (dat K (.int j)) (dat K (.int (f i j))) := fun x y B1 H _ s2 hx hy Q q =>
  ⟨i, j, dat_int hx, dat_int hy, hc, q _ B1 H (.refl s2) (.int _)⟩
theorem Rv.addS {x y : Str} (hz : x.length + y.length ≤ sizeLine) : Rv (fun x y H Q => ∃ i j, x = .str i ∧ y = .str j ∧ i.length + j.length ≤ sizeLine ∧ Q (.str (i ++ j)) H) B (dat K (.str x)) (dat K (.str y)) (dat K (.str (x ++ y))) := fun _ _ B1 H _ s2 hx hy Q q =>
  ⟨x, y, dat_str hx, dat_str hy, hz, q _ B1 H (.refl s2) (.str _)⟩
theorem Rv.eqD {d e : PyData} (hd : SeqAt.shaped d = true) (he : SeqAt.shaped e = true) : Rv (rEqD K) B (dat K d) (dat K e) (dat K (.bool (PyData.eqv d e))) := fun x y B1 H _ s2 hx hy Q q =>
  ⟨d, e, dpMono s2 _ _ hx, dpMono s2 _ _ hy, hd, he, q _ B1 H (.refl s2) (.bl _)⟩
theorem Rv.neD {d e : PyData} (hd : SeqAt.shaped d = true) (he : SeqAt.shaped e = true) : Rv (rNeD K) B (dat K d) (dat K e) (dat K (.bool (!PyData.eqv d e))) := fun x y B1 H _ s2 hx hy Q q =>
  ⟨d, e, dpMono s2 _ _ hx, dpMono s2 _ _ hy, hd, he, q _ B1 H (.refl s2) (.bl _)⟩
theorem Rv.inL {d : PyData} {ds : List PyData} (hd : SeqAt.shaped d = true) (he : SeqAt.shaped (.list ds) = true) : Rv (rInD K) B (dat K d) (dat K (.list ds)) (dat K (.bool (ds.any fun z => PyData.eqv z d))) := fun x y B1 H _ s2 hx hy Q q =>
  ⟨d, ds, dpMono s2 _ _ hx, dpMono s2 _ _ hy, hd, he, q _ B1 H (.refl s2) (.bl _)⟩
theorem Rv.notInL {d : PyData} {ds : List PyData} (hd : SeqAt.shaped d = true) (he : SeqAt.shaped (.list ds) = true) : Rv (rNotInD K) B (dat K d) (dat K (.list ds)) (dat K (.bool (!ds.any fun z => PyData.eqv z d))) := fun x y B1 H _ s2 hx hy Q q =>
  ⟨d, ds, dpMono s2 _ _ hx, dpMono s2 _ _ hy, hd, he, q _ B1 H (.refl s2) (.bl _)⟩
theorem allR_atI {xs : List V} {i : Int} (h : AllR Rs B xs) (z : atI Rs i = some R) : ∃ v, atI xs i = some v ∧ R B v := by
  unfold atI at *
  rw [allR_len h]
  cases e : ixN Rs.length i with
  | none =>
    rw [e] at z
    cases z
  | some j =>
    rw [e] at z
    exact allR_of h z
theorem Rv.ixL {i : Int} (z : atI Rs i = some R) : Rv (rIxL K) B (lstR K Rs) (dat K (.int i)) R := fun x y B1 H _ s2 hx hy Q q => by
  obtain ⟨a, xs, rfl, h, g⟩ := hx
  obtain ⟨v, hv, hR⟩ := allR_atI g z
  exact ⟨a, xs, i, v, rfl, dat_int hy, s2.seq h, hv, q v B1 H (.refl s2) hR⟩
theorem Rv.ixT {i : Int} (z : atI Rs i = some R) : Rv (rIxT K) B (tupR K Rs) (dat K (.int i)) R := fun x y B1 H _ s2 hx hy Q q => by
  obtain ⟨a, xs, rfl, h, g⟩ := hx
  obtain ⟨v, hv, hR⟩ := allR_atI g z
  exact ⟨a, xs, i, v, rfl, dat_int hy, seqT s2 h, hv, q v B1 H (.refl s2) hR⟩
theorem atI_map {α β : Type} (f : α → β) {xs : List α} {i : Int} {x : α} (h : atI xs i = some x) : atI (xs.map f) i = some (f x) := by
  unfold atI at *
  rw [List.length_map]
  cases e : ixN xs.length i with
  | none =>
    rw [e] at h
    cases h
  | some j =>
    rw [e] at h
    have h : xs[j]? = some x := h
    show (xs.map f)[j]? = some (f x)
    rw [List.getElem?_map, h]
    rfl
theorem Rv.ixLD {ds : List PyData} {d : PyData} {i : Int} (z : atI ds i = some d) : Rv (rIxL K) B (dat K (.list ds)) (dat K (.int i)) (dat K d) := fun x y B1 H s1 s2 hx hy => Rv.ixL (K := K) (atI_map (dat K) z) x y B1 H s1 s2 (dat_lstR hx) hy
theorem Rv.ixTD {ds : List PyData} {d : PyData} {i : Int} (z : atI ds i = some d) : Rv (rIxT K) B (dat K (.tuple ds)) (dat K (.int i)) (dat K d) := fun x y B1 H s1 s2 hx hy => Rv.ixT (K := K) (atI_map (dat K) z) x y B1 H s1 s2 (dat_tupR hx) hy
/-- tuple + tuple -/
theorem Rv.catT {xs ys : List PyData} (hz : xs.length + ys.length ≤ sizeLine) : Rv (rCatA K) B (dat K (.tuple xs)) (dat K (.tuple ys)) (dat K (.tuple (xs ++ ys))) := fun x y B1 H _ s2 hx hy Q q => by
  have hx' := hx
  have hy' := hy
  obtain ⟨a, us, rfl, h, g⟩ := dat_tupR hx
  obtain ⟨b, ws, rfl, h', g'⟩ := dat_tupR hy
  have l1 := allR_len g
  have l2 := allR_len g'
  rw [List.length_map] at l1 l2
  refine ⟨a, b, us, ws, rfl, rfl, seqT s2 h, seqT s2 h', by omega, fun e => ?_, fun _ e => ?_, fun _ _ p hp => ?_⟩
  · have : xs = [] := List.eq_nil_of_length_eq_zero (by rw [← l1, e]; rfl)
    subst this
    exact q _ B1 H (.refl s2) hy'
  · have : ys = [] := List.eq_nil_of_length_eq_zero (by rw [← l2, e]; rfl)
    subst this
    rw [List.append_nil] at q
    exact q _ B1 H (.refl s2) hx'
  · refine q _ (upd B1 p (.tup (us ++ ws))) _ (Ext.new s2 hp) ?_
    have s := new_same (o := .tup (us ++ ws)) (s2.free hp)
    exact .tup (SqT.of upd_same) (dpMonoAll s _ _ (allR_dp (by rw [List.map_append]; exact allR_app g g')))
end
end Wv

set_option Elab.async false
set_option linter.all false
set_option maxRecDepth 100000
set_option maxHeartbeats 4000000
/-! Ws0: sorted(xs), xs a list of data that are alike, empty tuples among them too. -/
namespace PySem.W
open PySem PySem.Calls PyProof.Rows PySem.SeqAt
section
variable {prog : Program} {w : World} {A : Around} {E : Value → Shared → Prop} {s : Shared}
theorem oneLt_tup {f : Bool} {xs ys : List PyData} {a b : Value} {as bs : List Addr} {Q : Bool → Shared → Prop} (ra : Reads s.heap a (.tuple xs) as) (rb : Reads s.heap b (.tuple ys) bs) (h : alike (.tuple xs) (.tuple ys) = true)
    (hu : A.units + min (PyData.tuple xs).depth (PyData.tuple ys).depth < cLine) (hq : Q (dataLt (.tuple xs) (.tuple ys)) s) : wpAny (model prog w) A (oneLt' f a b) Q E s := by
  cases f with
  | false => exact oneLt_alike (fun z => nomatch z) ra rb h (fun z => nomatch z) hu hq
  | true =>
    have hal : alikeAll xs ys = true := by simpa [alike] using h
    cases ra with
    | @tuple l o vs n _ as₁ h1 h2 h3 h4 =>
      cases rb with
      | @tuple l' o' vs' n' _ bs₁ k1 k2 k3 k4 =>
        have n1 : vs.size = xs.length := by simpa using ReadsAll.length _ _ _ h4
        have n2 : vs'.size = ys.length := by simpa using ReadsAll.length _ _ _ k4
        rw [dataLt_tuple, ← firstLt_toks xs ys hal, ← n1, ← n2] at hq
        rw [oneLt'_eq]
        simp only [if_true]
        refine wpAny_bind (wpAny_cRoomFor (room_here hu) ?_)
        obtain ⟨cls, dd, data, sl⟩ := o
        obtain ⟨cls2, dd2, data2, sl2⟩ := o'
        simp only at h2 h3 k2 k3
        subst h2 h3 k2 k3
        refine wpAny_bind (wpAny_callSpecialIfBound?_slot (T := "tuple") ⟨_, h1, rfl⟩ F.slot_tuple_lt (call_meets F.slot_tuple_lt ⟨_, h1, rfl⟩ F.entry_tuple_lt (F.args_tuple_lt_2 _ _)
          (tuple_ltAt l l' vs vs' n n' dd dd2 sl sl2 (pairEq xs ys) (fun j => dataLt (xs.getD j .none) (ys.getD j .none))) ⟨h1, k1, fun j j1 j2 => ?_, fun j j1 j2 hj => ?_, ?_⟩))
        · have := eqAt_alikeAll xs ys A.in1 s vs.toList vs'.toList _ _ h4 k4 hal (room_in hu) j (by simpa using j1) (by simpa using j2)
          simpa using this
        · have := rcLt_alikeAll xs ys A.in1 s vs.toList vs'.toList _ _ h4 k4 hal (room_in hu) j (by simpa using j1) (by simpa using j2) hj
          simpa using this
        · exact wpAny_truthy_bool hq
def full : PyData → Bool
  | .tuple (_ :: _) => true
  | _ => false
/-- the first items of tuples, empty ones among them -/
theorem firsts_mix : ∀ (vs : List Value) (ds : List PyData) {Q : List (Option Value) → Shared → Prop}, EachIs (fun v d => ∃ as, Reads s.heap v d as) vs ds → (∀ d, d ∈ ds → ∃ xs, d = .tuple xs) →
    (∀ fs : List (Option Value), fs.map (·.isSome) = ds.map full → Q fs s) → wpAny (model prog w) A (vs.mapM firstOfTuple') Q E s
  | _, _, _, .nil, _, h => by
    rw [List.mapM_nil]
    exact wpAny_pure (h [] rfl)
  | _, _, Q, .cons (b := d) (as := vs) (bs := ds) ⟨as, r⟩ t, ht, h => by
    obtain ⟨xs, rfl⟩ := ht d List.mem_cons_self
    cases r with
    | @tuple a o us n _ _ ho hc hd hr =>
      rw [List.mapM_cons]
      refine wpAny_bind ?_
      rw [kas_first_eq]
      refine wpAny_bind (Looks.here (show Looks (model prog w) s.heap (typeOf (.ref a)) o.cls from (Looks.ld ho).andThen .now) ?_)
      rw [hc, if_neg (by first | decide | simp)]
      refine wpAny_bind (listItems_at ho hd (wpAny_pure ?_))
      have e : (us[0]?).isSome = full (.tuple xs) := by
        have n1 : us.size = xs.length := by simpa using ReadsAll.length _ _ _ hr
        cases xs with
        | nil =>
          have : us[0]? = none := by
            rw [Array.getElem?_eq_none_iff, n1]
            exact Nat.le_refl _
          rw [this]
          rfl
        | cons x r =>
          have : 0 < us.size := by rw [n1]; simp
          rw [Array.getElem?_eq_getElem this]
          rfl
      exact wpAny_bind (firsts_mix vs ds (Q := fun bs s' => wpAny (model prog w) A (pure (us[0]? :: bs)) Q E s') t (fun d hd => ht d (List.mem_cons_of_mem _ hd)) fun fs hf => wpAny_pure (h _ (by rw [List.map_cons, List.map_cons, hf, e])))
/-- tuples that are alike can be sorted -/
theorem SortsAt.tups {vs : List Value} {ds : List PyData} (e : EachIs (fun v d => ∃ as, Reads s.heap v d as) vs ds) (hal : AllAlike ds) (ht : ∀ d, d ∈ ds → ∃ xs, d = .tuple xs) (hu : ∀ d, d ∈ ds → A.units + d.depth < cLine) : SortsAt prog w A s (dataKind s.heap ds) vs := by
  by_cases hf : ∀ d, d ∈ ds → full d = true
  · refine SortsAt.data e hal (.inl fun d hd => ?_) hu
    obtain ⟨xs, rfl⟩ := ht d hd
    have := hf _ hd
    cases xs with
    | nil => cases this
    | cons x r => exact ⟨x, r, rfl⟩
  have lt : ∀ kd : SortKind, (∀ x y, keyLt' kd x y = oneLt' true x y) ∨ (∀ x y, keyLt' kd x y = oneLt' false x y) → H.LtAt prog w A s (dataKind s.heap ds) kd := by
    intro kd hk E x y a b Q ha hb hq
    obtain ⟨d, as, hd, ra, rfl⟩ := dataKind_inv ha
    obtain ⟨d', as', hd', rb, rfl⟩ := dataKind_inv hb
    obtain ⟨xs, rfl⟩ := ht d hd
    obtain ⟨ys, rfl⟩ := ht d' hd'
    have room : A.units + min (PyData.tuple xs).depth (PyData.tuple ys).depth < cLine := Nat.lt_of_le_of_lt (Nat.add_le_add_left (Nat.min_le_left _ _) _) (hu _ hd)
    rcases hk with hk | hk
    · rw [hk]
      exact oneLt_tup ra rb (hal _ hd _ hd') room hq
    · rw [hk]
      exact oneLt_tup ra rb (hal _ hd _ hd') room hq
  have hkeys : ∀ v, v ∈ vs → ∃ a, (dataKind s.heap ds).keyOf v = some a := fun v hv => by
    obtain ⟨d, hd, as, r⟩ := e.left v hv
    exact ⟨_, dataKind_some hal hd r⟩
  cases ds with
  | nil => exact absurd (fun d hd => nomatch hd) hf
  | cons d₀ ds₀ =>
    have many : ∀ fs : List (Option Value), fs.map (·.isSome) = (d₀ :: ds₀).map full → fs.toArray.all (·.isSome) = false := by
      intro fs hfs
      rw [Bool.eq_false_iff]
      intro q
      refine hf fun d hd => ?_
      rw [List.all_toArray, List.all_eq_true] at q
      have m : full d ∈ fs.map (·.isSome) := by
        rw [hfs]
        exact List.mem_map.mpr ⟨d, hd, rfl⟩
      obtain ⟨o, ho, eo⟩ := List.mem_map.mp m
      rw [← eo]
      exact q o ho
    have first : ∀ fs : List (Option Value), fs.map (·.isSome) = (d₀ :: ds₀).map full → ((fs.toArray[0]?).bind id).isSome = full d₀ := by
      intro fs hfs
      cases fs with
      | nil => cases hfs
      | cons o r =>
        rw [List.map_cons, List.map_cons] at hfs
        have := (List.cons.inj hfs).1
        simpa using this
    cases hd0 : full d₀ with
    | true =>
      refine ⟨hkeys, general', lt _ (.inr fun _ _ => rfl), fun _ E Q hq => ?_⟩
      rw [keyKind'_eq, List.mapM_toArray, map_eq_pure_bind]
      refine wpAny_bind (wpAny_bind (firsts_mix vs _ e ht fun fs hfs => wpAny_pure ?_))
      rw [if_neg (by rw [many fs hfs]; decide), if_pos (by rw [first fs hfs, hd0])]
      exact wpAny_pure hq
    | false =>
      refine ⟨hkeys, oneType', lt _ (.inl fun _ _ => rfl), fun _ E Q hq => ?_⟩
      rw [keyKind'_eq, List.mapM_toArray, map_eq_pure_bind]
      refine wpAny_bind (wpAny_bind (firsts_mix vs _ e ht fun fs hfs => wpAny_pure ?_))
      rw [if_neg (by rw [many fs hfs]; decide), if_neg (by rw [first fs hfs, hd0]; decide)]
      rw [oneTypeOnly'_eq, List.mapM_toArray, map_eq_pure_bind]
      have tys : ∀ v ∈ vs, ∀ Q' : Value → Shared → Prop, Q' (.type "tuple") s → wpAny (model prog w) A (typeOf v) Q' E s := fun v hv Q' hq' => by
        obtain ⟨d, hd, as, r⟩ := e.left v hv
        obtain ⟨xs, rfl⟩ := ht d hd
        exact (looks_reads r).here hq'
      refine wpAny_bind (wpAny_bind (wpAny_bind (kas_mapM (r := Value.type "tuple") _ (fun v hv Q' hq' => tys v hv Q' hq') (wpAny_pure ?_))))
      cases e with
      | cons h1 t =>
        rename_i v0 vr _
        have h0 : (List.map (fun _ => Value.type "tuple") (v0 :: vr)).toArray[0]? = some (Value.type "tuple") := by simp
        rw [h0]
        have h3 : ((List.map (fun _ => Value.type "tuple") (v0 :: vr)).toArray.all fun x => x == Value.type "tuple") = true := by
          simp only [List.all_toArray, List.all_map, List.all_eq_true]
          intro _ _
          exact beq_self_eq_true _
        dsimp only
        rw [if_pos h3]
        exact wpAny_pure (wpAny_pure hq)
/-- what can be sorted: tuples, or neither tuples nor None -/
def SortOk (ds : List PyData) : Prop := (∀ d, d ∈ ds → ∃ xs, d = .tuple xs) ∨ ∀ d, d ∈ ds → d ≠ .none ∧ ∀ xs, d ≠ .tuple xs
theorem SortsAt.ok {vs : List Value} {ds : List PyData} (e : EachIs (fun v d => ∃ as, Reads s.heap v d as) vs ds) (hal : AllAlike ds) (hk : SortOk ds) (hu : ∀ d, d ∈ ds → A.units + d.depth < cLine) : SortsAt prog w A s (dataKind s.heap ds) vs := by
  rcases hk with h | h
  · exact SortsAt.tups e hal h hu
  · exact SortsAt.data e hal (.inr h) hu
theorem sorted_ok {l : Addr} {β : Type} {vs : List Value} {bs : List β} {enc : β → PyData} {R : Value → β → Prop} {Q : Value → Shared → Prop} (hl : s.heap.IsList l vs.toArray) (e : EachIs R vs bs) (er : EachIs (fun v b => ∃ as, Reads s.heap v (enc b) as) vs bs)
    (hal : AllAlike (bs.map enc)) (hk : SortOk (bs.map enc)) (hL : bs.length ≤ sizeLine)
    (hu : ∀ b, b ∈ bs → A.units + 2 + (enc b).depth < cLine) (h : ∀ out, out.length = bs.length → EachIs R out (bs.mergeSort (dataLe false enc)) → Q (.ref (s.heap.objs.size + 1)) { s with heap := sortedAll s.heap vs (List.toArray out) }) :
    wpAny (model prog w) A (call (.builtin "sorted") [.ref l]) Q E s := by
  have er' : EachIs (fun v b => ∃ as, Reads (sortingHeap (copyHeap s.heap vs) (s.heap.objs.size + 1) vs) v (enc b) as) vs bs := er.mono fun _ _ ⟨as, r⟩ => ⟨as, PyProof.Rows.Reads.keeps (fun _ _ => sorting_copy_old) r⟩
  exact sorted_vals hl (SortsAt.ok (s := { s with heap := sortingHeap (copyHeap s.heap vs) (s.heap.objs.size + 1) vs }) (each_map (R := fun v d => ∃ as, Reads (sortingHeap (copyHeap s.heap vs) (s.heap.objs.size + 1) vs) v d as) enc er') hal hk (bound_map hu)) (by rw [e.length]; exact hL)
    (h _ (by rw [sortVals_length false rfl]; exact e.length) (sortVals_data false e er' hal))
end
end PySem.W
namespace Wb
open PySem PySem.Spec PyProof.Rows L2
/-- the order of data -/
def dle (x y : PyData) : Bool := PySem.W.dataLe false (fun d : PyData => d) x y
def sortD (ds : List PyData) : List PyData := ds.mergeSort dle
/-- the values in that order -/
def sortV (xs : List V) (ds : List PyData) : List V := ((xs.zip ds).mergeSort fun a b => dle a.2 b.2).map Prod.fst
/-- sorted(xs) of a list of data -/
def rSortedD (K : PySem.W.Frag) : List V → Hp → VK → Prop := fun vs H Q => ∃ (a : Addr) (xs : List V) (ds : List PyData), vs = [.ref a] ∧ SqL K H a xs ∧ DpAll K H xs ds ∧ PySem.W.AllAlike ds ∧ PySem.W.SortOk ds ∧ (∀ d ∈ ds, d.depth ≤ 60) ∧
  ∀ p, H p = none → Q (.ref p) (upd H p (.lst (sortV xs ds)))
theorem dpAll_pairs {K : PySem.W.Frag} {H : Hp} : ∀ {l : List (V × PyData)}, (∀ p ∈ l, Dp K H p.1 p.2) → DpAll K H (l.map Prod.fst) (l.map Prod.snd)
  | [], _ => .nil
  | p :: l, h => .cons (h p List.mem_cons_self) (dpAll_pairs fun q hq => h q (List.mem_cons_of_mem _ hq))
theorem pairs_dpAll {K : PySem.W.Frag} {H : Hp} : ∀ {xs : List V} {ds : List PyData}, DpAll K H xs ds → ∀ p ∈ xs.zip ds, Dp K H p.1 p.2
  | _, _, .nil => fun p h => nomatch h
  | _, _, .cons h t => fun p hp => by
    rcases List.mem_cons.mp hp with e | hp
    · rw [e]
      exact h
    · exact pairs_dpAll t p hp
theorem each_pairs {X : Cx} {pins : List (Addr × Obj)} {σ : L2.St} {H : Hp} {s : Shared} (I : Inv X pins σ H s) : ∀ {xs : List V} {its : List Value} {ds : List PyData}, Vals xs its → DpAll X.K H xs ds →
    PySem.W.EachIs (fun (v : Value) (b : V × PyData) => RelV b.1 v ∧ Dp X.K H b.1 b.2) its (xs.zip ds)
  | _, _, _, .nil, .nil => .nil
  | _, _, _, .cons r t, .cons h g => .cons ⟨r, h⟩ (each_pairs I t g)
theorem pairs_out {K : PySem.W.Frag} {H : Hp} : ∀ {out : List Value} {bs : List (V × PyData)}, PySem.W.EachIs (fun (v : Value) (b : V × PyData) => RelV b.1 v ∧ Dp K H b.1 b.2) out bs → Vals (bs.map Prod.fst) out ∧ DpAll K H (bs.map Prod.fst) (bs.map Prod.snd)
  | _, _, .nil => ⟨.nil, .nil⟩
  | _, _, .cons h t => by
    obtain ⟨a, b⟩ := pairs_out t
    exact ⟨.cons h.1 a, .cons h.2 b⟩
theorem zip_snd : ∀ {xs : List V} {ds : List PyData}, xs.length = ds.length → (xs.zip ds).map Prod.snd = ds
  | [], [], _ => rfl
  | x :: xs, d :: ds, h => by
    rw [List.zip_cons_cons, List.map_cons, zip_snd (by simpa using h)]
theorem dp_sort {K : PySem.W.Frag} {H : Hp} {xs : List V} {ds : List PyData} (h : DpAll K H xs ds) : DpAll K H (sortV xs ds) (sortD ds) := by
  have e : ((xs.zip ds).mergeSort fun a b => dle a.2 b.2).map Prod.snd = sortD ds := by
    unfold sortD
    rw [List.map_mergeSort (s := dle) (f := Prod.snd) (fun a _ b _ => rfl), zip_snd (dpAll_len h)]
  rw [← e]
  exact dpAll_pairs fun p hp => pairs_dpAll h p ((List.mergeSort_perm _ _).mem_iff.mp hp)
section
variable {X : Cx}
theorem cr_sortedD (hu : X.A.units + 64 < cLine) : CallR X (.builtin "sorted") (rSortedD X.K) := by
  intro pins s σ H vs us Q I r h
  obtain ⟨a, xs, ds, rfl, hs, hd, hal, hk, hdep, q⟩ := h
  obtain ⟨its, rv, hl, hz⟩ := I.list hs
  obtain ⟨u, rfl, ru⟩ := vals1 r
  obtain rfl : u = Value.ref a := ru
  have len : xs.length = ds.length := dpAll_len hd
  have em : (xs.zip ds).map Prod.snd = ds := zip_snd len
  have e := each_pairs I rv hd
  have er : PySem.W.EachIs (fun (v : Value) (b : V × PyData) => ∃ as, Reads s.heap v b.2 as) its (xs.zip ds) := e.mono fun v b h => Dp.reads I b.2 b.1 v h.2 h.1
  refine PySem.W.sorted_ok (enc := Prod.snd) hl.isList e er (by rw [em]; exact hal) (by rw [em]; exact hk) (by rw [List.length_zip]; omega) (fun b hb => ?_) fun out ho eo => ?_
  · have := hdep b.2 (List.of_mem_zip hb).2
    omega
  · obtain ⟨o1, o2⟩ := pairs_out eo
    obtain ⟨c, hc⟩ := PyProof.Rows.sortedAll_at s.heap its out.toArray
    have ln : (((xs.zip ds).mergeSort (PySem.W.dataLe false Prod.snd)).map Prod.fst).length ≤ sizeLine := by
      rw [List.length_map, List.length_mergeSort, List.length_zip]
      omega
    exact ⟨.ref (s.heap.objs.size + 1), upd H (s.heap.objs.size + 1) (.lst (((xs.zip ds).mergeSort (PySem.W.dataLe false Prod.snd)).map Prod.fst)), I.laid (t' := s.toks) (fun _ _ => PyProof.Rows.sortedAll_old) (Nat.le_succ _) ⟨ln, out, c, o1, hc⟩, rfl, q _ (I.hok.fresh (Nat.le_succ _))⟩
end
end Wb

set_option Elab.async false
set_option linter.all false
set_option maxRecDepth 100000
set_option maxHeartbeats 4000000
/-! Wv1: what is walked, loops, comprehensions, built-in functions, objects that never change. -/
namespace Wv
open PySem PySem.Spec PyProof.Rows L2 Wb

/-! ### more rules of the language -/
section
variable {X : Cx}
/-- list + list -/
def rCatS (K : PySem.W.Frag) : R2 := fun x y H Q => ∃ l b xs zs, x = .ref l ∧ y = .ref b ∧ SqL K H l xs ∧ SqL K H b zs ∧ xs.length + zs.length ≤ sizeLine ∧ ∀ p, H p = none → Q (.ref p) (upd H p (.lst (xs ++ zs)))
theorem op_catS : OpR X (binaryOp .Add) (rCatS X.K) := by
  intro pins s σ H x y v u Q I rx ry h
  obtain ⟨l, b, xs, zs, rfl, rfl, hl, hb, hz, q⟩ := h
  cases rx
  cases ry
  obtain ⟨its, r, ⟨⟨c1, d1, t1, sl1⟩, n, e, hc, hd, ht⟩, z1⟩ := I.list hl
  obtain ⟨its2, r2, ⟨⟨c2, d2, t2, sl2⟩, n2, e2, hc2, hd2, ht2⟩, z2⟩ := I.list hb
  simp only at hc hd ht hc2 hd2 ht2
  subst hc hd ht hc2 hd2 ht2
  have hlen := r.length
  have hlen2 := r2.length
  refine concat_meets ⟨_, e, rfl⟩ ⟨_, e2, rfl⟩ noFill_list_add seq_list_add PySem.F.slot_list_add PySem.F.entry_list_add (PySem.F.args_list_add_2 _ _) (list_addW l b its.toArray its2.toArray n n2 none none sl1 sl2 (by rw [List.size_toArray, List.size_toArray]; omega)) ⟨e, e2, ?_⟩
  have ea : its.toArray ++ its2.toArray = (its ++ its2).toArray := by simp
  rw [ea]
  exact ⟨.ref _, _, I.lnew (t' := s.toks) (r.append r2) (by rw [List.length_append]; omega), rfl, q _ I.fresh⟩
/-- x in t, a tuple of data -/
def rInT (K : PySem.W.Frag) (neg : Bool) : R2 := fun x y H Q => ∃ d ds, Dp K H x d ∧ Dp K H y (.tuple ds) ∧ SeqAt.shaped d = true ∧ SeqAt.shaped (.tuple ds) = true ∧ Q (.bl (if neg = true then !ds.any fun z => PyData.eqv z d else ds.any fun z => PyData.eqv z d)) H
theorem room_in_shaped' {ds : List PyData} {d : PyData} {u : Nat} (sd : SeqAt.shaped d = true) (hu : u + 65 < cLine) : u + 1 + min (PyData.depthAll ds) d.depth < cLine := by
  have h : d.depth ≤ 64 := by
    unfold SeqAt.shaped at sd
    rw [Bool.and_eq_true] at sd
    exact of_decide_eq_true sd.2
  omega
theorem canLay_tup {ds : List PyData} (h : SeqAt.shaped (.tuple ds) = true) : PyData.canLayAll0 ds = true := by
  unfold SeqAt.shaped at h
  rw [Bool.and_eq_true] at h
  simpa only [PyData.canLay0] using h.1
theorem op_inT (hu : X.A.units + 65 < cLine) : OpR X (compareOp .In) (rInT X.K false) := by
  intro pins s σ H x y v u Q I rx ry h
  obtain ⟨d, ds, hd, he, sd, se, q⟩ := h
  obtain ⟨as, r1⟩ := Dp.reads I d x v hd rx
  obtain ⟨bs, r2⟩ := Dp.reads I (.tuple ds) y u he ry
  exact SeqAt.in_tuple_reads r2 r1 (canLay_tup se) (SeqAt.canLay_of_shaped sd) (room_in_shaped' sd hu) ⟨.bl _, H, I, rfl, q⟩
theorem op_notInT (hu : X.A.units + 65 < cLine) : OpR X (compareOp .NotIn) (rInT X.K true) := by
  intro pins s σ H x y v u Q I rx ry h
  obtain ⟨d, ds, hd, he, sd, se, q⟩ := h
  obtain ⟨as, r1⟩ := Dp.reads I d x v hd rx
  obtain ⟨bs, r2⟩ := Dp.reads I (.tuple ds) y u he ry
  exact SeqAt.notIn_tuple_reads r2 r1 (canLay_tup se) (SeqAt.canLay_of_shaped sd) (room_in_shaped' sd hu) ⟨.bl _, H, I, rfl, q⟩
theorem fold_rep (b : Array Nat) : ∀ (k : Nat) (a : Array Nat), (List.foldl (· ++ ·) a (List.replicate k b)).toList = a.toList ++ (List.replicate k b.toList).flatten
  | 0, a => by simp
  | k + 1, a => by
    rw [List.replicate_succ, List.foldl_cons, fold_rep b k (a ++ b), List.replicate_succ, List.flatten_cons, Array.toList_append, List.append_assoc]
/-- a text some times -/
def mulS (z : Str) (n : Nat) : Str := ⟨((List.replicate n z.cps.toList).flatten).toArray⟩
theorem mulS_eq (z : Str) (n : Nat) : (⟨List.foldl (· ++ ·) #[] (List.replicate n z.cps)⟩ : Str) = mulS z n := by
  unfold mulS
  congr 1
  apply Array.toList_inj.mp
  rw [fold_rep]
  simp
theorem mulS_len (z : Str) (n : Nat) : (mulS z n).length = n * z.length := by
  unfold mulS Str.length
  simp
def rMulS : R2 := fun x y H Q => ∃ (z : Str) (n : Int), x = .str z ∧ y = .int n ∧ 2 ≤ n ∧ n ≤ 1000 ∧ 0 < z.length ∧ z.length ≤ 1000 ∧ Q (.str (mulS z n.toNat)) H
theorem op_mulS : OpR X (binaryOp .Mult) rMulS := by
  intro pins s σ H x y v u Q I rx ry h
  obtain ⟨z, n, rfl, rfl, n2, n3, z0, z1, q⟩ := h
  obtain ⟨t, rfl⟩ := rx
  obtain ⟨t', rfl⟩ := ry
  have h1 : ¬ n < 1 := by omega
  have h2 : (n == 1 || z.length == 0) = false := by
    simp only [Bool.or_eq_false_iff, beq_eq_false_iff_ne]
    constructor <;> omega
  have len : z.length * n.toNat ≤ 1000 * 1000 := Nat.mul_le_mul z1 (by omega)
  refine PySem.P.mul_str (by simp only [Bool.or_eq_false_iff, decide_eq_false_iff_not]; constructor <;> omega) (fun _ _ => ?_) (fun _ _ => ?_) ?_
  · have : (2 ^ 63 - 1 : Int) / n ≥ 1000 := by
      refine (Int.le_ediv_iff_mul_le (by omega)).mpr ?_
      have : (1000 : Int) * n ≤ 1000 * 1000 := by omega
      omega
    omega
  · have : sizeLine = 16777216 := sizeLine_eq
    have : ¬ z.length * n.toNat > sizeLine := by omega
    exact decide_eq_false this
  · rw [if_neg h1, h2, if_neg (by decide)]
    rw [mulS_eq]
    refine ⟨?_, ⟨.str _, H, I.tok _, ⟨_, rfl⟩, q⟩⟩
    rw [mulS_len, sizeLine_eq, Nat.mul_comm]
    omega
end

/-! ### what is walked -/
section
variable {K : PySem.W.Frag} {σ : L2.St} {B B' : Hp} {ta tb te tl : TE} {tt tu : TT} {R S T U : Rel} {Rs : List Rel} {x v : V}
/-- an iterator that gives such items, while a base stands -/
def Wk (J : It) (B1 : Hp) (Rs : List Rel) : Prop := Walk J Rs.length (fun H => Same B1 H) (fun i H x H' => ∃ R, Rs[i]? = some R ∧ ∀ Bc, Same B1 Bc → Same Bc H → ∃ Bn, Ext Bc H Bn H' ∧ R Bn x)
def Di (wi : TI) (σ : L2.St) (B : Hp) (Rs : List Rel) : Prop := ∀ B1 H, Same B B1 → Same B1 H → ∀ Q : It → Hp → Prop, (∀ J B' H', Ext B1 H B' H' → Wk J B' Rs → Q J H') → wi σ H Q
theorem Di.mono {wi : TI} (s : Same B B') (h : Di wi σ B Rs) : Di wi σ B' Rs := fun B1 H s1 s2 => h B1 H (s.trans s1) s2
theorem Di.list [m : MoA Rs] (h : De tl σ B (lstR K Rs)) : Di (iList K tl) σ B Rs := fun B1 H s1 s2 Q q => h B1 H s1 s2 _ fun v B2 H2 e hv => by
  obtain ⟨a, xs, rfl, hs, hR⟩ := hv
  refine ⟨a, rfl, ⟨xs, e.bh.seq hs⟩, q _ B2 H2 e ?_⟩
  have len := allR_len hR
  unfold Wk
  rw [← len]
  refine (walk_list (K := K) (a := a) (xs := xs)).mono (fun H' s => s.seq hs) fun i H' x H'' hi s y => ?_
  obtain ⟨rfl, hx⟩ := y
  obtain ⟨R, hR1, hR2⟩ := allR_at hR hx
  exact ⟨R, hR1, fun Bc sc sh => ⟨Bc, .refl sh, by
    obtain ⟨v', hv', hR3⟩ := allR_of (m.mo sc hR) hR1
    rw [hx] at hv'
    cases hv'
    exact hR3⟩⟩
theorem Di.tup [m : MoA Rs] (h : De tl σ B (tupR K Rs)) : Di (iTup K tl) σ B Rs := fun B1 H s1 s2 Q q => h B1 H s1 s2 _ fun v B2 H2 e hv => by
  obtain ⟨a, xs, rfl, hs, hR⟩ := hv
  refine ⟨a, rfl, ⟨xs, seqT e.bh hs⟩, q _ B2 H2 e ?_⟩
  have len := allR_len hR
  unfold Wk
  rw [← len]
  refine (walk_tup (K := K) (a := a) (xs := xs)).mono (fun H' s => seqT s hs) fun i H' x H'' hi s y => ?_
  obtain ⟨rfl, hx⟩ := y
  obtain ⟨R, hR1, hR2⟩ := allR_at hR hx
  exact ⟨R, hR1, fun Bc sc sh => ⟨Bc, .refl sh, by
    obtain ⟨v', hv', hR3⟩ := allR_of (m.mo sc hR) hR1
    rw [hx] at hv'
    cases hv'
    exact hR3⟩⟩
theorem Di.listD {ds : List PyData} (h : De tl σ B (dat K (.list ds))) : Di (iList K tl) σ B (ds.map (dat K)) := .list (h.conv fun _ _ => dat_lstR)
theorem Di.tupD {ds : List PyData} (h : De tl σ B (dat K (.tuple ds))) : Di (iTup K tl) σ B (ds.map (dat K)) := .tup (h.conv fun _ _ => dat_tupR)
def intsR (K : PySem.W.Frag) (lo : Int) (n : Nat) : List Rel := (List.range n).map fun i : Nat => dat K (.int (lo + (i : Int)))
theorem wk_ints {lo : Int} {n : Nat} : Wk (Itr lo n) B (intsR K lo n) := by
  unfold Wk intsR
  rw [List.length_map, List.length_range]
  refine (walk_range (lo := lo) (n := n)).mono (fun _ _ => trivial) fun i H' x H'' hi s y => ?_
  obtain ⟨rfl, rfl⟩ := y
  refine ⟨dat K (.int (lo + (i : Int))), by rw [List.getElem?_map, List.getElem?_range hi]; rfl, fun Bc sc sh => ⟨Bc, .refl sh, Dp.int _⟩⟩
theorem Di.rng1 {ta : TA} {n : Int} (h : Da ta σ B [dat K (.int n)]) (h0 : -(2 ^ 62) ≤ n) (h1 : n < 2 ^ 62) : Di (iRng1 ta) σ B (intsR K 0 n.toNat) := fun B1 H s1 s2 Q q => h B1 H s1 s2 _ fun vs B2 H2 e hv => by
  obtain ⟨v, r, rfl, h2, h3⟩ := hv
  have h3 : r = [] := h3
  subst h3
  have h2 := dat_int h2
  subst h2
  exact ⟨n, rfl, h0, h1, q _ B2 H2 e wk_ints⟩
theorem Di.rng2 {ta : TA} {lo n : Int} (h : Da ta σ B [dat K (.int lo), dat K (.int n)]) (h0 : -(2 ^ 62) ≤ lo ∧ lo < 2 ^ 62 ∧ -(2 ^ 62) ≤ n ∧ n < 2 ^ 62) : Di (iRng2 ta) σ B (intsR K lo (n - lo).toNat) := fun B1 H s1 s2 Q q => h B1 H s1 s2 _ fun vs B2 H2 e hv => by
  obtain ⟨v, r, rfl, h2, v', r', rfl, h4, h5⟩ := hv
  have h5 : r' = [] := h5
  subst h5
  have h2 := dat_int h2
  subst h2
  have h4 := dat_int h4
  subst h4
  exact ⟨lo, n, rfl, h0, q _ B2 H2 e wk_ints⟩
theorem Di.str {z : Str} (h : De tl σ B (dat K (.str z))) : Di (iStr tl) σ B (z.cps.toList.map fun c => dat K (.str ⟨#[c]⟩)) := fun B1 H s1 s2 Q q => h B1 H s1 s2 _ fun v B2 H2 e hv => by
  have hv := dat_str hv
  subst hv
  refine ⟨z, rfl, q _ B2 H2 e ?_⟩
  unfold Wk
  have len : (z.cps.toList.map fun c => dat K (.str ⟨#[c]⟩)).length = z.cps.size := by simp
  rw [len]
  refine (walk_str (z := z)).mono (fun _ _ => trivial) fun i H' x H'' hi s y => ?_
  obtain ⟨rfl, c, hc, rfl⟩ := y
  refine ⟨dat K (.str ⟨#[c]⟩), ?_, fun Bc sc sh => ⟨Bc, .refl sh, Dp.str _⟩⟩
  rw [List.getElem?_map, Array.getElem?_toList, hc]
  rfl
/-- a new pair -/
theorem pair_new {R S : Rel} [m1 : Mo R] [m2 : Mo S] {Bc H : Hp} {p : Addr} {x y : V} (sh : Same Bc H) (hp : H p = none) (hx : R Bc x) (hy : S Bc y) : ∃ Bn, Ext Bc H Bn (upd H p (.tup [x, y])) ∧ tupR K [R, S] Bn (.ref p) :=
  ⟨upd Bc p (.tup [x, y]), .new sh hp, p, _, rfl, SqT.of upd_same, x, [y], rfl, m1.mo (new_same (sh.free hp)) hx, y, [], rfl, m2.mo (new_same (sh.free hp)) hy, rfl⟩
theorem Di.zip {ta : TA} {Ss : List Rel} [m : MoA Rs] [m' : MoA Ss] (hm : ∀ R ∈ Rs, Mo R) (hm' : ∀ R ∈ Ss, Mo R) (h : Da ta σ B [lstR K Rs, lstR K Ss]) : Di (iZip K ta) σ B ((Rs.zip Ss).map fun p => tupR K [p.1, p.2]) := fun B1 H s1 s2 Q q => h B1 H s1 s2 _ fun vs B2 H2 e hv => by
  obtain ⟨v, r, rfl, ⟨a, xs, rfl, hs, hR⟩, v', r', rfl, ⟨b, ys, rfl, hs', hR'⟩, h5⟩ := hv
  have h5 : r' = [] := h5
  subst h5
  refine ⟨a, b, xs, ys, rfl, e.bh.seq hs, e.bh.seq hs', q _ B2 H2 e ?_⟩
  have len := allR_len hR
  have len' := allR_len hR'
  unfold Wk
  rw [List.length_map]
  refine (walk_zip (K := K) (a := a) (b := b) (xs := xs) (ys := ys) (n := (Rs.zip Ss).length) (by rw [List.length_zip, len, len'])).mono (fun H' s => ⟨s.seq hs, s.seq hs'⟩) fun i H' x H'' hi s y => ?_
  obtain ⟨p, u, w, rfl, hp, rfl, hu, hw⟩ := y
  have hu : xs[i]? = some u := hu
  have hw : ys[i]? = some w := hw
  obtain ⟨R, hR1, _⟩ := allR_at hR hu
  obtain ⟨S, hS1, _⟩ := allR_at hR' hw
  refine ⟨tupR K [R, S], ?_, fun Bc sc sh => ?_⟩
  · rw [List.getElem?_map, List.getElem?_zip_eq_some (z := (R, S)) |>.mpr ⟨hR1, hS1⟩]
    rfl
  · have := hm R (List.mem_of_getElem? hR1)
    have := hm' S (List.mem_of_getElem? hS1)
    obtain ⟨v1, hv1, q1⟩ := allR_of (m.mo sc hR) hR1
    obtain ⟨v2, hv2, q2⟩ := allR_of (m'.mo sc hR') hS1
    rw [hu] at hv1
    rw [hw] at hv2
    cases hv1
    cases hv2
    exact pair_new sh hp q1 q2
theorem Di.enum {ta : TA} [m : MoA Rs] (hm : ∀ R ∈ Rs, Mo R) (h : Da ta σ B [lstR K Rs]) : Di (iEnum K ta) σ B (Rs.zipIdx.map fun p => tupR K [dat K (.int (p.2 : Int)), p.1]) := fun B1 H s1 s2 Q q => h B1 H s1 s2 _ fun vs B2 H2 e hv => by
  obtain ⟨v, r, rfl, ⟨a, xs, rfl, hs, hR⟩, h5⟩ := hv
  have h5 : r = [] := h5
  subst h5
  refine ⟨a, xs, rfl, e.bh.seq hs, q _ B2 H2 e ?_⟩
  have len := allR_len hR
  unfold Wk
  rw [List.length_map, List.length_zipIdx, ← len]
  refine (walk_enum (K := K) (a := a) (xs := xs)).mono (fun H' s => s.seq hs) fun i H' x H'' hi s y => ?_
  obtain ⟨p, u, w, rfl, hp, rfl, hu, hw⟩ := y
  cases hu
  have hw : xs[i]? = some w := hw
  obtain ⟨R, hR1, _⟩ := allR_at hR hw
  refine ⟨tupR K [dat K (.int (i : Int)), R], ?_, fun Bc sc sh => ?_⟩
  · rw [List.getElem?_map, List.getElem?_zipIdx, hR1]
    simp
  · have := hm R (List.mem_of_getElem? hR1)
    obtain ⟨v1, hv1, q1⟩ := allR_of (m.mo sc hR) hR1
    rw [hw] at hv1
    cases hv1
    exact pair_new sh hp (Dp.int _) q1

/-! ### loops -/
/-- what is wanted behind a turn -/
def Nx (B1 : Hp) (P : L2.St → Hp → Hp → Prop) : L2.St → Hp → Prop := fun σ H => ∃ B', Same B1 B' ∧ Same B' H ∧ P σ B' H
theorem s_for {wi : TI} {g : TG} {ts : TS} {D : Ends} {H : Hp} (hi : Di wi σ B Rs) (hB : Same B H) (Pv : Nat → L2.St → Hp → Hp → Prop) (h0 : ∀ B' H', Ext B H B' H' → Pv 0 σ B' H')
    (hs : ∀ B1 i R v σ' Bc Hc Bn Hn, Same B B1 → Same B1 Bc → Rs[i]? = some R → Pv i σ' Bc Hc → Ext Bc Hc Bn Hn → R Bn v → g v σ' Hn fun σ2 H2 => ts { D with nx := Nx B1 (Pv (i + 1)), ct := Nx B1 (Pv (i + 1)), bk := D.nx } σ2 H2)
    (hd : ∀ σ' B' H', Same B B' → Same B' H' → Pv Rs.length σ' B' H' → D.nx σ' H') : tFor wi g ts D σ H :=
  hi B H (Same.refl _) hB _ fun J B1 H1 e hw => for_it hw (fun i σ' H' => Nx B1 (Pv i) σ' H') ⟨B1, Same.refl _, e.bh, h0 B1 H1 e⟩ (fun i σ' H' _ ⟨B', s1, s2, _⟩ => s1.trans s2)
    (fun i x σ' H' H'' hi ⟨Bc, s1, s2, p⟩ ⟨R, hR, y⟩ => by
      obtain ⟨Bn, e2, hx⟩ := y Bc s1 s2
      exact hs B1 i R x σ' Bc H' Bn H'' e.bb s1 hR p e2 hx)
    (fun σ' H' ⟨B', s1, s2, p⟩ => hd σ' B' H' (e.bb.trans s1) s2 p)

/-! ### comprehensions -/
theorem De.lc {α : Type} {as : List α} {r : α → Rel} {wi : TI} {g : TG} {vs : List Nat} (hi : Di wi σ B (as.map r)) (p : α → Bool) (o : α → Rel) [mo : ∀ a, Mo (o a)] (hz : as.length < sizeLine)
    (turn : ∀ a v Bn H, a ∈ as → Same B Bn → Same Bn H → r a Bn v → ∃ σ2, (∀ Q : L2.St → Hp → Prop, Q σ2 H → g v (wipe σ vs) H Q) ∧ wipe σ2 vs = wipe σ vs ∧ Dt tt σ2 Bn (p a) ∧ (p a = true → De te σ2 Bn (o a))) :
    De (tLc wi g tt te vs) σ B (lstR K ((as.filter p).map o)) := fun B1 H s1 s2 Q q => hi B1 H s1 s2 _ fun J B2 H2 e hw => fun D hD => by
  have moA : ∀ l : List α, MoA (l.map o) := fun l => moA_of fun R h => by
    obtain ⟨a, _, rfl⟩ := List.mem_map.mp h
    exact mo a
  have hw' : Walk J as.length (fun H => Same B2 H) (fun i H x H' => ∃ R, (as.map r)[i]? = some R ∧ ∀ Bc, Same B2 Bc → Same Bc H → ∃ Bn, Ext Bc H Bn H' ∧ R Bn x) := by
    have := hw
    unfold Wk at this
    rw [List.length_map] at this
    exact this
  refine lc_it hw' (fun i H' => ∃ B' xs, Ext B2 H2 B' H' ∧ B' D = none ∧ H' D = some (.lst xs) ∧ xs.length ≤ i ∧ AllR (((as.take i).filter p).map o) B' xs) ?_ (fun i H' _ ⟨B', xs, e', _⟩ => e'.bb.trans e'.bh) ?_ ?_
  · exact ⟨B2, [], .own e.bh hD, e.bh.free hD, upd_same, Nat.le_refl _, by rw [List.take_zero]; rfl⟩
  · rintro i x H' H'' hi' ⟨B', xs, e', nD, atD, few, hxs⟩ ⟨R, hR, y⟩
    obtain ⟨Bn, e2, hx⟩ := y B' e'.bb e'.bh
    rw [List.getElem?_map] at hR
    obtain ⟨a, ha, rfl⟩ := Option.map_eq_some_iff.mp hR
    obtain ⟨σ2, t1, t2, t3, t4⟩ := turn a x Bn H'' (List.mem_of_getElem? ha) (((s1.trans e.bb).trans e'.bb).trans e2.bb) e2.bh hx
    have atD2 := e2.hh _ _ atD
    have nD2 : Bn D = none := e2.nw D (by rw [atD]; exact fun z => nomatch z) nD
    have tk : as.take (i + 1) = as.take i ++ [a] := by rw [List.take_succ, ha]; rfl
    refine t1 _ ⟨t2, t3 Bn H'' (Same.refl _) e2.bh _ fun B3 H3 e3 => ?_⟩
    have atD3 := e3.hh _ _ atD2
    have nD3 : B3 D = none := e3.nw D (by rw [atD2]; exact fun z => nomatch z) nD2
    have e13 := (e'.trans e2).trans e3
    cases hp : p a with
    | true =>
      refine t4 hp B3 H3 e3.bb e3.bh _ fun y B4 H4 e4 hy => ?_
      have atD4 := e4.hh _ _ atD3
      have nD4 : B4 D = none := e4.nw D (by rw [atD3]; exact fun z => nomatch z) nD3
      have e14 := e13.trans e4
      refine ⟨xs, atD4, by omega, B4, xs ++ [y], ⟨fun b u hb => ?_, e14.bb, fun b u hb => ?_, e14.nw⟩, nD4, upd_same, by simp; omega, ?_⟩
      · rw [upd_ne (ne_of_none hb hD)]
        exact e14.hh b u hb
      · rw [upd_ne (ne_of_none hb nD4)]
        exact e14.bh b u hb
      · rw [tk, List.filter_append, List.map_append]
        have : [a].filter p = [a] := by simp [hp]
        rw [this]
        exact allR_snoc ((moA _).mo ((e2.bb.trans e3.bb).trans e4.bb) hxs) hy
    | false =>
      refine ⟨B3, xs, e13, nD3, atD3, by omega, ?_⟩
      rw [tk, List.filter_append]
      have : [a].filter p = [] := by simp [hp]
      rw [this, List.append_nil]
      exact (moA _).mo (e2.bb.trans e3.bb) hxs
  · rintro H' ⟨B', xs, e', nD, atD, few, hxs⟩
    rw [List.take_length] at hxs
    refine q (.ref D) (upd B' D (.lst xs)) H' ⟨e.hh.trans e'.hh, (e.bb.trans e'.bb).trans (new_same nD), fun b u hb => ?_, fun b h1 h2 => ?_⟩ ⟨D, xs, rfl, SqL.of upd_same, (moA _).mo (new_same nD) hxs⟩
    · by_cases z : b = D
      · subst z
        rw [upd_same] at hb
        cases hb
        exact atD
      · rw [upd_ne z] at hb
        exact e'.bh b u hb
    · have z : b ≠ D := by
        rintro rfl
        cases w : H b with
        | none => exact h1 w
        | some u =>
          rw [e.hh b u w] at hD
          cases hD
      rw [upd_ne z]
      exact (e.trans e').nw b h1 h2
/-- .. of data -/
theorem De.lcD {α : Type} {as : List α} {r : α → Rel} {wi : TI} {g : TG} {vs : List Nat} (hi : Di wi σ B (as.map r)) (p : α → Bool) (o : α → PyData) (hz : as.length < sizeLine)
    (turn : ∀ a v Bn H, a ∈ as → Same B Bn → Same Bn H → r a Bn v → ∃ σ2, (∀ Q : L2.St → Hp → Prop, Q σ2 H → g v (wipe σ vs) H Q) ∧ wipe σ2 vs = wipe σ vs ∧ Dt tt σ2 Bn (p a) ∧ (p a = true → De te σ2 Bn (dat K (o a)))) :
    De (tLc wi g tt te vs) σ B (dat K (.list ((as.filter p).map o))) :=
  (De.lc (K := K) hi p (fun a => dat K (o a)) hz turn).conv fun B' v h => lstR_dat (by rw [List.map_map]; exact h)
/-- without a test -/
theorem De.lcA {α : Type} {as : List α} {r : α → Rel} {wi : TI} {g : TG} {vs : List Nat} (hi : Di wi σ B (as.map r)) (o : α → PyData) (hz : as.length < sizeLine)
    (turn : ∀ a v Bn H, a ∈ as → Same B Bn → Same Bn H → r a Bn v → ∃ σ2, (∀ Q : L2.St → Hp → Prop, Q σ2 H → g v (wipe σ vs) H Q) ∧ wipe σ2 vs = wipe σ vs ∧ De te σ2 Bn (dat K (o a))) :
    De (tLc wi g tYes te vs) σ B (dat K (.list (as.map o))) := by
  have := De.lcD (K := K) (tt := tYes) (te := te) hi (fun _ => true) o hz fun a v Bn H h1 h2 h3 h4 => by
    obtain ⟨σ2, t1, t2, t3⟩ := turn a v Bn H h1 h2 h3 h4
    exact ⟨σ2, t1, t2, .yes, fun _ => t3⟩
  rw [List.filter_eq_self.mpr (fun _ _ => rfl)] at this
  exact this
/-- a pair is taken apart -/
theorem gTup2 {Bn H : Hp} {v : V} {R S : Rel} {σ1 : L2.St} {i j : Nat} (s : Same Bn H) (h : tupR K [R, S] Bn v) : ∃ x y, R Bn x ∧ S Bn y ∧ ∀ Q : L2.St → Hp → Prop, Q ((σ1.set i (some x)).set j (some y)) H → gTup K 2 (gCons (gName i) (gCons (gName j) gNil)) v σ1 H Q := by
  obtain ⟨a, xs, rfl, hs, x, r, rfl, hx, y, r', rfl, hy, hr⟩ := h
  have hr : r' = [] := hr
  subst hr
  exact ⟨x, y, hx, hy, fun Q q => ⟨a, _, rfl, seqT s hs, rfl, x, [y], rfl, y, [], rfl, rfl, q⟩⟩
theorem dat_pair {d e : PyData} {Bn : Hp} {v : V} (h : dat K (.tuple [d, e]) Bn v) : tupR K [dat K d, dat K e] Bn v := dat_tupR h

/-! ### built-in functions -/
theorem rc_len {ds : List PyData} : Rc (fun xs H Q => ∃ x n, xs = [x] ∧ LenV K x H n ∧ Q (.int n) H) B [dat K (.list ds)] (dat K (.int (ds.length : Int))) := fun vs B1 H _ s2 hv Q q => by
  obtain ⟨v, r, rfl, h, h2⟩ := hv
  have h2 : r = [] := h2
  subst h2
  obtain ⟨a, xs, rfl, hs, hR⟩ := dat_lstR h
  have len := allR_len hR
  rw [List.length_map] at len
  exact ⟨.ref a, ds.length, rfl, .inl ⟨xs, s2.seq hs, len.symm⟩, q _ B1 H (.refl s2) (.int _)⟩
theorem rc_lenT {ds : List PyData} : Rc (fun xs H Q => ∃ x n, xs = [x] ∧ LenV K x H n ∧ Q (.int n) H) B [dat K (.tuple ds)] (dat K (.int (ds.length : Int))) := fun vs B1 H _ s2 hv Q q => by
  obtain ⟨v, r, rfl, h, h2⟩ := hv
  have h2 : r = [] := h2
  subst h2
  obtain ⟨a, xs, rfl, hs, hR⟩ := dat_tupR h
  have len := allR_len hR
  rw [List.length_map] at len
  exact ⟨.ref a, ds.length, rfl, .inr ⟨xs, seqT s2 hs, len.symm⟩, q _ B1 H (.refl s2) (.int _)⟩
theorem rc_lenS {z : Str} (hz : z.length ≤ sizeLine) : Rc (fun xs H Q => ∃ x n, xs = [x] ∧ LenV K x H n ∧ Q (.int n) H) B [dat K (.str z)] (dat K (.int (z.length : Int))) := fun vs B1 H _ s2 hv Q q => by
  obtain ⟨v, r, rfl, h, h2⟩ := hv
  have h2 : r = [] := h2
  subst h2
  have h := dat_str h
  subst h
  exact ⟨.str z, z.length, rfl, ⟨hz, rfl⟩, q _ B1 H (.refl s2) (.int _)⟩
theorem rc_show {d : PyData} (h : Shw d) : Rc (rShow K) B [dat K d] (dat K (.str d.shown)) := fun vs B1 H _ s2 hv Q q => by
  obtain ⟨v, r, rfl, hv, h2⟩ := hv
  have h2 : r = [] := h2
  subst h2
  exact ⟨v, d, rfl, dpMono s2 _ _ hv, h.1, h.2.1, h.2.2.1, h.2.2.2, q _ B1 H (.refl s2) (.str _)⟩
theorem rc_tupL {Rs : List Rel} [m : MoA Rs] : Rc (fun xs H Q => ∃ p ys, xs = [.ref p] ∧ ((SqL K H p ys ∧ ∀ l, H l = none → Q (.ref l) (upd H l (.tup ys))) ∨ (SqT K H p ys ∧ Q (.ref p) H))) B [lstR K Rs] (tupR K Rs) := fun vs B1 H _ s2 hv Q q => by
  obtain ⟨v, r, rfl, ⟨a, xs, rfl, hs, hR⟩, h2⟩ := hv
  have h2 : r = [] := h2
  subst h2
  exact ⟨a, xs, rfl, .inl ⟨s2.seq hs, fun p hp => q _ (upd B1 p (.tup xs)) _ (.new s2 hp) ⟨p, xs, rfl, SqT.of upd_same, m.mo (new_same (s2.free hp)) hR⟩⟩⟩
theorem rc_tupT {Rs : List Rel} [m : MoA Rs] : Rc (fun xs H Q => ∃ p ys, xs = [.ref p] ∧ ((SqL K H p ys ∧ ∀ l, H l = none → Q (.ref l) (upd H l (.tup ys))) ∨ (SqT K H p ys ∧ Q (.ref p) H))) B [tupR K Rs] (tupR K Rs) := fun vs B1 H _ s2 hv Q q => by
  obtain ⟨v, r, rfl, ⟨a, xs, rfl, hs, hR⟩, h2⟩ := hv
  have h2 : r = [] := h2
  subst h2
  exact ⟨a, xs, rfl, .inr ⟨seqT s2 hs, q _ B1 H (.refl s2) ⟨a, xs, rfl, hs, hR⟩⟩⟩
theorem rc_lstL {Rs : List Rel} [m : MoA Rs] : Rc (fun xs H Q => ∃ p ys, xs = [.ref p] ∧ (SqL K H p ys ∨ SqT K H p ys) ∧ ∀ l, H l = none → Q (.ref l) (upd H l (.lst ys))) B [lstR K Rs] (lstR K Rs) := fun vs B1 H _ s2 hv Q q => by
  obtain ⟨v, r, rfl, ⟨a, xs, rfl, hs, hR⟩, h2⟩ := hv
  have h2 : r = [] := h2
  subst h2
  exact ⟨a, xs, rfl, .inl (s2.seq hs), fun p hp => q _ (upd B1 p (.lst xs)) _ (.new s2 hp) ⟨p, xs, rfl, SqL.of upd_same, m.mo (new_same (s2.free hp)) hR⟩⟩
theorem rc_lstT {Rs : List Rel} [m : MoA Rs] : Rc (fun xs H Q => ∃ p ys, xs = [.ref p] ∧ (SqL K H p ys ∨ SqT K H p ys) ∧ ∀ l, H l = none → Q (.ref l) (upd H l (.lst ys))) B [tupR K Rs] (lstR K Rs) := fun vs B1 H _ s2 hv Q q => by
  obtain ⟨v, r, rfl, ⟨a, xs, rfl, hs, hR⟩, h2⟩ := hv
  have h2 : r = [] := h2
  subst h2
  exact ⟨a, xs, rfl, .inr (seqT s2 hs), fun p hp => q _ (upd B1 p (.lst xs)) _ (.new s2 hp) ⟨p, xs, rfl, SqL.of upd_same, m.mo (new_same (s2.free hp)) hR⟩⟩
theorem rc_sorted {ds : List PyData} (hal : PySem.W.AllAlike ds) (hk : PySem.W.SortOk ds) (hd : ∀ d ∈ ds, d.depth ≤ 60) : Rc (rSortedD K) B [dat K (.list ds)] (dat K (.list (sortD ds))) := fun vs B1 H _ s2 hv Q q => by
  obtain ⟨v, r, rfl, h, h2⟩ := hv
  have h2 : r = [] := h2
  subst h2
  obtain ⟨a, xs, rfl, hs, hR⟩ := dat_lstR h
  have g := allR_dp hR
  exact ⟨a, xs, ds, rfl, s2.seq hs, dpMonoAll s2 _ _ g, hal, hk, hd, fun p hp => q _ (upd B1 p (.lst (sortV xs ds))) _ (.new s2 hp) (.lst (SqL.of upd_same) (dpMonoAll (new_same (s2.free hp)) _ _ (dp_sort g)))⟩
/-- lists and tuples of data, by what they are -/
theorem Da.one {d : PyData} (h : De ta σ B (dat K d)) : Da (tCons ta tNil) σ B [dat K d] := .cons h .nil

/-! ### objects that never change -/
def AllF : List (Str × Rel) → Hp → List (Str × V) → Prop
  | [], _, us => us = []
  | (f, R) :: r, B, us => ∃ v u, us = (f, v) :: u ∧ R B v ∧ AllF r B u
class MoF (fs : List (Str × Rel)) : Prop where
  mo : ∀ {B B' : Hp} {us : List (Str × V)}, Same B B' → AllF fs B us → AllF fs B' us
instance : MoF [] := ⟨fun _ h => h⟩
instance {f : Str} {R : Rel} {r : List (Str × Rel)} [m : Mo R] [t : MoF r] : MoF ((f, R) :: r) := ⟨fun s ⟨v, u, e, h, g⟩ => ⟨v, u, e, m.mo s h, t.mo s g⟩⟩
def insR (C : Addr) (fs : List (Str × Rel)) : Rel := fun B v => ∃ a dx us, v = .ref a ∧ B a = some (.ins C dx us) ∧ AllF fs B us
instance {C : Addr} {fs : List (Str × Rel)} [m : MoF fs] : Mo (insR C fs) := ⟨fun s ⟨a, dx, us, e, h, g⟩ => ⟨a, dx, us, e, s _ _ h, m.mo s g⟩⟩
theorem allF_get {f : Str} : ∀ {fs : List (Str × Rel)} {us : List (Str × V)}, AllF fs B us → fs.lookup f = some R → ∃ v, us.lookup f = some v ∧ R B v
  | (g, S) :: r, _, ⟨v, u, e, h, t⟩, z => by
    subst e
    simp only [List.lookup] at *
    cases q : f == g with
    | true =>
      rw [q] at z
      cases z
      exact ⟨v, rfl, h⟩
    | false =>
      rw [q] at z
      exact allF_get t z
theorem De.fld {C : Addr} {f : Str} {fs : List (Str × Rel)} (he : De te σ B (insR C fs)) (c : Cls K C) (n : NoAttr K C f) (hf : fs.lookup f = some R) : De (tFld K te f) σ B R := fun B1 H s1 s2 Q q => he B1 H s1 s2 _ fun v B2 H2 e hv => by
  obtain ⟨a, dx, us, rfl, h, g⟩ := hv
  obtain ⟨x, hx, hR⟩ := allF_get g hf
  exact ⟨a, C, dx, us, x, rfl, e.bh _ _ h, c, n, hx, q x B2 H2 e hR⟩
/-- __init__ that keeps its arguments -/
def spIns (C : Addr) (fs : List Str) : Sp := fun vs H Q _ => ∃ (x dx : Addr) (us : List V), vs = .ref x :: us ∧ us.length = fs.length ∧ H x = some (.ins C dx []) ∧ Q .non (upd H x (.ins C dx (fs.zip us)))
theorem allF_zip : ∀ {fs : List Str} {Rs : List Rel} {us : List V}, fs.length = Rs.length → AllR Rs B us → AllF (fs.zip Rs) B (fs.zip us)
  | [], [], _, _, _ => rfl
  | f :: fs, R :: Rs, _, h, ⟨v, u, e, g, t⟩ => by
    subst e
    exact ⟨v, _, rfl, g, allF_zip (by simpa using h) t⟩
theorem upd_over {H : Hp} {x d : Addr} {o p q : HO} : upd (upd (upd H d p) x o) x q = upd (upd H d p) x q := by
  funext b
  unfold upd
  by_cases h : b = x
  · rw [if_pos h, if_pos h]
  · rw [if_neg h, if_neg h, if_neg h]
theorem De.make {C : Addr} {fs : List Str} {E : XK} {ta : TA} [m : MoA Rs] (ha : Da ta σ B Rs) (hl : fs.length = Rs.length) : De (tMake C (spIns C fs) [] E ta) σ B (insR C (fs.zip Rs)) := fun B1 H s1 s2 Q q =>
  ha B1 H s1 s2 _ fun vs B2 H2 e hv => fun x dx hx hd ne => by
    have len := allR_len hv
    refine ⟨x, dx, vs, by rw [List.append_nil], by omega, upd_same, rfl, ?_⟩
    rw [upd_over]
    have e1 : Ext B2 H2 B2 (upd H2 dx (.own x)) := .own e.bh hd
    have hx1 : upd H2 dx (.own x) x = none := by
      rw [upd_ne ne.symm]
      exact hx
    have e2 := Ext.new (o := .ins C dx (fs.zip vs)) e1.bh hx1
    exact q _ _ _ ((e.trans e1).trans e2) ⟨x, dx, _, rfl, upd_same, allF_zip hl (m.mo (new_same (e.bh.free hx)) hv)⟩
end
end Wv

set_option Elab.async false
set_option linter.all false
set_option maxRecDepth 100000
set_option maxHeartbeats 4000000
/-! Wv2: comprehensions with two fors, list(range), classes by their names, data args. -/
namespace Wv
open PySem PySem.Spec PyProof.Rows L2 Wb
section
variable {K : PySem.W.Frag} {σ : L2.St} {B B' : Hp} {ta tb te tl : TE} {tt tu : TT} {R S T U : Rel} {Rs : List Rel} {x v : V}
theorem stays {B H B' H' : Hp} {D : Addr} {o : HO} (e : Ext B H B' H') (h : H D = some o) (n : B D = none) : H' D = some o ∧ B' D = none :=
  ⟨e.hh _ _ h, e.nw D (by rw [h]; exact fun z => nomatch z) n⟩
/-- one more in a list that is being made -/
theorem grown {B2 H2 B4 H4 : Hp} {D : Addr} {xs : List V} {y : V} (hD : H2 D = none) (e : Ext B2 H2 B4 H4) (n : B4 D = none) : Ext B2 H2 B4 (upd H4 D (.lst (xs ++ [y]))) :=
  ⟨fun b u hb => by
    rw [upd_ne (ne_of_none hb hD)]
    exact e.hh b u hb, e.bb, fun b u hb => by
    rw [upd_ne (ne_of_none hb n)]
    exact e.bh b u hb, e.nw⟩
theorem De.lc2D {α β : Type} {as : List α} {r : α → Rel} {wi wi1 : TI} {g g1 : TG} {vs vs1 : List Nat} (hi : Di wi σ B (as.map r)) (bs : α → List β) (r1 : α → β → Rel) (o : α → β → PyData) (hz : (as.flatMap fun a => (bs a).map (o a)).length < sizeLine)
    (turn : ∀ a v Bn H, a ∈ as → Same B Bn → Same Bn H → r a Bn v → ∃ σ2, (∀ Q : L2.St → Hp → Prop, Q σ2 H → g v (wipe σ vs) H Q) ∧ wipe σ2 vs = wipe σ vs ∧ Di wi1 σ2 Bn ((bs a).map (r1 a)) ∧
      ∀ b v' Bm H', b ∈ bs a → Same Bn Bm → Same Bm H' → r1 a b Bm v' → ∃ σ3, (∀ Q : L2.St → Hp → Prop, Q σ3 H' → g1 v' (wipe σ2 vs1) H' Q) ∧ wipe σ3 vs1 = wipe σ2 vs1 ∧ De te σ3 Bm (dat K (o a b))) :
    De (tLc2 wi g tYes wi1 g1 tYes te vs vs1) σ B (dat K (.list (as.flatMap fun a => (bs a).map (o a)))) := fun B1 H s1 s2 Q q => hi B1 H s1 s2 _ fun J B2 H2 e hw => fun D hD => by
  have w : Walk J as.length (fun H => Same B2 H) (fun i H x H' => ∃ R, (as.map r)[i]? = some R ∧ ∀ Bc, Same B2 Bc → Same Bc H → ∃ Bn, Ext Bc H Bn H' ∧ R Bn x) := by
    have := hw
    unfold Wk at this
    rw [List.length_map] at this
    exact this
  have part : ∀ i, i ≤ as.length → ((as.take i).flatMap fun a => (bs a).map (o a)).length ≤ (as.flatMap fun a => (bs a).map (o a)).length := fun i _ => by
    conv => rhs; rw [← List.take_append_drop i as, List.flatMap_append, List.length_append]
    omega
  refine ⟨fun i m H' => m = as.length - i ∧ i ≤ as.length ∧ ∃ B' xs, Ext B2 H2 B' H' ∧ B' D = none ∧ H' D = some (.lst xs) ∧ AllR (((as.take i).flatMap fun a => (bs a).map (o a)).map (dat K)) B' xs,
    ⟨as.length, rfl, Nat.zero_le _, B2, [], .own e.bh hD, e.bh.free hD, upd_same, by rw [List.take_zero]; rfl⟩, ?_⟩
  rintro i m H' ⟨rfl, le, B', xs, e', nD, atD, hxs⟩
  by_cases lt : i < as.length
  · refine .inr ⟨w.goes i H' lt (e'.bb.trans e'.bh), fun H'' => ∃ B' xs, Ext B2 H2 B' H'' ∧ B' D = none ∧ H'' D = some (.lst xs) ∧ AllR (((as.take (i + 1)).flatMap fun a => (bs a).map (o a)).map (dat K)) B' xs,
      fun H'' h => ⟨as.length - (i + 1), by omega, rfl, lt, h⟩, fun x H'' y => ?_⟩
    obtain ⟨R, hR, y⟩ := w.yields i H' x H'' lt (e'.bb.trans e'.bh) y
    obtain ⟨Bn, e2, hx⟩ := y B' e'.bb e'.bh
    rw [List.getElem?_map] at hR
    obtain ⟨a, ha, rfl⟩ := Option.map_eq_some_iff.mp hR
    obtain ⟨σ2, t1, t2, t3, t4⟩ := turn a x Bn H'' (List.mem_of_getElem? ha) (((s1.trans e.bb).trans e'.bb).trans e2.bb) e2.bh hx
    obtain ⟨atD2, nD2⟩ := stays e2 atD nD
    have tk : as.take (i + 1) = as.take i ++ [a] := by rw [List.take_succ, ha]; rfl
    have pt := part (i + 1) lt
    rw [tk, List.flatMap_append, List.length_append] at pt
    have e1f : ([a].flatMap fun a => (bs a).map (o a)) = (bs a).map (o a) := by simp
    rw [e1f, List.length_map] at pt
    refine t1 _ ⟨t2, ?_⟩
    show wi1 σ2 H'' _
    refine t3 Bn H'' (Same.refl _) e2.bh _ fun J1 Bm H4 e3 hw1 => ?_
    have w1 : Walk J1 (bs a).length (fun H => Same Bm H) (fun i H x H' => ∃ R, ((bs a).map (r1 a))[i]? = some R ∧ ∀ Bc, Same Bm Bc → Same Bc H → ∃ Bn, Ext Bc H Bn H' ∧ R Bn x) := by
      have := hw1
      unfold Wk at this
      rw [List.length_map] at this
      exact this
    obtain ⟨atD3, nD3⟩ := stays e3 atD2 nD2
    have e13 := (e'.trans e2).trans e3
    refine ⟨fun j k H5 => k = (bs a).length - j ∧ j ≤ (bs a).length ∧ ∃ B5 ys, Ext B2 H2 B5 H5 ∧ Same Bm B5 ∧ B5 D = none ∧ H5 D = some (.lst ys) ∧ AllR ((((as.take i).flatMap fun a => (bs a).map (o a)) ++ ((bs a).take j).map (o a)).map (dat K)) B5 ys,
      ⟨(bs a).length, rfl, Nat.zero_le _, Bm, xs, e13, Same.refl _, nD3, atD3, ?_⟩, ?_⟩
    · rw [List.take_zero, List.map_nil, List.append_nil]
      exact MoA.mo (e2.bb.trans e3.bb) hxs
    rintro j k H5 ⟨rfl, le1, B5, ys, e5, sm, nD5, atD5, hys⟩
    by_cases lt1 : j < (bs a).length
    · refine .inr ⟨w1.goes j H5 lt1 (sm.trans e5.bh), fun H6 => ∃ B5 ys, Ext B2 H2 B5 H6 ∧ Same Bm B5 ∧ B5 D = none ∧ H6 D = some (.lst ys) ∧ AllR ((((as.take i).flatMap fun a => (bs a).map (o a)) ++ ((bs a).take (j + 1)).map (o a)).map (dat K)) B5 ys,
        fun H6 h => ⟨(bs a).length - (j + 1), by omega, rfl, lt1, h⟩, fun x' H6 y' => ?_⟩
      obtain ⟨R', hR', y'⟩ := w1.yields j H5 x' H6 lt1 (sm.trans e5.bh) y'
      obtain ⟨B6, e6, hx'⟩ := y' B5 sm e5.bh
      rw [List.getElem?_map] at hR'
      obtain ⟨b, hb, rfl⟩ := Option.map_eq_some_iff.mp hR'
      obtain ⟨σ3, u1, u2, u3⟩ := t4 b x' B6 H6 (List.mem_of_getElem? hb) ((e3.bb.trans sm).trans e6.bb) e6.bh hx'
      obtain ⟨atD6, nD6⟩ := stays e6 atD5 nD5
      refine u1 _ ⟨u2, ?_⟩
      show te σ3 H6 _
      refine u3 B6 H6 (Same.refl _) e6.bh _ fun y7 B7 H7 e7 hy7 => ?_
      obtain ⟨atD7, nD7⟩ := stays e7 atD6 nD6
      have len := allR_len hys
      rw [List.length_map, List.length_append, List.length_map, List.length_take] at len
      have tk1 : (bs a).take (j + 1) = (bs a).take j ++ [b] := by rw [List.take_succ, hb]; rfl
      refine ⟨ys, atD7, by omega, B7, ys ++ [y7], grown hD ((e5.trans e6).trans e7) nD7, (sm.trans e6.bb).trans e7.bb, nD7, upd_same, ?_⟩
      have eq : ((as.take i).flatMap fun a => (bs a).map (o a)) ++ ((bs a).take (j + 1)).map (o a) = (((as.take i).flatMap fun a => (bs a).map (o a)) ++ ((bs a).take j).map (o a)) ++ [o a b] := by
        rw [tk1, List.map_append, ← List.append_assoc]
        rfl
      rw [eq, List.map_append (l₂ := [o a b])]
      exact allR_snoc (MoA.mo (e6.bb.trans e7.bb) hys) hy7
    · have : j = (bs a).length := by omega
      subst this
      refine .inl ⟨w1.stops H5 (sm.trans e5.bh), B5, ys, e5, nD5, atD5, ?_⟩
      rw [List.take_length] at hys
      rw [tk, List.flatMap_append, e1f]
      exact hys
  · have : i = as.length := by omega
    subst this
    refine .inl ⟨w.stops H' (e'.bb.trans e'.bh), ?_⟩
    rw [List.take_length] at hxs
    refine q (.ref D) (upd B' D (.lst xs)) H' ⟨e.hh.trans e'.hh, (e.bb.trans e'.bb).trans (new_same nD), fun b u hb => ?_, fun b h1 h2 => ?_⟩ (lstR_dat ⟨D, xs, rfl, SqL.of upd_same, MoA.mo (new_same nD) hxs⟩)
    · by_cases z : b = D
      · subst z
        rw [upd_same] at hb
        cases hb
        exact atD
      · rw [upd_ne z] at hb
        exact e'.bh b u hb
    · have z : b ≠ D := by
        rintro rfl
        cases w : H b with
        | none => exact h1 w
        | some u =>
          rw [e.hh b u w] at hD
          cases hD
      rw [upd_ne z]
      exact (e.trans e').nw b h1 h2
/-- walks over data that stands for things -/
theorem Di.conv {wi : TI} {Ss : List Rel} (h : Di wi σ B Rs) (e : Rs = Ss) : Di wi σ B Ss := e ▸ h
theorem Di.listM {α : Type} {as : List α} {f : α → PyData} (h : De tl σ B (dat K (.list (as.map f)))) : Di (iList K tl) σ B (as.map fun a => dat K (f a)) := (Di.listD h).conv (by rw [List.map_map]; rfl)
theorem Di.tupM {α : Type} {as : List α} {f : α → PyData} (h : De tl σ B (dat K (.tuple (as.map f)))) : Di (iTup K tl) σ B (as.map fun a => dat K (f a)) := (Di.tupD h).conv (by rw [List.map_map]; rfl)
theorem rangeI {lo : Int} {n : Nat} : intsR K lo n = (List.range n).map fun i : Nat => dat K (.int (lo + (i : Int))) := rfl
theorem Di.rng {ta : TE} {n : Nat} (h : De ta σ B (dat K (.int (n : Int)))) (h1 : n < 2 ^ 62) : Di (iRng1 (tCons ta tNil)) σ B ((List.range n).map fun i : Nat => dat K (.int (i : Int))) := by
  have := Di.rng1 (K := K) (Da.one h) (by omega) (by omega)
  refine this.conv ?_
  unfold intsR
  have e : ((n : Int)).toNat = n := by omega
  rw [e]
  exact List.map_congr_left fun i _ => by rw [Int.zero_add]
/-- data, one after another -/
def Dd (K : PySem.W.Frag) (ta : TA) (σ : L2.St) (B : Hp) (ds : List PyData) : Prop := Da ta σ B (ds.map (dat K))
theorem Dd.nil : Dd K tNil σ B [] := Da.nil
theorem Dd.cons {tr : TA} {d : PyData} {ds : List PyData} (h : De ta σ B (dat K d)) (t : Dd K tr σ B ds) : Dd K (tCons ta tr) σ B (d :: ds) := Da.cons h t
theorem De.tupD {ta : TA} {ds : List PyData} (h : Dd K ta σ B ds) (hz : ds.length ≤ sizeLine) : De (tTup ta) σ B (dat K (.tuple ds)) := (De.tup h (by rw [List.length_map]; exact hz)).conv fun _ _ => tupR_dat
theorem De.lstD {ta : TA} {ds : List PyData} (h : Dd K ta σ B ds) (hz : ds.length ≤ sizeLine) : De (tLst ta) σ B (dat K (.list ds)) := (De.lst h (by rw [List.length_map]; exact hz)).conv fun _ _ => lstR_dat
/-- tuple(list), tuple(tuple), list(..) -/
theorem De.tupleL {ta : TE} {ds : List PyData} (h : De ta σ B (dat K (.list ds))) : De (tCB (fun xs H Q => ∃ p ys, xs = [.ref p] ∧ ((SqL K H p ys ∧ ∀ l, H l = none → Q (.ref l) (upd H l (.tup ys))) ∨ (SqT K H p ys ∧ Q (.ref p) H))) (tCons ta tNil)) σ B (dat K (.tuple ds)) :=
  (De.cb (.cons (h.conv fun _ _ => dat_lstR) .nil) rc_tupL).conv fun _ _ => tupR_dat
theorem De.tupleT {ta : TE} {ds : List PyData} (h : De ta σ B (dat K (.tuple ds))) : De (tCB (fun xs H Q => ∃ p ys, xs = [.ref p] ∧ ((SqL K H p ys ∧ ∀ l, H l = none → Q (.ref l) (upd H l (.tup ys))) ∨ (SqT K H p ys ∧ Q (.ref p) H))) (tCons ta tNil)) σ B (dat K (.tuple ds)) :=
  (De.cb (.cons (h.conv fun _ _ => dat_tupR) .nil) rc_tupT).conv fun _ _ => tupR_dat
theorem De.listL {ta : TE} {ds : List PyData} (h : De ta σ B (dat K (.list ds))) : De (tCB (fun xs H Q => ∃ p ys, xs = [.ref p] ∧ (SqL K H p ys ∨ SqT K H p ys) ∧ ∀ l, H l = none → Q (.ref l) (upd H l (.lst ys))) (tCons ta tNil)) σ B (dat K (.list ds)) :=
  (De.cb (.cons (h.conv fun _ _ => dat_lstR) .nil) rc_lstL).conv fun _ _ => lstR_dat
theorem De.listT {ta : TE} {ds : List PyData} (h : De ta σ B (dat K (.tuple ds))) : De (tCB (fun xs H Q => ∃ p ys, xs = [.ref p] ∧ (SqL K H p ys ∨ SqT K H p ys) ∧ ∀ l, H l = none → Q (.ref l) (upd H l (.lst ys))) (tCons ta tNil)) σ B (dat K (.list ds)) :=
  (De.cb (.cons (h.conv fun _ _ => dat_tupR) .nil) rc_lstT).conv fun _ _ => lstR_dat
theorem De.lenL {ta : TE} {ds : List PyData} (h : De ta σ B (dat K (.list ds))) : De (tCB (fun xs H Q => ∃ x n, xs = [x] ∧ LenV K x H n ∧ Q (.int n) H) (tCons ta tNil)) σ B (dat K (.int (ds.length : Int))) := .cb (.one h) rc_len
theorem De.lenT {ta : TE} {ds : List PyData} (h : De ta σ B (dat K (.tuple ds))) : De (tCB (fun xs H Q => ∃ x n, xs = [x] ∧ LenV K x H n ∧ Q (.int n) H) (tCons ta tNil)) σ B (dat K (.int (ds.length : Int))) := .cb (.one h) rc_lenT
theorem De.sorted {ta : TE} {ds : List PyData} (h : De ta σ B (dat K (.list ds))) (hal : PySem.W.AllAlike ds) (hk : PySem.W.SortOk ds) (hd : ∀ d ∈ ds, d.depth ≤ 60) : De (tCB (rSortedD K) (tCons ta tNil)) σ B (dat K (.list (sortD ds))) := .cb (.one h) (rc_sorted hal hk hd)
theorem De.show {ta : TE} {d : PyData} (h : De ta σ B (dat K d)) (hs : Shw d) : De (tCB (rShow K) (tCons ta tNil)) σ B (dat K (.str d.shown)) := .cb (.one h) (rc_show hs)
theorem De.listRg {ta : TE} {n : Nat} (h : De ta σ B (dat K (.int (n : Int)))) (h1 : n ≤ 1000000) : De (tLstRg (tRg1 ta)) σ B (dat K (.list ((List.range n).map fun i : Nat => .int (i : Int)))) := fun B1 H s1 s2 Q q => h B1 H s1 s2 _ fun v B2 H2 e hv => by
  have hv := dat_int hv
  subst hv
  refine ⟨n, rfl, RgOk.of_le (Int.le_refl 0) (by omega) (by decide) (by omega), fun p hp => ?_⟩
  have ev : rgV 0 (n : Int) = ((List.range n).map fun i : Nat => V.int (i : Int)) := by
    unfold rgV
    have e : ((n : Int) - 0).toNat = n := by omega
    rw [e]
    exact List.map_congr_left fun i _ => by rw [Int.zero_add]
  rw [ev]
  refine q _ (upd B2 p (.lst ((List.range n).map fun i : Nat => V.int (i : Int)))) _ (e.trans (.new e.bh hp)) ?_
  refine Dp.lst (SqL.of upd_same) ?_
  have : ∀ l : List Nat, DpAll K (upd B2 p (.lst ((List.range n).map fun i : Nat => V.int (i : Int)))) (l.map fun i : Nat => V.int (i : Int)) (l.map fun i : Nat => PyData.int (i : Int)) := by
    intro l
    induction l with
    | nil => exact .nil
    | cons i l ih => exact .cons (.int _) ih
  exact this _
theorem Rv.catS {xs ys : List PyData} (hz : xs.length + ys.length ≤ sizeLine) : Rv (rCatS K) B (dat K (.list xs)) (dat K (.list ys)) (dat K (.list (xs ++ ys))) := fun x y B1 H _ s2 hx hy Q q => by
  obtain ⟨a, us, rfl, h, g⟩ := dat_lstR hx
  obtain ⟨b, ws, rfl, h', g'⟩ := dat_lstR hy
  have l1 := allR_len g
  have l2 := allR_len g'
  rw [List.length_map] at l1 l2
  refine ⟨a, b, us, ws, rfl, rfl, s2.seq h, s2.seq h', by omega, fun p hp => ?_⟩
  refine q _ (upd B1 p (.lst (us ++ ws))) _ (.new s2 hp) ?_
  have s := new_same (o := .lst (us ++ ws)) (s2.free hp)
  exact .lst (SqL.of upd_same) (dpMonoAll s _ _ (allR_dp (by rw [List.map_append]; exact allR_app g g')))
theorem Rv.inT {d : PyData} {ds : List PyData} (hd : SeqAt.shaped d = true) (he : SeqAt.shaped (.tuple ds) = true) : Rv (rInT K false) B (dat K d) (dat K (.tuple ds)) (dat K (.bool (ds.any fun z => PyData.eqv z d))) := fun x y B1 H _ s2 hx hy Q q =>
  ⟨d, ds, dpMono s2 _ _ hx, dpMono s2 _ _ hy, hd, he, q _ B1 H (.refl s2) (Dp.bl _)⟩
theorem Rv.notInT {d : PyData} {ds : List PyData} (hd : SeqAt.shaped d = true) (he : SeqAt.shaped (.tuple ds) = true) : Rv (rInT K true) B (dat K d) (dat K (.tuple ds)) (dat K (.bool (!ds.any fun z => PyData.eqv z d))) := fun x y B1 H _ s2 hx hy Q q =>
  ⟨d, ds, dpMono s2 _ _ hx, dpMono s2 _ _ hy, hd, he, q _ B1 H (.refl s2) (Dp.bl _)⟩
theorem Rv.eqI {i j : Int} : Rv rEq B (dat K (.int i)) (dat K (.int j)) (dat K (.bool (decide (i = j)))) := fun x y B1 H _ s2 hx hy Q q => by
  have hx := dat_int hx
  have hy := dat_int hy
  subst hx hy
  have e : decide (V.int i = V.int j) = decide (i = j) := by simp
  refine ⟨rfl, ?_⟩
  rw [e]
  exact q _ B1 H (.refl s2) (Dp.bl _)
theorem Rv.neI {i j : Int} : Rv rNe B (dat K (.int i)) (dat K (.int j)) (dat K (.bool (!decide (i = j)))) := fun x y B1 H _ s2 hx hy Q q => by
  have hx := dat_int hx
  have hy := dat_int hy
  subst hx hy
  have e : decide (V.int i = V.int j) = decide (i = j) := by simp
  refine ⟨rfl, ?_⟩
  rw [e]
  exact q _ B1 H (.refl s2) (Dp.bl _)
theorem Rv.eqS {i j : Str} : Rv rEq B (dat K (.str i)) (dat K (.str j)) (dat K (.bool (decide (i = j)))) := fun x y B1 H _ s2 hx hy Q q => by
  have hx := dat_str hx
  have hy := dat_str hy
  subst hx hy
  have e : decide (V.str i = V.str j) = decide (i = j) := by simp
  refine ⟨rfl, ?_⟩
  rw [e]
  exact q _ B1 H (.refl s2) (Dp.bl _)
theorem Rv.neS {i j : Str} : Rv rNe B (dat K (.str i)) (dat K (.str j)) (dat K (.bool (!decide (i = j)))) := fun x y B1 H _ s2 hx hy Q q => by
  have hx := dat_str hx
  have hy := dat_str hy
  subst hx hy
  have e : decide (V.str i = V.str j) = decide (i = j) := by simp
  refine ⟨rfl, ?_⟩
  rw [e]
  exact q _ B1 H (.refl s2) (Dp.bl _)
end
section
variable (P : Program) (w : World) (K : PySem.W.Frag) (mg : Str → Option Value) (base : Heap)
/-- a class of objects that keep their arguments -/
structure CalC (x : Str) (C : Addr) (fs : List Str) : Prop where
  c : Cls K C
  g : mg x = some (.ref C)
  na : ∀ f ∈ fs, NoAttr K C f
  ini : ∃ (f : Addr) (fd : FuncData), Mk K C f ∧ FnOk P w K mg base CX0 1 f fd ("self" :: fs) (spIns C fs) ∧ Binds K fd ("self" :: fs) []
end
section
variable {X : Cx} {x : Str} {C : Addr} {fs : List Str} {k : Nat} {p pos : Pos} {e : Expr} {es : List Expr} {t : TA}
theorem pe_calC (c : CalC X.prog X.w X.K X.mg X.base x C fs) (hr : Room k X.A) (hk : 2 ≤ k) (hg : Gl X x) (ha : PA X (e :: es) t) (hdb : (x == ("__debug__" : Str)) = false := by decide)
    (he : starEach (e :: es) X.env = (false, eval e X.env) :: starEach es X.env := by rfl) (hpl : (backTo pos (starEach es X.env)).any (·.1) = false := by rfl) : PE X (.Call (.Name x p) (e :: es) [] pos) (tMake C (spIns C fs) [] E0 t) := by
  obtain ⟨f, fd, M, F, b⟩ := c.ini
  exact pe_make M F (hr.mono hk) hg c.g b .nil pass0 ha hdb he hpl
end
end Wv

set_option Elab.async false
set_option linter.all false
set_option maxRecDepth 100000
set_option maxHeartbeats 4000000
/-! Wv3: enumerate of a tuple, zip of tuples; promises by their arguments. -/
namespace Wb
open PySem PySem.Spec PyProof.Rows L2
/-- the tuple at a, each item in a new pair with its number -/
def IteT (K : PySem.W.Frag) (a : Addr) : It :=
  ⟨fun i H => ∃ (xs : List V) (x : V), SqT K H a xs ∧ xs[i]? = some x, fun i H v H' => ∃ T x, v = .ref T ∧ H T = none ∧ H' = upd H T (.tup [.int (i : Nat), x]) ∧ ∀ xs, SqT K H a xs → xs[i]? = some x, fun i H => ∃ xs : List V, SqT K H a xs ∧ xs.length ≤ i⟩
theorem two_mem {α : Type} {b x y : α} (h : b ∈ [x, y]) : b = x ∨ b = y := by simpa using h
theorem apart_tup {h : Heap} {it a : Addr} {i : Nat} {xs : Array Value} (h1 : h.IsTupleIter it a i) (h2 : h.IsTuple a xs) : a ≠ it := by
  rintro rfl
  obtain ⟨o, e, c, _⟩ := h1
  obtain ⟨o', e', c', _⟩ := h2
  rw [e] at e'
  cases e'
  rw [c] at c'
  exact absurd c' (by decide)
theorem turn_enumT {P : Program} {w : World} {K : PySem.W.Frag} {elts : List Expr} {kk : Nat} {tpos : Pos} (a e it : Addr) :
    Turn P w K (.Tuple elts kk tpos) (IteT K a) [e, it] e (fun i h => (∃ old, IsEnum h e it ((i : Nat) : Int) old) ∧ h.IsTupleIter it a i ∧ e ≠ it ∧ e ≠ a) where
  mem := by simp
  obj := fun i h st b hb => by
    obtain ⟨⟨old, he⟩, ⟨o, ho, hc, hd⟩, _⟩ := st
    rcases two_mem hb with z | z <;> subst z
    · exact ⟨_, he, fun v q => nomatch q⟩
    · exact ⟨o, ho, fun v q => by rw [hd] at q; cases q⟩
  keep := fun i h h' ⟨⟨old, he⟩, hi, hne⟩ k => ⟨⟨old, k e (by simp) _ he⟩, hi.at fun o q => k it (by simp) o q, hne⟩
  item := by
    intro X hP hw hK hc i pins s σ H E I hf ⟨⟨old, he⟩, hit, hne, hea⟩ ⟨xs, x, hq, hx⟩
    subst hP hw hK
    obtain ⟨its, rv, p, hz⟩ := I.tuple hq
    obtain ⟨u, hu, ru⟩ := rv.get hx
    have lt : ∀ b ∈ [e, it], b < s.heap.objs.size := fun b hb => by
      rcases two_mem hb with z | z <;> subst z
      · exact Heap.lt_size he
      · obtain ⟨_, q, _⟩ := hit
        exact Heap.lt_size q
    have hel := lt e (by simp)
    have hi : i < its.toArray.size := by
      have := List.getElem?_eq_some_iff.mp hu
      simpa using this.1
    refine wpAny_pyNext_enum_itemD (Draws.tuple (A := X.A.in1) (show X.A.in1.handled = none from I.ok.hd hc) it a (apart_tup hit p) its.toArray) he ⟨hit, p⟩ hi hne (by simp [hne, hea]) fun y h1 tk hy ho hst hT hsz hk => ?_
    have hy : its[i]? = some y := by simpa using hy
    rw [hu] at hy
    cases hy
    refine ⟨_, rfl, wpAny_letOwnedTupleGo_enum (s := { s with heap := h1, toks := tk + 1 }) ho fun h2 he' sb => ?_⟩
    have hT2 := (sb.2 _ (Nat.ne_of_gt hel)).trans hT
    refine ⟨.ref s.heap.objs.size, _, I.turnedNew (t' := tk + 1) (ch := [e, it]) (ob := .tup [.int (i : Nat), x]) (fun b ob hb q => (sb.2 b (fun z => hb (by simp [z]))).trans (hk b ob (fun z => hb (by simp [z])) (fun z => hb (by simp [z])) q)) hf (Nat.le_refl _)
      ⟨by show 2 ≤ sizeLine; decide, [.int i tk, u], .cons ⟨_, rfl⟩ (.cons ru .nil), ⟨_, hT2, rfl, _, rfl⟩⟩, rfl, ⟨_, x, rfl, I.hok.fresh (Nat.le_refl _), rfl, fun ys hy => by rw [I.tuple_inj hy hq]; exact hx⟩, ⟨⟨u, ?_⟩, hst.1.at fun o q => (sb.2 it (Ne.symm hne)).trans q, hne, hea⟩, fun b hb => ?_⟩
    · rw [show ((i + 1 : Nat) : Int) = (i : Int) + 1 by omega]
      exact he'
    · rw [upd_ne (Nat.ne_of_lt (lt b hb))]
      exact (hf b hb).1
  done := by
    intro X hP hw hK hc i pins s σ H E I hf ⟨⟨old, he⟩, hit, hne, hea⟩ ⟨xs, hq, hx⟩
    subst hP hw hK
    obtain ⟨its, rv, p, hz⟩ := I.tuple hq
    obtain ⟨f0, f1, f2, f3, f4, f5⟩ := hf it (by simp)
    have hl := rv.length
    have hno : its.toArray[i]? = none := by simp; omega
    have hT : s.TypeIs (.ref e) "enumerate" := ⟨_, he, rfl⟩
    unfold pyNext
    refine wpAny_bind (wpAny_attempt (wpAny_callSpecial?_slot (name := Str.ofString "__next__") hT F.slot_enumerate_next
      (wpAny_call_entry F.slot_enumerate_next hT F.entry_enumerate_next ?_ (F.args_enumerate_next_1 _))))
    show wpAny _ _ (field (.ref e) 2 >>= _) _ _ _
    refine wpAny_bind (wpAny_field he rfl (x := .ref it) rfl ?_)
    refine wpAny_bind (RZ.nextOf_tuple_end (I.ok.hd hc) hit p hno fun h' x he' ⟨o, ho, hc'⟩ => ?_)
    refine wpAny_bind (wpAny_isInstance (T := "StopIteration") (b := true) ⟨o, ho, hc'⟩ isSubtype_stop ?_)
    exact wpAny_pure ⟨rfl, I.turned (t' := s.toks) (fun b o hb q => he' b o hb q) f0 f1 f3 f4 f5⟩
  self := fun A i s Q E ⟨⟨_, he⟩, _⟩ h => wpAny_pyIter_enum he h
set_option maxHeartbeats 8000000 in
theorem meets_enumB1 {v : Value} {o : Obj} {H : Heap → Prop} (B : Begins v o H) :
    Meets (Builtin.«enumerate.__new__» ⟨[.type "enumerate", v], []⟩) (fun _ R s => H s.heap ∧
      R (.ok (.ret (.ref (s.heap.push o).objs.size))) { s with heap := (s.heap.push o).push { cls := .type "enumerate", data := .fields #[.none, .bool false, .ref s.heap.objs.size, rawInt 0, .none, .none] } }) :=
  .of_wp fun prog w A R ⟨hp, g, d, tk, os⟩ ⟨h1, h⟩ => by
    have hsub := sub_enumerate
    have q1 : ∀ {A' : Around} {E : Value → Shared → Prop} {Q : Value → Shared → Prop}, Q (.ref hp.objs.size) ⟨hp.push o, g, d, tk, os⟩ → wpAny (model prog w) A' (pyIter v) Q E ⟨hp, g, d, tk, os⟩ :=
      fun q => B.iter prog w _ _ ⟨hp, g, d, tk, os⟩ _ h1 q
    wp_walk using q1
    refine wpAny_stack_any fun st => wpAny_pure ?_
    split
    · rename_i c _ _ _ _ _
      cases (c == Value.type "enumerate") <;> (wp_walk using q1; exact ⟨_, rfl, h⟩)
    · wp_walk using q1
      exact ⟨_, rfl, h⟩
def iEnumT (K : PySem.W.Frag) (ta : TA) : TI := fun σ H R => ta σ H fun vs H1 => ∃ a xs, vs = [.ref a] ∧ SqT K H1 a xs ∧ R (IteT K a) H1
theorem pi_enumT {X : Cx} {e : Expr} {ta : TA} {p pos tpos : Pos} {elts : List Expr} {kk : Nat} (hg : Gl X "enumerate") (hm : X.mg "enumerate" = none) (ha : PA X [e] ta) (hs : starEach [e] X.env = [(false, eval e X.env)] := by rfl) :
    PI X (.Tuple elts kk tpos) (.Call (.Name "enumerate" p) [e] [] pos) (iEnumT X.K ta) := by
  refine ⟨fun pins s σ H R I h => ?_⟩
  refine Call_ (ld_blt I hg hm boot_enumerate (PyProof.Rows.callWith_type1 (thn (ha.run pos pins s σ H _ I h) fun us s1 ⟨vs, H1, I1, r1, q1⟩ => ?_) hs rfl))
  obtain ⟨a, xs, rfl, hq, q⟩ := q1
  obtain ⟨u, rfl, ru⟩ := vals1 r1
  obtain rfl : u = Value.ref a := ru
  obtain ⟨its, rv, p', hz⟩ := I1.tuple hq
  have hT : s1.heap.IsTuple a its.toArray := p'
  refine callType_new F.called_enumerate (by decide) (F.typeCall_enumerate_1 _) (F.newCall_enumerate_1 _) (fun obj => F.args_object_init_2 obj _) F.entry_enumerate_new (meets_enumB1 (begins_tuple a its.toArray)) ⟨hT, ?_⟩
  have sz : (s1.heap.push { cls := .type "tuple_iterator", data := .fields #[.ref a, .int 0 0] }).objs.size = s1.heap.objs.size + 1 := Heap.size_push ..
  have he : IsEnum ((s1.heap.push { cls := .type "tuple_iterator", data := .fields #[.ref a, .int 0 0] }).push { cls := .type "enumerate", data := .fields #[.none, .bool false, .ref s1.heap.objs.size, rawInt 0, .none, .none] }) (s1.heap.objs.size + 1) s1.heap.objs.size 0 .none := by
    have := Heap.get?_push_size (s1.heap.push { cls := .type "tuple_iterator", data := .fields #[.ref a, .int 0 0] }) (o := { cls := .type "enumerate", data := .fields #[.none, .bool false, .ref s1.heap.objs.size, rawInt 0, .none, .none] }) rfl
    rw [sz] at this
    exact this
  show _ ∧ _
  rw [sz]
  refine ⟨⟨_, he, rfl⟩, wpAny_pyIter_enum (s := { s1 with heap := _ }) he ?_⟩
  have la : a < s1.heap.objs.size := by
    obtain ⟨o, ho, _⟩ := hT
    exact Heap.lt_size ho
  refine ⟨s1.heap.objs.size + 1, [s1.heap.objs.size + 1, s1.heap.objs.size], _, _, H1, rfl, I1.kept (t' := s1.toks) fun b ob q => Heap.get?_push_of_some _ (Heap.get?_push_of_some _ q), turn_enumT a (s1.heap.objs.size + 1) s1.heap.objs.size,
    ⟨⟨.none, he⟩, ⟨_, Heap.get?_push_of_some _ (Heap.get?_push_size _ rfl), rfl, rfl⟩, Nat.succ_ne_self _, Nat.ne_of_gt (Nat.lt_succ_of_lt la)⟩, fun b hb => ?_, q⟩
  have le : s1.heap.objs.size ≤ b := by
    rcases two_mem hb with z | z <;> subst z
    · exact Nat.le_succ _
    · exact Nat.le_refl _
  exact I1.fpOk le (I1.hok.fresh le)
theorem walk_enumT {K : PySem.W.Frag} {a : Addr} {xs : List V} : Walk (IteT K a) xs.length (fun H => SqT K H a xs) (YPair (fun i => some (.int (i : Nat))) (fun i => xs[i]?)) :=
  ⟨fun i _ hi q => ⟨xs, xs[i], q, List.getElem?_eq_getElem hi⟩, fun _ q => ⟨xs, q, Nat.le_refl _⟩, fun i H v H' _ q ⟨T, x, h1, h2, h3, h4⟩ => ⟨T, .int (i : Nat), x, h1, h2, h3, rfl, h4 xs q⟩⟩
theorem walk_zipT {K : PySem.W.Frag} {a b : Addr} {xs ys : List V} {n : Nat} (hn : n = min xs.length ys.length) : Walk (RZ.ItzT K a b) n (fun H => SqT K H a xs ∧ SqT K H b ys) (YPair (fun i => xs[i]?) (fun i => ys[i]?)) :=
  ⟨fun i _ hi q => ⟨xs, ys, xs[i]'(by omega), ys[i]'(by omega), q.1, q.2, List.getElem?_eq_getElem _, List.getElem?_eq_getElem _⟩, fun _ q => ⟨xs, ys, q.1, q.2, by omega⟩, fun i H v H' _ q ⟨T, x, z, h1, h2, h3, h4, h5⟩ => ⟨T, x, z, h1, h2, h3, h4 xs q.1, h5 ys q.2⟩⟩
/-- a list or a tuple, walked -/
def iSeq (K : PySem.W.Frag) (tl : TE) : TI := fun σ H R => tl σ H fun x H1 => ∃ a, x = .ref a ∧ ((∃ xs, SqL K H1 a xs) ∧ R (Itl K a) H1 ∨ (∃ xs, SqT K H1 a xs) ∧ R (Itt K a) H1)
theorem pi_seq {X : Cx} {tg l : Expr} {tl : TE} (hl : PE X l tl) : PI X tg l (iSeq X.K tl) := by
  refine ⟨fun pins s σ H R I h => thn (hl.run pins s σ H _ I h) fun v s1 ⟨x, H1, I1, r1, a, e, q⟩ => ?_⟩
  subst e
  cases r1
  have new : ∀ b ∈ [s1.heap.objs.size], FpOk X pins H1 b := fun b hb => by
    rw [List.mem_singleton.mp hb]
    exact I1.fpOk (Nat.le_refl _) (I1.hok.fresh (Nat.le_refl _))
  rcases q with ⟨⟨xs, hq⟩, q⟩ | ⟨⟨xs, hq⟩, q⟩
  · obtain ⟨its, rv, p, hz⟩ := I1.list hq
    exact wpAny_pyIter_list p.isList ⟨s1.heap.objs.size, _, _, _, H1, rfl, I1.kept (t' := s1.toks) fun b o e => Heap.get?_push_of_some _ e, turn_list a _, ⟨_, Heap.get?_push_size _ rfl, rfl, rfl⟩, new, q⟩
  · obtain ⟨its, rv, p, hz⟩ := I1.tuple hq
    exact wpAny_pyIter_tuple (show s1.heap.IsTuple a its.toArray from p) ⟨s1.heap.objs.size, _, _, _, H1, rfl, I1.kept (t' := s1.toks) fun b o e => Heap.get?_push_of_some _ e, turn_tuple a _, ⟨_, Heap.get?_push_size _ rfl, rfl, rfl⟩, new, q⟩
end Wb
namespace Wv
open PySem PySem.Spec PyProof.Rows L2 Wb
section
variable {K : PySem.W.Frag} {σ : L2.St} {B B' : Hp} {ta tb te tl : TE} {tt tu : TT} {R S T U : Rel} {Rs : List Rel} {x v : V}
theorem Di.zipT {ta : TA} {Ss : List Rel} [m : MoA Rs] [m' : MoA Ss] (hm : ∀ R ∈ Rs, Mo R) (hm' : ∀ R ∈ Ss, Mo R) (h : Da ta σ B [tupR K Rs, tupR K Ss]) : Di (RZ.iZipA K ta) σ B ((Rs.zip Ss).map fun p => tupR K [p.1, p.2]) := fun B1 H s1 s2 Q q => h B1 H s1 s2 _ fun vs B2 H2 e hv => by
  obtain ⟨v, r, rfl, ⟨a, xs, rfl, hs, hR⟩, v', r', rfl, ⟨b, ys, rfl, hs', hR'⟩, h5⟩ := hv
  have h5 : r' = [] := h5
  subst h5
  refine ⟨a, b, xs, ys, rfl, .inr ⟨seqT e.bh hs, seqT e.bh hs', q _ B2 H2 e ?_⟩⟩
  have len := allR_len hR
  have len' := allR_len hR'
  unfold Wk
  rw [List.length_map]
  refine (walk_zipT (K := K) (a := a) (b := b) (xs := xs) (ys := ys) (n := (Rs.zip Ss).length) (by rw [List.length_zip, len, len'])).mono (fun H' s => ⟨seqT s hs, seqT s hs'⟩) fun i H' x H'' hi s y => ?_
  obtain ⟨p, u, w, rfl, hp, rfl, hu, hw⟩ := y
  have hu : xs[i]? = some u := hu
  have hw : ys[i]? = some w := hw
  obtain ⟨R, hR1, _⟩ := allR_at hR hu
  obtain ⟨S, hS1, _⟩ := allR_at hR' hw
  refine ⟨tupR K [R, S], ?_, fun Bc sc sh => ?_⟩
  · rw [List.getElem?_map, List.getElem?_zip_eq_some (z := (R, S)) |>.mpr ⟨hR1, hS1⟩]
    rfl
  · have := hm R (List.mem_of_getElem? hR1)
    have := hm' S (List.mem_of_getElem? hS1)
    obtain ⟨v1, hv1, q1⟩ := allR_of (m.mo sc hR) hR1
    obtain ⟨v2, hv2, q2⟩ := allR_of (m'.mo sc hR') hS1
    rw [hu] at hv1
    rw [hw] at hv2
    cases hv1
    cases hv2
    exact pair_new sh hp q1 q2
theorem Di.enumT {ta : TA} [m : MoA Rs] (hm : ∀ R ∈ Rs, Mo R) (h : Da ta σ B [tupR K Rs]) : Di (iEnumT K ta) σ B (Rs.zipIdx.map fun p => tupR K [dat K (.int (p.2 : Int)), p.1]) := fun B1 H s1 s2 Q q => h B1 H s1 s2 _ fun vs B2 H2 e hv => by
  obtain ⟨v, r, rfl, ⟨a, xs, rfl, hs, hR⟩, h5⟩ := hv
  have h5 : r = [] := h5
  subst h5
  refine ⟨a, xs, rfl, seqT e.bh hs, q _ B2 H2 e ?_⟩
  have len := allR_len hR
  unfold Wk
  rw [List.length_map, List.length_zipIdx, ← len]
  refine (walk_enumT (K := K) (a := a) (xs := xs)).mono (fun H' s => seqT s hs) fun i H' x H'' hi s y => ?_
  obtain ⟨p, u, w, rfl, hp, rfl, hu, hw⟩ := y
  cases hu
  have hw : xs[i]? = some w := hw
  obtain ⟨R, hR1, _⟩ := allR_at hR hw
  refine ⟨tupR K [dat K (.int (i : Int)), R], ?_, fun Bc sc sh => ?_⟩
  · rw [List.getElem?_map, List.getElem?_zipIdx, hR1]
    simp
  · have := hm R (List.mem_of_getElem? hR1)
    obtain ⟨v1, hv1, q1⟩ := allR_of (m.mo sc hR) hR1
    rw [hw] at hv1
    cases hv1
    exact pair_new sh hp (Dp.int _) q1
/-- of data that stands for things -/
theorem mo_dats {α : Type} {as : List α} {f : α → PyData} : ∀ R ∈ as.map (fun a => dat K (f a)), Mo R := fun R h => by
  obtain ⟨a, _, rfl⟩ := List.mem_map.mp h
  exact inferInstance
theorem mos_dats {α : Type} {as : List α} {f : α → PyData} : MoA (as.map fun a => dat K (f a)) := moA_of mo_dats
theorem dat_tupM {α : Type} {as : List α} {f : α → PyData} {B : Hp} {v : V} (h : dat K (.tuple (as.map f)) B v) : tupR K (as.map fun a => dat K (f a)) B v := by
  have := dat_tupR h
  rw [List.map_map] at this
  exact this
theorem Di.zipTM {α β : Type} {as : List α} {bs : List β} {f : α → PyData} {g : β → PyData} {ta tb : TE} (h : De ta σ B (dat K (.tuple (as.map f)))) (h2 : De tb σ B (dat K (.tuple (bs.map g)))) :
    Di (RZ.iZipA K (tCons ta (tCons tb tNil))) σ B ((as.zip bs).map fun p => tupR K [dat K (f p.1), dat K (g p.2)]) := by
  have : MoA (as.map fun a => dat K (f a)) := mos_dats
  have : MoA (bs.map fun a => dat K (g a)) := mos_dats
  have i1 : Mo (tupR K (as.map fun a => dat K (f a))) := inferInstance
  have := Di.zipT (K := K) (Rs := as.map fun a => dat K (f a)) (Ss := bs.map fun a => dat K (g a)) mo_dats mo_dats (.cons (h.conv fun _ _ => dat_tupM) (.cons (h2.conv fun _ _ => dat_tupM) .nil))
  rw [List.zip_map, List.map_map] at this
  exact this
theorem Di.enumTM {α : Type} {as : List α} {f : α → PyData} {ta : TE} (h : De ta σ B (dat K (.tuple (as.map f)))) : Di (iEnumT K (tCons ta tNil)) σ B (as.zipIdx.map fun p => tupR K [dat K (.int (p.2 : Int)), dat K (f p.1)]) := by
  have : MoA (as.map fun a => dat K (f a)) := mos_dats
  have := Di.enumT (K := K) (Rs := as.map fun a => dat K (f a)) mo_dats (.cons (h.conv fun _ _ => dat_tupM) .nil)
  rw [List.zipIdx_map, List.map_map] at this
  exact this
end
/-! ### promises by their arguments -/
section
variable {α : Type} {args : α → List Rel} {R R1 R2 R3 : α → Rel} {pre : α → Prop} {res : α → Rel} {vs : List V} {H : Hp} {Q : VK} {E : XK}
theorem pf_len (h : Pf args pre res vs H Q E) {m : Nat} (n : ∀ a, (args a).length = m) : vs.length = m := by
  obtain ⟨B, a, _, h, _⟩ := h
  rw [allR_len h, n]
theorem pf1 (h : Pf (fun a => [R a]) pre res vs H Q E) : ∃ v B a, vs = [v] ∧ Same B H ∧ R a B v ∧ pre a ∧ ∀ v B' H', Ext B H B' H' → res a B' v → Q v H' := by
  obtain ⟨B, a, s, ⟨v, r, rfl, h1, h⟩, p, k⟩ := h
  have h : r = [] := h
  subst h
  exact ⟨v, B, a, rfl, s, h1, p, k⟩
theorem pf2 (h : Pf (fun a => [R a, R1 a]) pre res vs H Q E) : ∃ v v1 B a, vs = [v, v1] ∧ Same B H ∧ R a B v ∧ R1 a B v1 ∧ pre a ∧ ∀ v B' H', Ext B H B' H' → res a B' v → Q v H' := by
  obtain ⟨B, a, s, ⟨v, r, rfl, h1, v1, r1, rfl, h2, h⟩, p, k⟩ := h
  have h : r1 = [] := h
  subst h
  exact ⟨v, v1, B, a, rfl, s, h1, h2, p, k⟩
theorem pf3 (h : Pf (fun a => [R a, R1 a, R2 a]) pre res vs H Q E) : ∃ v v1 v2 B a, vs = [v, v1, v2] ∧ Same B H ∧ R a B v ∧ R1 a B v1 ∧ R2 a B v2 ∧ pre a ∧ ∀ v B' H', Ext B H B' H' → res a B' v → Q v H' := by
  obtain ⟨B, a, s, ⟨v, r, rfl, h1, v1, r1, rfl, h2, v2, r2, rfl, h3, h⟩, p, k⟩ := h
  have h : r2 = [] := h
  subst h
  exact ⟨v, v1, v2, B, a, rfl, s, h1, h2, h3, p, k⟩
theorem pf4 (h : Pf (fun a => [R a, R1 a, R2 a, R3 a]) pre res vs H Q E) : ∃ v v1 v2 v3 B a, vs = [v, v1, v2, v3] ∧ Same B H ∧ R a B v ∧ R1 a B v1 ∧ R2 a B v2 ∧ R3 a B v3 ∧ pre a ∧ ∀ v B' H', Ext B H B' H' → res a B' v → Q v H' := by
  obtain ⟨B, a, s, ⟨v, r, rfl, h1, v1, r1, rfl, h2, v2, r2, rfl, h3, v3, r3, rfl, h4, h⟩, p, k⟩ := h
  have h : r3 = [] := h
  subst h
  exact ⟨v, v1, v2, v3, B, a, rfl, s, h1, h2, h3, h4, p, k⟩
end
end Wv

set_option Elab.async false
set_option linter.all false
set_option maxRecDepth 100000
set_option maxHeartbeats 4000000
/-! Wv4: statements, by what is evaluated. -/
theorem L2.Room.u65 {k : Nat} {A : PySem.Around} (h : L2.Room k A) : A.units + 65 < PySem.cLine := by
  have := h.un
  omega
namespace Wv
open PySem PySem.Spec PyProof.Rows L2 Wb
section
variable {K : PySem.W.Frag} {σ : L2.St} {B H : Hp} {ta tb te tl : TE} {tt tu : TT} {R S T U : Rel} {Rs : List Rel} {D : Ends} {t u rest : TS} {i j : Nat}
theorem s_set (h : De te σ B R) (hB : Same B H) (k : ∀ v B' H', Ext B H B' H' → R B' v → rest D (σ.set i (some v)) H') : tSeq (tAsg te (gName i)) rest D σ H := h B H (Same.refl _) hB _ k
theorem s_setE (h : De te σ B R) (hB : Same B H) (k : ∀ v B' H', Ext B H B' H' → R B' v → D.nx (σ.set i (some v)) H') : tAsg te (gName i) D σ H := h B H (Same.refl _) hB _ k
theorem s_ret (h : De te σ B R) (hB : Same B H) (k : ∀ v B' H', Ext B H B' H' → R B' v → D.rt v H') : tRet te D σ H := h B H (Same.refl _) hB _ k
theorem s_if {b : Bool} (h : Dt tt σ B b) (hB : Same B H) (k1 : b = true → ∀ B' H', Ext B H B' H' → t D σ H') (k2 : b = false → ∀ B' H', Ext B H B' H' → u D σ H') : tIfS tt t u D σ H := h B H (Same.refl _) hB _ fun B' H' e => by
  cases b with
  | true => exact k1 rfl B' H' e
  | false => exact k2 rfl B' H' e
theorem s_ifS {b : Bool} (h : Dt tt σ B b) (hB : Same B H) (k1 : b = true → ∀ B' H', Ext B H B' H' → t { D with nx := rest D } σ H') (k2 : b = false → ∀ B' H', Ext B H B' H' → u { D with nx := rest D } σ H') : tSeq (tIfS tt t u) rest D σ H := s_if (D := { D with nx := rest D }) h hB k1 k2
/-- a test that is not met: on it goes -/
theorem s_skip (h : Dt tt σ B false) (hB : Same B H) (k : ∀ B' H', Ext B H B' H' → rest D σ H') : tSeq (tIfS tt t tNext) rest D σ H := s_ifS h hB (fun z => nomatch z) fun _ => k
theorem s_par {ta : TA} {S : Rel} (h : Da ta σ B [R, S]) (hB : Same B H) (k : ∀ u v B' H', Ext B H B' H' → R B' u → S B' v → rest D ((σ.set i (some u)).set j (some v)) H') : tSeq (tPar i j ta) rest D σ H := h B H (Same.refl _) hB _ fun vs B' H' e hv => by
  obtain ⟨a, r, rfl, h1, b, r', rfl, h2, h3⟩ := hv
  have h3 : r' = [] := h3
  subst h3
  exact ⟨a, b, rfl, k a b B' H' e h1 h2⟩
theorem Rv.mulS3 {a : Nat} : Rv rMulS B (dat K (.str ⟨#[a]⟩)) (dat K (.int 3)) (dat K (.str (mulS ⟨#[a]⟩ 3))) := fun x y B1 H1 _ s2 hx hy Q q => ⟨_, 3, dat_str hx, dat_int hy, by decide, by decide, Nat.zero_lt_one, by show 1 ≤ 1000; decide, q _ B1 H1 (.refl s2) (.str _)⟩
theorem De.negI {n : Int} (h : De te σ B (dat K (.int n))) : De (tUn (rU fun i => .int (-i)) te) σ B (dat K (.int (-n))) := .un h fun x B1 H1 _ s2 hx Q q => ⟨n, dat_int hx, q _ B1 H1 (.refl s2) (.int _)⟩
theorem Di.seqL {ds : List PyData} (h : De tl σ B (dat K (.list ds))) : Di (iSeq K tl) σ B (ds.map (dat K)) := fun B1 H s1 s2 Q q => h B1 H s1 s2 _ fun v B2 H2 e hv => by
  have q2 := Di.listD (K := K) (De.var (i := 0) (σ := [some v]) hv rfl) B2 H2 (Same.refl _) e.bh Q fun J B3 H3 e3 hw => q J B3 H3 (e.trans e3) hw
  obtain ⟨x, hx, a, ha, hs, r⟩ := q2
  cases hx
  exact ⟨a, ha, .inl ⟨hs, r⟩⟩
theorem Di.seqT {ds : List PyData} (h : De tl σ B (dat K (.tuple ds))) : Di (iSeq K tl) σ B (ds.map (dat K)) := fun B1 H s1 s2 Q q => h B1 H s1 s2 _ fun v B2 H2 e hv => by
  have q2 := Di.tupD (K := K) (De.var (i := 0) (σ := [some v]) hv rfl) B2 H2 (Same.refl _) e.bh Q fun J B3 H3 e3 hw => q J B3 H3 (e.trans e3) hw
  obtain ⟨x, hx, a, ha, hs, r⟩ := q2
  cases hx
  exact ⟨a, ha, .inr ⟨hs, r⟩⟩
abbrev rTup (K : PySem.W.Frag) : List V → Hp → VK → Prop := fun xs H Q => ∃ p ys, xs = [.ref p] ∧ ((SqL K H p ys ∧ ∀ l, H l = none → Q (.ref l) (upd H l (.tup ys))) ∨ (SqT K H p ys ∧ Q (.ref p) H))
abbrev rLst (K : PySem.W.Frag) : List V → Hp → VK → Prop := fun xs H Q => ∃ p ys, xs = [.ref p] ∧ (SqL K H p ys ∨ SqT K H p ys) ∧ ∀ l, H l = none → Q (.ref l) (upd H l (.lst ys))
abbrev rLen (K : PySem.W.Frag) : List V → Hp → VK → Prop := fun xs H Q => ∃ x n, xs = [x] ∧ LenV K x H n ∧ Q (.int n) H
/-- what is wanted behind a turn -/
def Nz (B H : Hp) (P : L2.St → Hp → Prop) : L2.St → Hp → Prop := fun σ H' => ∃ B', Ext B H B' H' ∧ P σ B'
theorem s_forE {wi : TI} {g : TG} {ts : TS} (hi : Di wi σ B Rs) (hB : Same B H) (Pv : Nat → L2.St → Hp → Prop) (h0 : ∀ B', Same B B' → Pv 0 σ B')
    (hs : ∀ B1 H1, Ext B H B1 H1 → ∀ i R v σ' Bc Bn Hn, Rs[i]? = some R → Pv i σ' Bc → Same Bc Bn → Ext B1 H1 Bn Hn → R Bn v → g v σ' Hn fun σ2 H2 => ts { D with nx := Nz B1 H1 (Pv (i + 1)), ct := Nz B1 H1 (Pv (i + 1)), bk := D.nx } σ2 H2)
    (hd : ∀ σ' B' H', Ext B H B' H' → Pv Rs.length σ' B' → D.nx σ' H') : tFor wi g ts D σ H :=
  hi B H (Same.refl _) hB _ fun J B1 H1 e hw => for_it hw (fun i => Nz B1 H1 (Pv i)) ⟨B1, .refl e.bh, h0 B1 e.bb⟩ (fun i σ' H' _ ⟨B', s1, _⟩ => s1.bb.trans s1.bh)
    (fun i x σ' H' H'' hi ⟨Bc, s1, p⟩ ⟨R, hR, y⟩ => by
      obtain ⟨Bn, e2, hx⟩ := y Bc s1.bb s1.bh
      exact hs B1 H1 e i R x σ' Bc Bn H'' hR p e2.bb (s1.trans e2) hx)
    (fun σ' H' ⟨B', s1, p⟩ => hd σ' B' H' (e.trans s1) p)
theorem s_forS {wi : TI} {g : TG} {ts : TS} (hi : Di wi σ B Rs) (hB : Same B H) (Pv : Nat → L2.St → Hp → Prop) (h0 : ∀ B', Same B B' → Pv 0 σ B')
    (hs : ∀ B1 H1, Ext B H B1 H1 → ∀ i R v σ' Bc Bn Hn, Rs[i]? = some R → Pv i σ' Bc → Same Bc Bn → Ext B1 H1 Bn Hn → R Bn v → g v σ' Hn fun σ2 H2 => ts { D with nx := Nz B1 H1 (Pv (i + 1)), ct := Nz B1 H1 (Pv (i + 1)), bk := rest D } σ2 H2)
    (hd : ∀ σ' B' H', Ext B H B' H' → Pv Rs.length σ' B' → rest D σ' H') : tSeq (tFor wi g ts) rest D σ H := s_forE (D := { D with nx := rest D }) hi hB Pv h0 hs hd
end
end Wv

set_option Elab.async false
set_option linter.all false
set_option maxRecDepth 100000
set_option maxHeartbeats 4000000
/-! Wv5: what is evaluated while a deal goes on: a base that leaves the deal's two lists out. -/
namespace Wv
open PySem PySem.Spec PyProof.Rows L2 Wb
/-- the deal at d and c, a base that has neither -/
structure Dl (B H : Hp) (d c : Addr) : Prop where
  deal : Deal H d c
  sub : Same B (off H d c)
theorem Dl.bh {B H : Hp} {d c : Addr} (L : Dl B H d c) : Same B H := L.sub.trans (off_le H d c)
theorem Dl.noD {B H : Hp} {d c : Addr} (L : Dl B H d c) : B d = none := by
  cases h : B d with
  | none => rfl
  | some o => exact absurd rfl (off_some (L.sub _ _ h)).2.1
theorem Dl.noC {B H : Hp} {d c : Addr} (L : Dl B H d c) : B c = none := by
  cases h : B c with
  | none => rfl
  | some o => exact absurd rfl (off_some (L.sub _ _ h)).2.2
theorem Deal.atD {H : Hp} {d c : Addr} (D : Deal H d c) : H d ≠ none ∧ H c ≠ none := by
  obtain ⟨cs, mix, h1, h2, _⟩ := D.ex
  rw [h1, h2]
  exact ⟨Option.some_ne_none _, Option.some_ne_none _⟩
/-- later: the deal may have been drawn from, all else is kept -/
structure ExtD (d c : Addr) (B H B' H' : Hp) : Prop where
  deal : Deal H' d c
  oo : Same (off H d c) (off H' d c)
  bb : Same B B'
  sub : Same B' (off H' d c)
  nw : ∀ b, H b ≠ none → B b = none → B' b = none
theorem ExtD.dl {d c : Addr} {B H B' H' : Hp} (e : ExtD d c B H B' H') : Dl B' H' d c := ⟨e.deal, e.sub⟩
theorem ExtD.bh {d c : Addr} {B H B' H' : Hp} (e : ExtD d c B H B' H') : Same B' H' := e.dl.bh
theorem ExtD.refl {d c : Addr} {B H : Hp} (L : Dl B H d c) : ExtD d c B H B H := ⟨L.deal, Same.refl _, Same.refl _, L.sub, fun _ _ h => h⟩
theorem ExtD.trans {d c : Addr} {B H B1 H1 B2 H2 : Hp} (D : Dl B H d c) (a : ExtD d c B H B1 H1) (b : ExtD d c B1 H1 B2 H2) : ExtD d c B H B2 H2 :=
  ⟨b.deal, a.oo.trans b.oo, a.bb.trans b.bb, b.sub, fun x h1 h2 => by
    refine b.nw x ?_ (a.nw x h1 h2)
    by_cases e1 : x = d
    · rw [e1]
      exact (Deal.atD a.deal).1
    · by_cases e2 : x = c
      · rw [e2]
        exact (Deal.atD a.deal).2
      · cases h : H x with
        | none => exact absurd h h1
        | some o =>
          rw [(off_some (a.oo x o ((off_at e1 e2).trans h))).1]
          exact fun z => nomatch z⟩
theorem ExtD.of {d c : Addr} {B H B' H' : Hp} (L : Dl B H d c) (e : Ext B H B' H') : ExtD d c B H B' H' :=
  ⟨L.deal.same e.hh, off_mono e.hh, e.bb, fun b o h => by
    have at_ := Deal.atD L.deal
    have n1 : b ≠ d := fun z => by rw [z, e.nw d at_.1 L.noD] at h; cases h
    have n2 : b ≠ c := fun z => by rw [z, e.nw c at_.2 L.noC] at h; cases h
    rw [off_at n1 n2]
    exact e.bh b o h, e.nw⟩
theorem ExtD.draw {d c : Addr} {B H H' : Hp} (L : Dl B H d c) (D : Deal H' d c) (S : Same (off H d c) (off H' d c)) : ExtD d c B H B H' := ⟨D, S, Same.refl _, L.sub.trans S, fun _ _ h => h⟩
/-- what is neither of the deal's lists is kept -/
theorem ExtD.keep {d c a : Addr} {o : HO} {B H B' H' : Hp} (e : ExtD d c B H B' H') (h : H a = some o) (n1 : a ≠ d) (n2 : a ≠ c) : H' a = some o := (off_some (e.oo a o ((off_at n1 n2).trans h))).1
theorem deal_upd0 {H : Hp} {d c L : Addr} {o : HO} (D : Deal H d c) (n1 : L ≠ d) (n2 : L ≠ c) : Deal (upd H L o) d c := by
  obtain ⟨cs, mix, h1, h2, r⟩ := D.ex
  exact ⟨cs, mix, (upd_ne n1.symm).trans h1, (upd_ne n2.symm).trans h2, r⟩
/-- a list that is made by and by: hidden from the base -/
structure Ml (d c : Addr) (B H : Hp) (L : Addr) (xs : List V) : Prop where
  at_ : H L = some (.lst xs)
  no : B L = none
  nd : L ≠ d
  nc : L ≠ c
theorem Ml.ext {d c L : Addr} {B H B' H' : Hp} {xs : List V} (m : Ml d c B H L xs) (e : ExtD d c B H B' H') : Ml d c B' H' L xs :=
  ⟨e.keep m.at_ m.nd m.nc, e.nw L (by rw [m.at_]; exact fun z => nomatch z) m.no, m.nd, m.nc⟩
theorem Ml.new {d c L : Addr} {B H : Hp} {xs : List V} (D : Dl B H d c) (h : H L = none) : Ml d c B (upd H L (.lst xs)) L xs ∧ ExtD d c B H B (upd H L (.lst xs)) :=
  ⟨⟨upd_same, D.bh.free h, (D.deal.free h).1, (D.deal.free h).2⟩, .of D (.own D.bh h)⟩
theorem Ml.set {d c L : Addr} {B H : Hp} {xs ys : List V} (D : Dl B H d c) (m : Ml d c B H L xs) : Ml d c B (upd H L (.lst ys)) L ys ∧ Dl B (upd H L (.lst ys)) d c :=
  ⟨⟨upd_same, m.no, m.nd, m.nc⟩, deal_upd0 D.deal m.nd m.nc, fun b o h => by
    have z : b ≠ L := fun z => by rw [z, m.no] at h; cases h
    obtain ⟨h1, h2, h3⟩ := off_some (D.sub b o h)
    rw [off_at h2 h3, upd_ne z]
    exact h1⟩
section
variable {K : PySem.W.Frag} {σ : L2.St} {B H : Hp} {ta tb te tl : TE} {tt tu : TT} {R S T U : Rel} {Rs : List Rel} {D : Ends} {t u rest : TS} {i j : Nat} {d c : Addr} {Q : VK} {E : XK}
theorem d_ev (L : Dl B H d c) (h : De te σ B R) (k : ∀ v B' H', ExtD d c B H B' H' → R B' v → Q v H') : te σ H Q := h B H (Same.refl _) L.bh Q fun v B' H' e hv => k v B' H' (.of L e) hv
theorem s_raw (h : te σ H fun v H' => rest D (σ.set i (some v)) H') : tSeq (tAsg te (gName i)) rest D σ H := h
theorem s_rawE (h : te σ H fun v H' => D.nx (σ.set i (some v)) H') : tAsg te (gName i) D σ H := h
theorem s_retR (h : te σ H D.rt) : tRet te D σ H := h
theorem s_ifR (h : tt σ H fun b H1 => if b = true then t D σ H1 else u D σ H1) : tIfS tt t u D σ H := h
theorem s_ifSR (h : tt σ H fun b H1 => if b = true then t { D with nx := rest D } σ H1 else u { D with nx := rest D } σ H1) : tSeq (tIfS tt t u) rest D σ H := h
theorem r_op {r : R2} (h : ta σ H fun x H1 => tb σ H1 fun y H2 => r x y H2 Q) : tOp r ta tb σ H Q := h
theorem s_parR (h : ta σ H fun x H1 => tb σ H1 fun y H2 => rest D ((σ.set i (some x)).set j (some y)) H2) : tSeq (tPar i j (tCons ta (tCons tb tNil))) rest D σ H := by
  show ta σ H fun x H1 => tb σ H1 fun y H2 => ∃ v w, [x, y] = [v, w] ∧ rest D ((σ.set i (some v)).set j (some w)) H2
  have e : (fun x H1 => tb σ H1 fun y H2 => ∃ v w, [x, y] = [v, w] ∧ rest D ((σ.set i (some v)).set j (some w)) H2) = fun x H1 => tb σ H1 fun y H2 => rest D ((σ.set i (some x)).set j (some y)) H2 := by
    funext x H1
    congr 1
    funext y H2
    apply propext
    constructor
    · rintro ⟨v, w, h, q⟩
      cases h
      exact q
    · exact fun q => ⟨_, _, rfl, q⟩
  rw [e]
  exact h
theorem c_any {n : Int} (L : Dl B H d c) (hd : σ[i]? = some (some (.ref d))) (hn : De te σ B (dat K (.int n))) (n0 : 0 < n) (n1 : n < 2 ^ 300) (k : ∀ r B' H', 0 ≤ r → r < n → ExtD d c B H B' H' → Q (.int r) H') :
    tCall spAny [] E (tCons (tVar i) (tCons te tNil)) σ H Q :=
  ⟨.ref d, hd, d_ev L hn fun v B' H' e hv => ⟨d, c, n, by rw [dat_int hv]; rfl, e.deal, n0, n1, fun r H2 r0 r1 D2 S2 => k r B' H2 r0 r1 (.trans L e (.draw e.dl D2 S2))⟩⟩
theorem c_ofL {ds : List PyData} (L : Dl B H d c) (hd : σ[i]? = some (some (.ref d))) (hn : De te σ B (dat K (.list ds))) (ne : ds ≠ []) (few : ds.length ≤ 1000) (k : ∀ x v B' H', x ∈ ds → ExtD d c B H B' H' → dat K x B' v → Q v H') :
    tCall (spOf K) [] E (tCons (tVar i) (tCons te tNil)) σ H Q :=
  ⟨.ref d, hd, d_ev L hn fun v B' H' e hv => by
    obtain ⟨p, xs, rfl, hs, hR⟩ := dat_lstR hv
    have len := allR_len hR
    rw [List.length_map] at len
    refine ⟨d, c, .ref p, rfl, e.deal, .inl ⟨p, xs, rfl, e.sub.seq hs, fun z => ne (List.eq_nil_of_length_eq_zero (by rw [← len, z]; rfl)), by omega, fun v H2 hv D2 S2 => ?_⟩⟩
    obtain ⟨m, hm, hme⟩ := List.mem_iff_getElem.mp hv
    obtain ⟨R, hR1, hR2⟩ := allR_at hR (List.getElem?_eq_getElem hm)
    rw [List.getElem?_map] at hR1
    obtain ⟨x, hx, rfl⟩ := Option.map_eq_some_iff.mp hR1
    rw [hme] at hR2
    exact k x v B' H2 (List.mem_of_getElem? hx) (.trans L e (.draw e.dl D2 S2)) hR2⟩
theorem c_ofT {ds : List PyData} (L : Dl B H d c) (hd : σ[i]? = some (some (.ref d))) (hn : De te σ B (dat K (.tuple ds))) (ne : ds ≠ []) (few : ds.length ≤ 1000) (k : ∀ x v B' H', x ∈ ds → ExtD d c B H B' H' → dat K x B' v → Q v H') :
    tCall (spOf K) [] E (tCons (tVar i) (tCons te tNil)) σ H Q :=
  ⟨.ref d, hd, d_ev L hn fun v B' H' e hv => by
    obtain ⟨p, xs, rfl, hs, hR⟩ := dat_tupR hv
    have len := allR_len hR
    rw [List.length_map] at len
    refine ⟨d, c, .ref p, rfl, e.deal, .inr (.inl ⟨p, xs, rfl, seqT e.sub hs, fun z => ne (List.eq_nil_of_length_eq_zero (by rw [← len, z]; rfl)), by omega, fun v H2 hv D2 S2 => ?_⟩)⟩
    obtain ⟨m, hm, hme⟩ := List.mem_iff_getElem.mp hv
    obtain ⟨R, hR1, hR2⟩ := allR_at hR (List.getElem?_eq_getElem hm)
    rw [List.getElem?_map] at hR1
    obtain ⟨x, hx, rfl⟩ := Option.map_eq_some_iff.mp hR1
    rw [hme] at hR2
    exact k x v B' H2 (List.mem_of_getElem? hx) (.trans L e (.draw e.dl D2 S2)) hR2⟩
theorem c_ofS {z : Str} (L : Dl B H d c) (hd : σ[i]? = some (some (.ref d))) (hn : De te σ B (dat K (.str z))) (ne : 0 < z.length) (few : z.length ≤ 1000) (k : ∀ a B' H', a ∈ z.cps.toList → ExtD d c B H B' H' → Q (.str ⟨#[a]⟩) H') :
    tCall (spOf K) [] E (tCons (tVar i) (tCons te tNil)) σ H Q :=
  ⟨.ref d, hd, d_ev L hn fun v B' H' e hv => ⟨d, c, v, rfl, e.deal, .inr (.inr ⟨z, dat_str hv, ne, few, fun a H2 ha D2 S2 => k a B' H2 ha (.trans L e (.draw e.dl D2 S2))⟩)⟩⟩
theorem t_any0 {n : Int} {Q : Bool → Hp → Prop} (L : Dl B H d c) (hd : σ[i]? = some (some (.ref d))) (hn : De te σ B (dat K (.int n))) (n0 : 0 < n) (n1 : n < 2 ^ 300) (k : ∀ b B' H', ExtD d c B H B' H' → Q b H') :
    tTest (tOp rEq (tCall spAny [] E (tCons (tVar i) (tCons te tNil))) (tC (.int 0))) σ H Q :=
  c_any L hd hn n0 n1 fun r B' H' _ _ e => ⟨rfl, _, rfl, k _ B' H' e⟩
/-- what a def is worth that draws -/
def DPf {α : Type} (args : α → List Rel) (pre : α → Prop) (res : α → Rel) : Sp := fun vs H Q _ => ∃ (d c : Addr) (B : Hp) (a : α) (us : List V), vs = .ref d :: us ∧ Dl B H d c ∧ AllR (args a) B us ∧ pre a ∧ ∀ v B' H', ExtD d c B H B' H' → res a B' v → Q v H'
theorem c_def {α : Type} {args : α → List Rel} {pre : α → Prop} {res : α → Rel} {tr : TA} (a : α) (L : Dl B H d c) (hd : σ[i]? = some (some (.ref d))) (ha : Da tr σ B (args a)) (hp : pre a) (k : ∀ v B' H', ExtD d c B H B' H' → res a B' v → Q v H') :
    tCall (DPf args pre res) [] E (tCons (tVar i) tr) σ H Q :=
  ⟨.ref d, hd, ha B H (Same.refl _) L.bh _ fun vs B1 H1 e hv => ⟨d, c, B1, a, vs, by rw [List.append_nil], (ExtD.of L e).dl, hv, hp, fun v B' H' e' hr => k v B' H' (.trans L (.of L e) e') hr⟩⟩
theorem De.slS {z : Str} {tl th : TO} {lo hi : Option Int} (h : De te σ B (dat K (.str z))) (h1 : Do tl σ B lo) (h2 : Do th σ B hi) (hz : z.length ≤ sizeLine) : De (L2.tSl rSlS te tl th) σ B (dat K (.str (cutS z lo hi))) :=
  .sl h h1 h2 fun x B1 H s1 s2 hx Q q => ⟨z, dat_str hx, hz, q _ B1 H (.refl s2) (.str _)⟩
end
theorem dpf_len {α : Type} {args : α → List Rel} {pre : α → Prop} {res : α → Rel} {vs : List V} {H : Hp} {Q : VK} {E : XK} (h : DPf args pre res vs H Q E) {m : Nat} (n : ∀ a, (args a).length + 1 = m) : vs.length = m := by
  obtain ⟨d, c, B, a, us, rfl, _, h, _⟩ := h
  rw [List.length_cons, allR_len h, n]
theorem cutS_mem {z : Str} {lo hi : Option Int} {a : Nat} (h : a ∈ (cutS z lo hi).cps.toList) : a ∈ z.cps.toList := by
  unfold cutS at h
  simp only [List.toList_toArray] at h
  exact List.mem_of_mem_drop (List.mem_of_mem_take h)
end Wv

set_option Elab.async false
set_option linter.all false
set_option maxRecDepth 100000
set_option maxHeartbeats 4000000
/-! Wv6: lists that are made while a deal goes on. -/
namespace Wv
open PySem PySem.Spec PyProof.Rows L2 Wb
section
variable {α : Type} {R R1 R2 : α → Rel} {pre : α → Prop} {res : α → Rel} {vs : List V} {H : Hp} {Q : VK} {E : XK}
theorem dpf0 (h : DPf (fun _ => []) pre res vs H Q E) : ∃ d c B a, vs = [.ref d] ∧ Dl B H d c ∧ pre a ∧ ∀ v B' H', ExtD d c B H B' H' → res a B' v → Q v H' := by
  obtain ⟨d, c, B, a, us, rfl, L, h, p, k⟩ := h
  have h : us = [] := h
  subst h
  exact ⟨d, c, B, a, rfl, L, p, k⟩
theorem dpf1 (h : DPf (fun a => [R a]) pre res vs H Q E) : ∃ d v c B a, vs = [.ref d, v] ∧ Dl B H d c ∧ R a B v ∧ pre a ∧ ∀ v B' H', ExtD d c B H B' H' → res a B' v → Q v H' := by
  obtain ⟨d, c, B, a, us, rfl, L, ⟨v, r, rfl, h1, h⟩, p, k⟩ := h
  have h : r = [] := h
  subst h
  exact ⟨d, v, c, B, a, rfl, L, h1, p, k⟩
theorem dpf2 (h : DPf (fun a => [R a, R1 a]) pre res vs H Q E) : ∃ d v v1 c B a, vs = [.ref d, v, v1] ∧ Dl B H d c ∧ R a B v ∧ R1 a B v1 ∧ pre a ∧ ∀ v B' H', ExtD d c B H B' H' → res a B' v → Q v H' := by
  obtain ⟨d, c, B, a, us, rfl, L, ⟨v, r, rfl, h1, v1, r1, rfl, h2, h⟩, p, k⟩ := h
  have h : r1 = [] := h
  subst h
  exact ⟨d, v, v1, c, B, a, rfl, L, h1, h2, p, k⟩
end
theorem Di.itr {K : PySem.W.Frag} {σ : L2.St} {B : Hp} {lo : Int} {n : Nat} : Di (fun _ H R => R (Itr lo n) H) σ B ((List.range n).map fun i : Nat => dat K (.int (lo + (i : Int)))) := fun B1 H _ s2 Q q => q (Itr lo n) B1 H (.refl s2) wk_ints
theorem ExtD.setL {d c L : Addr} {B H B' H' : Hp} {xs ys : List V} (e : ExtD d c B H B' H') (m : Ml d c B' H' L xs) (h : H L = none) : ExtD d c B H B' (upd H' L (.lst ys)) :=
  ⟨deal_upd0 e.deal m.nd m.nc, fun b o z => by
    obtain ⟨h1, h2, h3⟩ := off_some z
    have n : b ≠ L := fun q => by rw [q, h] at h1; cases h1
    rw [off_at h2 h3, upd_ne n]
    exact (off_some (e.oo b o z)).1, e.bb, (Ml.set e.dl m).2.sub, e.nw⟩
/-- such a list comes into the base -/
theorem ExtD.settle {d c L : Addr} {B H B' H' : Hp} {xs : List V} (e : ExtD d c B H B' H') (m : Ml d c B' H' L xs) (h : H L = none) : ExtD d c B H (upd B' L (.lst xs)) H' :=
  ⟨e.deal, e.oo, e.bb.trans (new_same m.no), fun b o z => by
    by_cases n : b = L
    · subst n
      rw [upd_same] at z
      cases z
      exact (off_at m.nd m.nc).trans m.at_
    · rw [upd_ne n] at z
      exact e.sub b o z, fun b h1 h2 => by
    have n : b ≠ L := fun q => h1 (by rw [q]; exact h)
    rw [upd_ne n]
    exact e.nw b h1 h2⟩
theorem Ml.dat {K : PySem.W.Frag} {d c L : Addr} {B H : Hp} {xs : List V} {out : List PyData} (m : Ml d c B H L xs) (h : AllR (out.map (dat K)) B xs) : Wv.dat K (.list out) (upd B L (.lst xs)) (.ref L) :=
  lstR_dat ⟨L, xs, rfl, SqL.of upd_same, MoA.mo (new_same m.no) h⟩
section
variable {K : PySem.W.Frag} {σ : L2.St} {B H : Hp} {te : TE} {tt : TT} {d c : Addr} {Q : VK}
theorem c_lcD {α : Type} {as : List α} {r : α → Rel} {wi : TI} {g : TG} {vs : List Nat} (L : Dl B H d c) (hi : Di wi σ B (as.map r)) (few : as.length < sizeLine) (Pv : Nat → List PyData → Prop) (h0 : Pv 0 [])
    (hs : ∀ i a v B1 H1 out, as[i]? = some a → Dl B1 H1 d c → Same B B1 → r a B1 v → Pv i out → ∀ (Y : V → Hp → Prop) (N : Hp → Prop), (∀ y B4 H4 x, ExtD d c B1 H1 B4 H4 → dat K x B4 y → Pv (i + 1) (out ++ [x]) → Y y H4) →
      (∀ B4 H4, ExtD d c B1 H1 B4 H4 → Pv (i + 1) out → N H4) → g v (wipe σ vs) H1 fun σ2 H2 => wipe σ2 vs = wipe σ vs ∧ tt σ2 H2 fun b H3 => if b = true then te σ2 H3 Y else N H3)
    (hd : ∀ out v B' H', ExtD d c B H B' H' → Pv as.length out → dat K (.list out) B' v → Q v H') : tLc wi g tt te vs σ H Q := hi B H (Same.refl _) L.bh _ fun J B2 H2 e hw => fun D hD => by
  have eD := ExtD.of L e
  have hw' : Walk J as.length (fun H => Same B2 H) (fun i H x H' => ∃ R, (as.map r)[i]? = some R ∧ ∀ Bc, Same B2 Bc → Same Bc H → ∃ Bn, Ext Bc H Bn H' ∧ R Bn x) := by
    have := hw
    unfold Wk at this
    rw [List.length_map] at this
    exact this
  refine lc_it hw' (fun i H' => ∃ B' xs out, ExtD d c B2 H2 B' H' ∧ Ml d c B' H' D xs ∧ AllR (out.map (dat K)) B' xs ∧ Pv i out ∧ out.length ≤ i) ?_ (fun i H' _ ⟨B', xs, out, e', _⟩ => e'.bb.trans e'.bh) ?_ ?_
  · exact ⟨B2, [], [], (Ml.new eD.dl hD).2, (Ml.new eD.dl hD).1, rfl, h0, Nat.le_refl _⟩
  · rintro i x H' H'' hi' ⟨Bc, xs, out, e', m, hxs, pv, lo⟩ ⟨R, hR, y⟩
    obtain ⟨Bn, e2, hx⟩ := y Bc e'.bb e'.bh
    rw [List.getElem?_map] at hR
    obtain ⟨a, ha, rfl⟩ := Option.map_eq_some_iff.mp hR
    have e2 := ExtD.of e'.dl e2
    have e12 := e'.trans eD.dl e2
    have len := allR_len hxs
    rw [List.length_map] at len
    refine hs i a x Bn H'' out ha e2.dl ((eD.bb.trans e'.bb).trans e2.bb) hx pv _ _ (fun y B4 H4 z e4 hz pz => ?_) fun B4 H4 e4 pz => ?_
    · have e14 := e12.trans eD.dl e4
      have m4 := (m.ext e2).ext e4
      refine ⟨xs, m4.at_, by omega, B4, xs ++ [y], out ++ [z], e14.setL m4 hD, (Ml.set e4.dl m4).1, ?_, pz, by simp; omega⟩
      rw [List.map_append]
      exact allR_snoc (MoA.mo (e2.bb.trans e4.bb) hxs) hz
    · exact ⟨B4, xs, out, e12.trans eD.dl e4, (m.ext e2).ext e4, MoA.mo (e2.bb.trans e4.bb) hxs, pz, by omega⟩
  · rintro H' ⟨B', xs, out, e', m, hxs, pv, lo⟩
    have hBD : H D = none := by
      cases h : H D with
      | none => rfl
      | some o =>
        rw [e.hh D o h] at hD
        cases hD
    exact hd out (.ref D) _ H' ((eD.trans L e').settle m hBD) pv (m.dat hxs)
/-- as often as a drawn number tells -/
theorem c_lcAny {n k : Int} {i : Nat} {g : TG} {vs : List Nat} {E : XK} {te0 : TE} (L : Dl B H d c) (hd : σ[i]? = some (some (.ref d))) (hn : De te0 σ B (dat K (.int n))) (n0 : 0 < n) (n1 : n < 2 ^ 60) (k0 : 0 ≤ k) (k1 : k < 2 ^ 60)
    (go : ∀ r B' H', 0 ≤ r → r < n → ExtD d c B H B' H' → tLc (fun _ H R => R (Itr 0 (k + r).toNat) H) g tt te vs σ H' Q) :
    tLc (iRng1 (tCons (tOp (rI0 fun i j => V.int (i + j)) (tC (.int k)) (tCall spAny [] E (tCons (tVar i) (tCons te0 tNil)))) tNil)) g tt te vs σ H Q :=
  c_any L hd hn n0 (by omega) fun r B' H' r0 r1 e => ⟨k, r, rfl, rfl, k + r, rfl, by omega, by omega, go r B' H' r0 r1 e⟩
/-- what is wanted behind a turn -/
def Nd (d c : Addr) (B0 H0 B1 : Hp) (P : L2.St → Hp → Hp → Prop) : L2.St → Hp → Prop := fun σ H' => ∃ B', ExtD d c B0 H0 B' H' ∧ Same B1 B' ∧ P σ B' H'
theorem s_forD {wi : TI} {g : TG} {ts rest : TS} {D : Ends} {Rs : List Rel} {B0 H0 : Hp} (L0 : Dl B0 H0 d c) (e0 : ExtD d c B0 H0 B H) (hi : Di wi σ B Rs) (Pv : Nat → L2.St → Hp → Hp → Prop) (h0 : ∀ B1 H1, ExtD d c B H B1 H1 → Pv 0 σ B1 H1)
    (hs : ∀ B1 i R v σ' Bc Hc Bn Hn, Same B B1 → Rs[i]? = some R → ExtD d c B0 H0 Bc Hc → Same B1 Bc → Pv i σ' Bc Hc → ExtD d c Bc Hc Bn Hn → R Bn v → g v σ' Hn fun σ2 H2 => ts { D with nx := Nd d c B0 H0 B1 (Pv (i + 1)), ct := Nd d c B0 H0 B1 (Pv (i + 1)), bk := rest D } σ2 H2)
    (hd : ∀ σ' B' H', ExtD d c B0 H0 B' H' → Same B B' → Pv Rs.length σ' B' H' → rest D σ' H') : tSeq (tFor wi g ts) rest D σ H :=
  hi B H (Same.refl _) e0.bh _ fun J B1 H1 e hw => by
    have eD := ExtD.of e0.dl e
    have := for_it hw (D := { D with nx := rest D }) (g := g) (tb := ts) (fun i => Nd d c B0 H0 B1 (Pv i)) ⟨B1, e0.trans L0 eD, Same.refl _, h0 B1 H1 eD⟩ (fun i σ' H' _ ⟨B', s1, s2, _⟩ => s2.trans s1.bh)
      (fun i x σ' H' H'' hi ⟨Bc, s1, s2, p⟩ ⟨R, hR, y⟩ => by
        obtain ⟨Bn, e2, hx⟩ := y Bc s2 s1.bh
        exact hs B1 i R x σ' Bc H' Bn H'' eD.bb hR s1 s2 p (.of s1.dl e2) hx)
      (fun σ' H' ⟨B', s1, s2, p⟩ => hd σ' B' H' s1 (eD.bb.trans s2) p)
    exact this
theorem s_forL {g : TG} {ts rest : TS} {D : Ends} (h : te σ H fun x H1 => ∃ a, x = .ref a ∧ (∃ xs, SqL K H1 a xs) ∧ tSeq (tFor (fun _ H R => R (Itl K a) H) g ts) rest D σ H1) : tSeq (tFor (iList K te) g ts) rest D σ H := h
theorem Di.itl {a : Addr} {ds : List PyData} (h : dat K (.list ds) B (.ref a)) : Di (fun _ H R => R (Itl K a) H) σ B (ds.map (dat K)) := fun B1 H s1 s2 Q q => by
  obtain ⟨v, hv, a', ha, _, r⟩ := Di.listD (K := K) (De.var (i := 0) (σ := [some (.ref a)]) h rfl) B1 H s1 s2 Q q
  cases hv
  cases ha
  exact r
/-- a hidden list, looked at: the base with it -/
theorem Ml.look {L : Addr} {xs : List V} (D : Dl B H d c) (m : Ml d c B H L xs) : Same B (upd B L (.lst xs)) ∧ Same (upd B L (.lst xs)) H := ⟨new_same m.no, fun b o h => by
  by_cases n : b = L
  · subst n
    rw [upd_same] at h
    cases h
    exact m.at_
  · rw [upd_ne n] at h
    exact D.bh b o h⟩
theorem Ml.looked {L : Addr} {xs : List V} {B2 H2 : Hp} (D : Dl B H d c) (e : Ext (upd B L (.lst xs)) H B2 H2) : ExtD d c B H B H2 := .of D ⟨e.hh, Same.refl _, D.bh.trans e.hh, fun _ _ h => h⟩
end
theorem nodup_len {α : Type} [BEq α] [LawfulBEq α] : ∀ {l m : List α}, l.Nodup → (∀ x ∈ l, x ∈ m) → l.length ≤ m.length
  | [], _, _, _ => Nat.zero_le _
  | x :: l, m, h, s => by
    obtain ⟨h1, h2⟩ := List.nodup_cons.mp h
    have hx := s x List.mem_cons_self
    have := nodup_len (l := l) (m := m.erase x) h2 fun y hy => (List.mem_erase_of_ne (fun e => h1 (by rw [← e]; exact hy))).mpr (s y (List.mem_cons_of_mem _ hy))
    rw [List.length_erase_of_mem hx] at this
    have := List.length_pos_of_mem hx
    rw [List.length_cons]
    omega
end Wv

set_option Elab.async false
set_option linter.all false
set_option maxRecDepth 100000
set_option maxHeartbeats 4000000
/-! Fm0: forms, their rows and lots, as lists and as data. -/
namespace Fm
open PySem PySem.Spec PyProof.Rows L2 Wb Wv
abbrev Qs := List (Str × Nat)
def encQ (q : Str × Nat) : PyData := .tuple [.str q.1, .int (q.2 : Int)]
def qsD (qs : Qs) : PyData := .tuple (qs.map encQ)
def formR (K : PySem.W.Frag) (C : Addr) (qs : Qs) : Rel := insR C [("questions", dat K (qsD qs))]
instance {K : PySem.W.Frag} {C : Addr} {qs : Qs} : Mo (formR K C qs) := inferInstanceAs (Mo (insR C [("questions", dat K (qsD qs))]))
def lotD (l : List Str) : PyData := .tuple (l.map .str)
def rowD (r : List Int) : PyData := .tuple (r.map .int)
def rowsL (rs : List (List Int)) : PyData := .list (rs.map rowD)
def rowsT (rs : List (List Int)) : PyData := .tuple (rs.map rowD)
def names (qs : Qs) : List Str := qs.map (·.1)
/-- lo, lo + 1, .. n of them -/
def rng (lo : Int) (n : Nat) : List Int := (List.range n).map fun i : Nat => lo + (i : Int)
theorem rng_len {lo : Int} {n : Nat} : (rng lo n).length = n := by simp [rng]
/-- all rows with an item of each list -/
def grow1 {α : Type} (rows : List (List α)) (vals : List α) : List (List α) := rows.flatMap fun r => vals.map fun v => r ++ [v]
def grow {α : Type} (ls : List (List α)) : List (List α) := ls.foldl grow1 [[]]
theorem grow_snoc {α : Type} (ls : List (List α)) (l : List α) : grow (ls ++ [l]) = grow1 (grow ls) l := by
  unfold grow
  rw [List.foldl_append]
  rfl
theorem grow1_len {α : Type} (rows : List (List α)) (vals : List α) : (grow1 rows vals).length = rows.length * vals.length := by
  unfold grow1
  induction rows with
  | nil => simp
  | cons r rows ih =>
    rw [List.flatMap_cons, List.length_append, ih, List.length_map, List.length_cons, Nat.succ_mul, Nat.add_comm]
theorem grow_len {α : Type} {m : Nat} (ls : List (List α)) (h : ∀ l ∈ ls, l.length ≤ m) : (grow ls).length ≤ m ^ ls.length := by
  suffices ∀ (k : Nat), k ≤ ls.length → (grow (ls.take k)).length ≤ m ^ k by
    have := this ls.length (Nat.le_refl _)
    rw [List.take_length] at this
    exact this
  intro k
  induction k with
  | zero =>
    intro _
    rw [List.take_zero, Nat.pow_zero]
    exact Nat.le_refl _
  | succ k ih =>
    intro hk
    have e : ls.take (k + 1) = ls.take k ++ [ls[k]] := by rw [List.take_succ, List.getElem?_eq_getElem (by omega)]; rfl
    rw [e, grow_snoc, grow1_len, Nat.pow_succ]
    exact Nat.mul_le_mul (ih (by omega)) (h _ (List.getElem_mem _))
theorem grow1_mem {α : Type} {rows : List (List α)} {vals : List α} {r : List α} (h : r ∈ grow1 rows vals) : ∃ a ∈ rows, ∃ v ∈ vals, r = a ++ [v] := by
  unfold grow1 at h
  obtain ⟨a, ha, hr⟩ := List.mem_flatMap.mp h
  obtain ⟨v, hv, rfl⟩ := List.mem_map.mp hr
  exact ⟨a, ha, v, hv, rfl⟩
/-- an item of each list, in their order -/
def Picks {α : Type} : List α → List (List α) → Prop
  | [], [] => True
  | v :: r, l :: ls => v ∈ l ∧ Picks r ls
  | _, _ => False
theorem picks_snoc {α : Type} {v : α} {l : List α} (hv : v ∈ l) : ∀ {r : List α} {ls : List (List α)}, Picks r ls → Picks (r ++ [v]) (ls ++ [l])
  | [], [], _ => ⟨hv, trivial⟩
  | _ :: _, _ :: _, ⟨h, t⟩ => ⟨h, picks_snoc hv t⟩
  | [], _ :: _, h => h.elim
  | _ :: _, [], h => h.elim
theorem grow_picks {α : Type} (ls : List (List α)) : ∀ r ∈ grow ls, Picks r ls := by
  suffices ∀ k, k ≤ ls.length → ∀ r ∈ grow (ls.take k), Picks r (ls.take k) by
    have := this ls.length (Nat.le_refl _)
    rw [List.take_length] at this
    exact this
  intro k
  induction k with
  | zero =>
    intro _ r hr
    rw [List.take_zero] at *
    have hr : r ∈ [[]] := hr
    rw [List.mem_singleton.mp hr]
    trivial
  | succ k ih =>
    intro hk r hr
    have e : ls.take (k + 1) = ls.take k ++ [ls[k]] := by rw [List.take_succ, List.getElem?_eq_getElem (by omega)]; rfl
    rw [e, grow_snoc] at hr
    rw [e]
    obtain ⟨a, ha, v, hv, rfl⟩ := grow1_mem hr
    exact picks_snoc hv (ih (by omega) a ha)
theorem picks_len {α : Type} : ∀ {r : List α} {ls : List (List α)}, Picks r ls → r.length = ls.length
  | [], [], _ => rfl
  | _ :: _, _ :: _, ⟨_, t⟩ => by simp [picks_len t]
  | [], _ :: _, h => h.elim
  | _ :: _, [], h => h.elim
theorem grow_row {α : Type} {ls : List (List α)} {r : List α} (h : r ∈ grow ls) : r.length = ls.length := picks_len (grow_picks ls r h)
theorem picks_at {α : Type} : ∀ {r : List α} {ls : List (List α)} {i : Nat} {l : List α}, Picks r ls → ls[i]? = some l → ∃ v, r[i]? = some v ∧ v ∈ l
  | _ :: _, _ :: _, 0, _, ⟨h, _⟩, e => ⟨_, rfl, by cases e; exact h⟩
  | _ :: _, _ :: _, i + 1, _, ⟨_, t⟩, e => picks_at (i := i) t e
  | [], _ :: _, _, _, h, _ => h.elim
  | [], [], _, _, _, e => nomatch e
theorem grow1_map {α : Type} (f : α → α) (rows : List (List α)) (l : List α) : (grow1 rows l).map (List.map f) = grow1 (rows.map (List.map f)) (l.map f) := by
  unfold grow1
  rw [List.map_flatMap, List.flatMap_map]
  congr 1
  funext r
  rw [List.map_map, List.map_map]
  congr 1
  funext v
  simp
theorem grow_map {α : Type} (f : α → α) (ls : List (List α)) : (grow ls).map (List.map f) = grow (ls.map (List.map f)) := by
  unfold grow
  rw [List.foldl_map]
  generalize e : ([[]] : List (List α)) = z
  have e2 : z.map (List.map f) = z := by rw [← e]; rfl
  clear e
  suffices ∀ (rows rows2 : List (List α)), rows.map (List.map f) = rows2 → (ls.foldl grow1 rows).map (List.map f) = ls.foldl (fun x y => grow1 x (y.map f)) rows2 from this z z e2
  induction ls with
  | nil =>
    intro rows rows2 h
    exact h
  | cons l ls ih =>
    intro rows rows2 h
    refine ih _ _ ?_
    rw [grow1_map, h]
/-- all lots within a lot -/
def subs (l : List Str) : List (List Str) := l.foldl (fun f n => f ++ f.map fun a => a ++ [n]) [[]]
theorem subs_snoc (l : List Str) (n : Str) : subs (l ++ [n]) = subs l ++ (subs l).map fun a => a ++ [n] := by
  unfold subs
  rw [List.foldl_append]
  rfl
theorem subs_len (l : List Str) : ∀ k, k ≤ l.length → (subs (l.take k)).length = 2 ^ k := by
  intro k
  induction k with
  | zero =>
    intro _
    rw [List.take_zero]
    rfl
  | succ k ih =>
    intro hk
    have e : l.take (k + 1) = l.take k ++ [l[k]] := by rw [List.take_succ, List.getElem?_eq_getElem (by omega)]; rfl
    rw [e, subs_snoc, List.length_append, List.length_map, ih (by omega), Nat.pow_succ]
    omega
theorem subs_row {l a : List Str} (h : a ∈ subs l) : a.length ≤ l.length := by
  suffices ∀ k, k ≤ l.length → ∀ a ∈ subs (l.take k), a.length ≤ k from this l.length (Nat.le_refl _) a (by rw [List.take_length]; exact h)
  intro k
  induction k with
  | zero =>
    intro _ a ha
    rw [List.take_zero] at ha
    have ha : a ∈ [[]] := ha
    rw [List.mem_singleton.mp ha]
    exact Nat.le_refl _
  | succ k ih =>
    intro hk a ha
    have e : l.take (k + 1) = l.take k ++ [l[k]] := by rw [List.take_succ, List.getElem?_eq_getElem (by omega)]; rfl
    rw [e, subs_snoc] at ha
    rcases List.mem_append.mp ha with ha | ha
    · exact Nat.le_succ_of_le (ih (by omega) a ha)
    · obtain ⟨b, hb, rfl⟩ := List.mem_map.mp ha
      have := ih (by omega) b hb
      simp
      omega
theorem take_snoc {α : Type} {l : List α} {i : Nat} {x : α} (h : l[i]? = some x) : l.take (i + 1) = l.take i ++ [x] := by rw [List.take_succ, h]; rfl
/-- lots of names are alike -/
theorem alike_strs : ∀ a b : List Str, PySem.W.alikeAll (a.map PyData.str) (b.map PyData.str) = true
  | [], _ => by simp [PySem.W.alikeAll]
  | _ :: _, [] => by simp [PySem.W.alikeAll]
  | x :: a, y :: b => by
    simp only [List.map_cons, PySem.W.alikeAll, PySem.W.alike, Bool.true_and]
    exact alike_strs a b
theorem alike_lots (ls : List (List Str)) : PySem.W.AllAlike (ls.map lotD) := by
  intro d hd d' hd'
  obtain ⟨a, _, rfl⟩ := List.mem_map.mp hd
  obtain ⟨b, _, rfl⟩ := List.mem_map.mp hd'
  simp only [lotD, PySem.W.alike]
  exact alike_strs a b
theorem ok_lots (ls : List (List Str)) : PySem.W.SortOk (ls.map lotD) := .inl fun d hd => by
  obtain ⟨a, _, rfl⟩ := List.mem_map.mp hd
  exact ⟨_, rfl⟩
theorem depth_strs (l : List Str) : PyData.depthAll (l.map PyData.str) = 0 := by
  induction l with
  | nil => simp [PyData.depthAll]
  | cons x l ih => simp [PyData.depthAll, PyData.depth, ih]
theorem depth_lots (ls : List (List Str)) : ∀ d ∈ ls.map lotD, d.depth ≤ 60 := fun d hd => by
  obtain ⟨a, _, rfl⟩ := List.mem_map.mp hd
  simp [lotD, PyData.depth, depth_strs]
theorem depth_ints (l : List Int) : PyData.depthAll (l.map PyData.int) = 0 := by
  induction l with
  | nil => simp [PyData.depthAll]
  | cons x l ih => simp [PyData.depthAll, PyData.depth, ih]
/-- what a name's signs are -/
def Nmk (n : Nat) (z : Str) : Prop := z.length ≤ n ∧ ∀ c ∈ z.cps.toList, c < 128
abbrev Nm := Nmk 20
theorem Nmk.mono {m n : Nat} {z : Str} (h : Nmk m z) (l : m ≤ n) : Nmk n z := ⟨Nat.le_trans h.1 l, h.2⟩
theorem Nmk.app {m n : Nat} {x y : Str} (h : Nmk m x) (g : Nmk n y) : Nmk (m + n) (x ++ y) := by
  have e : (x ++ y).cps.toList = x.cps.toList ++ y.cps.toList := Array.toList_append
  refine ⟨?_, fun c hc => ?_⟩
  · have : (x ++ y).length = x.length + y.length := by
      show (x ++ y).cps.size = x.cps.size + y.cps.size
      rw [← Array.length_toList, e, List.length_append]
      rfl
    rw [this]
    exact Nat.add_le_add h.1 g.1
  · rw [e] at hc
    rcases List.mem_append.mp hc with hc | hc
    · exact h.2 c hc
    · exact g.2 c hc
theorem Nmk.cut {n : Nat} {z : Str} {lo hi : Option Int} (h : Nmk n z) : Nmk n (cutS z lo hi) := ⟨Nat.le_trans (cutS_length z lo hi) h.1, fun c hc => h.2 c (cutS_mem hc)⟩
theorem Nmk.one {a : Nat} (h : a < 128) : Nmk 1 ⟨#[a]⟩ := ⟨Nat.le_refl _, fun c hc => by
  have : c = a := by simpa using hc
  omega⟩
theorem Nm.ok {z : Str} (h : Nm z) : PyData.strOk z = true := by
  unfold PyData.strOk
  rw [← Array.all_toList, List.all_eq_true]
  intro c hc
  have := h.2 c hc
  simp only [decide_eq_true_eq]
  omega
theorem lay_strs {l : List Str} (h : ∀ z ∈ l, Nm z) : PyData.canLayAll0 (l.map PyData.str) = true := by
  rw [canLayAll_strs', List.all_eq_true]
  exact fun z hz => (h z hz).ok
theorem lay_ints (l : List Int) : PyData.canLayAll0 (l.map PyData.int) = true := by
  induction l with
  | nil => simp [PyData.canLayAll0]
  | cons x l ih => simp [PyData.canLayAll0, PyData.canLay0, ih]
theorem shaped_str {z : Str} (h : Nm z) : SeqAt.shaped (.str z) = true := by simp [SeqAt.shaped, PyData.canLay0, PyData.depth, h.ok]
theorem shaped_lot {l : List Str} (h : ∀ z ∈ l, Nm z) : SeqAt.shaped (lotD l) = true := by simp [SeqAt.shaped, lotD, PyData.canLay0, PyData.depth, lay_strs h, depth_strs]
theorem shaped_strsL {l : List Str} (h : ∀ z ∈ l, Nm z) : SeqAt.shaped (.list (l.map .str)) = true := by simp [SeqAt.shaped, PyData.canLay0, PyData.depth, lay_strs h, depth_strs]
theorem shaped_row (l : List Int) : SeqAt.shaped (rowD l) = true := by simp [SeqAt.shaped, rowD, PyData.canLay0, PyData.depth, lay_ints, depth_ints]
theorem any_strs (l : List Str) (z : Str) : ((l.map PyData.str).any fun d => PyData.eqv d (.str z)) = decide (z ∈ l) := by
  rw [List.any_map]
  induction l with
  | nil => simp
  | cons x l ih =>
    rw [List.any_cons, ih]
    simp only [Function.comp, PyData.eqv, List.mem_cons, Bool.decide_or, eq_comm (a := z)]
    rfl
theorem join_nm0 {n : Nat} {sep : Str} (hs : Nmk 0 sep) : ∀ {zs : List Str}, (∀ z ∈ zs, Nmk n z) → Nmk (zs.length * n) (Str.join sep zs)
  | [], _ => ⟨Nat.zero_le _, fun c hc => by cases hc⟩
  | [x], h => by
    have := h x List.mem_cons_self
    exact this.mono (by simp)
  | x :: y :: r, h => by
    have a := h x List.mem_cons_self
    have b := join_nm0 hs (zs := y :: r) fun z hz => h z (List.mem_cons_of_mem _ hz)
    show Nmk _ (x ++ sep ++ Str.join sep (y :: r))
    refine ((a.app hs).app b).mono ?_
    simp only [List.length_cons, Nat.succ_mul]
    omega
theorem join_nm {n : Nat} {sep : Str} (hs : Nmk 0 sep) {zs : List Str} (h : ∀ z ∈ zs, Nmk n z) : Nmk (zs.length * n) (Txt.join sep zs) := by
  unfold Txt.join
  rw [StrLaws.glued_eq_join]
  exact join_nm0 hs h
theorem sum_le {n : Nat} : ∀ {zs : List Str}, (∀ z ∈ zs, Nmk n z) → (zs.map (·.length)).sum ≤ zs.length * n
  | [], _ => Nat.zero_le _
  | x :: r, h => by
    have a := (h x List.mem_cons_self).1
    have b := sum_le (zs := r) fun z hz => h z (List.mem_cons_of_mem _ hz)
    simp only [List.map_cons, List.sum_cons, List.length_cons, Nat.succ_mul]
    omega
end Fm

set_option Elab.async false
set_option linter.all false
set_option maxRecDepth 100000
set_option maxHeartbeats 4000000
/-! Fm1: sheets, and what is behind them. -/
namespace Fm
open PySem PySem.Spec PyProof.Rows L2 Wb Wv
/-- the sheet of a lot and a truth -/
def sheetL (ns : List Str) (lot : List Str) (truth : List Int) : List Int := (ns.zip truth).map fun p => if p.1 ∈ lot then -1 else p.2
def lotL (ns : List Str) (sheet : List Int) : List Str := ((ns.zip sheet).filter fun p => decide (p.2 = -1)).map (·.1)
def behindL (qs : Qs) (sheet : List Int) : List (List Int) := grow ((qs.zip sheet).map fun p => if p.2 = -1 then rng 0 p.1.2 else [p.2])
theorem lot_sheet (lot : List Str) : ∀ (ns : List Str) (truth : List Int), ns.length = truth.length → (∀ i ∈ truth, 0 ≤ i) → lotL ns (sheetL ns lot truth) = ns.filter fun z => decide (z ∈ lot)
  | [], _, _, _ => rfl
  | z :: ns, [], h, _ => by simp at h
  | z :: ns, i :: truth, h, n => by
    have ih := lot_sheet lot ns truth (by simpa using h) fun j hj => n j (List.mem_cons_of_mem _ hj)
    have i0 := n i List.mem_cons_self
    unfold lotL sheetL at *
    rw [List.zip_cons_cons, List.map_cons, List.zip_cons_cons, List.filter_cons, List.filter_cons]
    by_cases c : z ∈ lot
    · simp only [c, if_true, decide_true]
      rw [List.map_cons, ih]
    · have e : ¬ i = -1 := by omega
      simp only [c, if_false, e, decide_false]
      simpa using ih
theorem lot_truth : ∀ (ns : List Str) (truth : List Int), (∀ i ∈ truth, 0 ≤ i) → lotL ns truth = []
  | [], _, _ => rfl
  | _ :: _, [], _ => rfl
  | z :: ns, i :: truth, n => by
    have ih := lot_truth ns truth fun j hj => n j (List.mem_cons_of_mem _ hj)
    have i0 := n i List.mem_cons_self
    unfold lotL at *
    rw [List.zip_cons_cons, List.filter_cons]
    have e : ¬ i = -1 := by omega
    simp only [e, decide_false]
    simpa using ih
theorem sheet_len (ns lot : List Str) (truth : List Int) (h : ns.length = truth.length) : (sheetL ns lot truth).length = truth.length := by
  unfold sheetL
  rw [List.length_map, List.length_zip]
  omega
theorem sheet_at {ns lot : List Str} {truth : List Int} {i : Nat} {z : Str} {t : Int} (h : ns[i]? = some z) (g : truth[i]? = some t) : (sheetL ns lot truth)[i]? = some (if z ∈ lot then -1 else t) := by
  unfold sheetL
  rw [List.getElem?_map, List.getElem?_zip_eq_some (z := (z, t)) |>.mpr ⟨h, g⟩]
  rfl
/-- where a row says otherwise than a sheet -/
def bad (due row : List Int) : List Nat := (List.range row.length).filter fun i => !decide (due.getD i 0 = -1) && !decide (due.getD i 0 = row.getD i 0)
theorem bad_snoc {due row : List Int} {x v : Int} (h : due.length = row.length) : bad (due ++ [x]) (row ++ [v]) = bad due row ++ if (!decide (x = -1) && !decide (x = v)) = true then [row.length] else [] := by
  unfold bad
  rw [List.length_append]
  show (List.range (row.length + 1)).filter _ = _
  rw [List.range_succ, List.filter_append]
  congr 1
  · refine List.filter_congr fun i hi => ?_
    have hi := List.mem_range.mp hi
    have e1 : (due ++ [x]).getD i 0 = due.getD i 0 := by
      simp only [List.getD_eq_getElem?_getD]
      rw [List.getElem?_append_left (by omega)]
    have e2 : (row ++ [v]).getD i 0 = row.getD i 0 := by
      simp only [List.getD_eq_getElem?_getD]
      rw [List.getElem?_append_left hi]
    rw [e1, e2]
  · have e1 : (due ++ [x]).getD row.length 0 = x := by
      simp only [List.getD_eq_getElem?_getD]
      rw [← h, List.getElem?_append_right (Nat.le_refl _)]
      simp
    have e2 : (row ++ [v]).getD row.length 0 = v := by
      simp only [List.getD_eq_getElem?_getD]
      rw [List.getElem?_append_right (Nat.le_refl _)]
      simp
    rw [List.filter_cons, e1, e2, List.filter_nil]
def fits (due row : List Int) : Bool := (bad due row).isEmpty
theorem fits_snoc {due row : List Int} {x v : Int} (h : due.length = row.length) : fits (due ++ [x]) (row ++ [v]) = (fits due row && (decide (x = -1) || decide (x = v))) := by
  unfold fits
  rw [bad_snoc h]
  cases c1 : decide (x = -1) <;> cases c2 : decide (x = v) <;> simp
theorem grow1_filter {α : Type} {Q : List α → Bool} {P : List α → Bool} {p : α → Bool} {vals : List α} : ∀ {rows : List (List α)}, (∀ r ∈ rows, ∀ v, Q (r ++ [v]) = (P r && p v)) → (grow1 rows vals).filter Q = grow1 (rows.filter P) (vals.filter p)
  | [], _ => rfl
  | r :: rows, h => by
    have ih := grow1_filter (vals := vals) (rows := rows) fun a ha => h a (List.mem_cons_of_mem _ ha)
    have h0 := h r List.mem_cons_self
    unfold grow1 at *
    rw [List.flatMap_cons, List.filter_append, ih, List.filter_map]
    have e : (Q ∘ fun v => r ++ [v]) = fun v => P r && p v := by
      funext v
      exact h0 v
    rw [e]
    cases c : P r with
    | true =>
      rw [List.filter_cons, c, if_pos rfl, List.flatMap_cons]
      simp
    | false =>
      rw [List.filter_cons, c, if_neg (by decide)]
      simp
theorem rng_succ (n : Nat) : rng 0 (n + 1) = rng 0 n ++ [(n : Int)] := by
  unfold rng
  rw [List.range_succ, List.map_append]
  simp
theorem rng_mem {n : Nat} {x : Int} : x ∈ rng 0 n ↔ 0 ≤ x ∧ x < n := by
  unfold rng
  rw [List.mem_map]
  constructor
  · rintro ⟨i, hi, rfl⟩
    have := List.mem_range.mp hi
    omega
  · rintro ⟨h0, h1⟩
    exact ⟨x.toNat, List.mem_range.mpr (by omega), by omega⟩
theorem rng_only {x : Int} : ∀ {n : Nat}, 0 ≤ x → x < n → (rng 0 n).filter (fun v => decide (x = -1) || decide (x = v)) = [x]
  | 0, h0, h1 => by omega
  | n + 1, h0, h1 => by
    rw [rng_succ, List.filter_append]
    by_cases e : x = n
    · have e1 : (rng 0 n).filter (fun v => decide (x = -1) || decide (x = v)) = [] := by
        rw [List.filter_eq_nil_iff]
        intro v hv
        have := rng_mem.mp hv
        simp
        omega
      rw [e1]
      simp [e]
    · rw [rng_only (n := n) h0 (by omega)]
      have e1 : ¬ x = -1 := by omega
      simp [e, e1]
theorem rng_all {n : Nat} : (rng 0 n).filter (fun v => decide ((-1 : Int) = -1) || decide ((-1 : Int) = v)) = rng 0 n := by
  rw [List.filter_eq_self]
  intro v _
  simp
/-- what is behind a sheet: the rows that say nothing else -/
theorem behind_fits {qs : Qs} {due : List Int} (h : qs.length = due.length) (ok : ∀ (i : Nat) (q : Str × Nat) (x : Int), qs[i]? = some q → due[i]? = some x → x = -1 ∨ (0 ≤ x ∧ x < q.2)) : behindL qs due = (grow (qs.map fun q => rng 0 q.2)).filter (fits due) := by
  unfold behindL
  suffices ∀ k, k ≤ qs.length → grow (((qs.zip due).take k).map fun p => if p.2 = -1 then rng 0 p.1.2 else [p.2]) = (grow ((qs.take k).map fun q => rng 0 q.2)).filter (fits (due.take k)) by
    have t := this qs.length (Nat.le_refl _)
    rw [List.take_length, List.take_of_length_le (by rw [List.length_zip]; omega), List.take_of_length_le (l := due) (by omega)] at t
    exact t
  intro k
  induction k with
  | zero =>
    intro _
    rw [List.take_zero, List.take_zero, List.take_zero]
    rfl
  | succ k ih =>
    intro hk
    obtain ⟨q, hq⟩ : ∃ q, qs[k]? = some q := ⟨_, List.getElem?_eq_getElem (by omega)⟩
    obtain ⟨x, hx⟩ : ∃ x, due[k]? = some x := ⟨_, List.getElem?_eq_getElem (by omega)⟩
    have hz : (qs.zip due)[k]? = some (q, x) := List.getElem?_zip_eq_some.mpr ⟨hq, hx⟩
    rw [take_snoc hz, take_snoc hq, take_snoc hx, List.map_append, List.map_append]
    show grow (_ ++ [_]) = (grow (_ ++ [_])).filter _
    rw [grow_snoc, grow_snoc, ih (by omega), grow1_filter (P := fits (due.take k)) (p := fun v => decide (x = -1) || decide (x = v))]
    · congr 1
      rcases ok k q x hq hx with e | ⟨h0, h1⟩
      · subst e
        rw [rng_all]
        rfl
      · rw [rng_only h0 h1]
        have e : ¬ x = -1 := by omega
        simp [e]
    · intro r hr v
      refine fits_snoc ?_
      rw [grow_row hr, List.length_map, List.length_take, List.length_take]
      omega
theorem fits_own {ns lot : List Str} {truth : List Int} (h : ns.length = truth.length) : fits (sheetL ns lot truth) truth = true := by
  unfold fits bad
  rw [List.isEmpty_iff, List.filter_eq_nil_iff]
  intro i hi
  have hi := List.mem_range.mp hi
  obtain ⟨z, hz⟩ : ∃ z, ns[i]? = some z := ⟨_, List.getElem?_eq_getElem (by omega)⟩
  obtain ⟨t, ht⟩ : ∃ t, truth[i]? = some t := ⟨_, List.getElem?_eq_getElem hi⟩
  have e := sheet_at (lot := lot) hz ht
  simp only [List.getD_eq_getElem?_getD, e, ht, Option.getD_some]
  by_cases c : z ∈ lot <;> simp [c]
end Fm

set_option Elab.async false
set_option linter.all false
set_option maxRecDepth 100000
set_option maxHeartbeats 4000000
/-! Wv7: comparisons of what is the same. -/
namespace Wv
open PySem PySem.Spec PyProof.Rows L2 Wb
theorem eqv_shaped {d : PyData} (h : SeqAt.shaped d = true) : PyData.eqv d d = true := by
  unfold SeqAt.shaped at h
  rw [Bool.and_eq_true] at h
  exact SeqAt.eqv_refl d h.1
section
variable {K : PySem.W.Frag} {σ : L2.St} {B H : Hp} {ta tb te tk : TE} {tt tu : TT} {R S T : Rel} {d e : PyData}
theorem De.reprs (ha : De ta σ B (dat K d)) (hb : De tb σ B (dat K d)) (hs : Shw d) : De (tOp rEq (tCB (rShow K) (tCons ta tNil)) (tCB (rShow K) (tCons tb tNil))) σ B (dat K (.bool true)) := De.eq (.op (.show ha hs) (.show hb hs) Rv.eqS) (by simp)
theorem De.same (ha : De ta σ B (dat K d)) (hb : De tb σ B (dat K d)) (hs : SeqAt.shaped d = true) : De (tOp (rEqD K) ta tb) σ B (dat K (.bool true)) := De.eq (.op ha hb (Rv.eqD hs hs)) (by rw [eqv_shaped hs])
theorem Dt.reprs (ha : De ta σ B (dat K d)) (hb : De tb σ B (dat K d)) (hs : Shw d) : Dt (tTest (tOp rNe (tCB (rShow K) (tCons ta tNil)) (tCB (rShow K) (tCons tb tNil)))) σ B false := Dt.eq (.test (K := K) (.op (.show ha hs) (.show hb hs) Rv.neS)) (by simp)
theorem Dt.same (ha : De ta σ B (dat K d)) (hb : De tb σ B (dat K d)) (hs : SeqAt.shaped d = true) : Dt (tTest (tOp (rNeD K) ta tb)) σ B false := Dt.eq (.test (K := K) (.op ha hb (Rv.neD hs hs))) (by rw [eqv_shaped hs]; rfl)
theorem Dt.sameI {i : Int} (ha : De ta σ B (dat K (.int i))) (hb : De tb σ B (dat K (.int i))) : Dt (tTest (tOp rNe ta tb)) σ B false := Dt.eq (.test (K := K) (.op ha hb Rv.neI)) (by simp)
theorem Dt.or2 (h1 : Dt tt σ B false) (h2 : Dt tu σ B false) : Dt (tOr tt tu) σ B false := .or h1 fun _ => h2
theorem De.and2 (h1 : De ta σ B (dat K (.bool true))) (h2 : De tb σ B (dat K (.bool true))) : De (tAndV ta tb) σ B (dat K (.bool true)) := .andV h1 fun _ => h2
end
section
variable {R R1 R2 : Rel} {B : Hp} {vs : List V}
theorem kw1 (h : AllR [R] B vs) : AllR [R] B (kwV [0] vs) := by
  obtain ⟨v, r, rfl, h1, h⟩ := h
  exact ⟨v, [], rfl, h1, rfl⟩
theorem kw2 (h : AllR [R1, R] B vs) : AllR [R, R1] B (kwV [1, 0] vs) := by
  obtain ⟨v, r, rfl, h1, v1, r1, rfl, h2, h⟩ := h
  exact ⟨v1, [v], rfl, h2, v, [], rfl, h1, rfl⟩
theorem kw3 (h : AllR [R2, R1, R] B vs) : AllR [R, R1, R2] B (kwV [2, 1, 0] vs) := by
  obtain ⟨v, r, rfl, h1, v1, r1, rfl, h2, v2, r2, rfl, h3, h⟩ := h
  exact ⟨v2, _, rfl, h3, v1, _, rfl, h2, v, [], rfl, h1, rfl⟩
end
end Wv

set_option Elab.async false
set_option linter.all false
set_option maxRecDepth 100000
set_option maxHeartbeats 4000000
/-! Wv8: what type data is of. -/
namespace Wv
open PySem PySem.Spec PyProof.Rows L2 Wb
def tyN : PyData → String
  | .none => "NoneType"
  | .bool _ => "bool"
  | .int _ => "int"
  | .str _ => "str"
  | .list _ => "list"
  | .tuple _ => "tuple"
  | .dict _ => "dict"
theorem ty_dat {K : PySem.W.Frag} {H : Hp} {v : V} {d : PyData} (h : Dp K H v d) : TyX K H v (.type (tyN d)) := by
  cases h with
  | non => exact .base .non
  | bl b => exact .base (.bl b)
  | int i => exact .base (.int i)
  | str z => exact .base (.str z)
  | lst hs _ =>
    rcases hs with (h | ⟨o, h⟩) | ⟨o, its, n, h, c, _⟩
    · exact .base (.lst h)
    · exact .base (.frz h)
    · exact .kList h c
  | tup hs _ =>
    rcases hs with (h | ⟨o, h⟩) | ⟨o, its, n, h, c, _⟩
    · exact .base (.tup h)
    · exact .fTuple h
    · exact .kTuple h c
/-- which built-in class it is of -/
def isD (X : String) (d : PyData) : Bool := tyN d == X || (tyN d == "bool" && X == "int")
theorem kit_data {K : PySem.W.Frag} : ∀ X ∈ ["int", "bool", "str", "tuple", "list"], ∀ t ∈ ["NoneType", "bool", "int", "str", "list", "tuple", "dict"], PySem.W.kitOne K (.type t) (.type X) = some (t == X || (t == "bool" && X == "int")) := by
  intro X hX t ht
  simp only [List.mem_cons, List.not_mem_nil, or_false] at hX ht
  rcases hX with rfl | rfl | rfl | rfl | rfl <;> rcases ht with rfl | rfl | rfl | rfl | rfl | rfl | rfl <;> rfl
theorem tyN_mem (d : PyData) : tyN d ∈ ["NoneType", "bool", "int", "str", "list", "tuple", "dict"] := by cases d <;> simp [tyN]
section
variable {K : PySem.W.Frag} {σ : L2.St} {B : Hp} {ta : TE} {d : PyData}
theorem De.isi {X : String} (h : De ta σ B (dat K d)) (hX : X ∈ ["int", "bool", "str", "tuple", "list"]) : De (tCB (rIsi K) (tCons ta (tCons (tC (.ty X)) tNil))) σ B (dat K (.bool (isD X d))) := fun B1 H s1 s2 Q q =>
  h B1 H s1 s2 _ fun v B2 H2 e hv => ⟨v, .ty X, _, _, _, rfl, .ty X, ty_dat (dpMono e.bh _ _ hv), kit_data X hX _ (tyN_mem d), q _ B2 H2 e (Dp.bl _)⟩
/-- a <= b <= c, of numbers -/
theorem De.chain {r r' : R2} {ta tb tc : TE} {R S T : Rel} {b1 b2 : Bool} [m1 : Mo R] [m2 : Mo S] (ha : De ta σ B R) (hb : De tb σ B S) (hr : Rv r B R S (dat K (.bool b1))) (hc : b1 = true → De tc σ B T) (hr' : b1 = true → Rv r' B S T (dat K (.bool b2))) : De (tChain r r' ta tb tc) σ B (dat K (.bool (b1 && b2))) := fun B1 H s1 s2 Q q =>
  ha B1 H s1 s2 _ fun x B2 H2 e hx => hb B2 H2 (s1.trans e.bb) e.bh _ fun y B3 H3 e2 hy => hr x y B3 H3 ((s1.trans e.bb).trans e2.bb) e2.bh (m1.mo e2.bb hx) hy _ fun z B4 H4 e3 hz => ⟨b1, dat_bl hz, by
    have e4 := (e.trans e2).trans e3
    cases b1 with
    | false => exact q _ B4 H4 e4 (Dp.bl _)
    | true => exact hc rfl B4 H4 (s1.trans e4.bb) e4.bh _ fun w B5 H5 e5 hw => hr' rfl y w B5 H5 ((s1.trans e4.bb).trans e5.bb) e5.bh (m2.mo (e3.bb.trans e5.bb) hy) hw Q fun v B6 H6 e6 hv => q v B6 H6 ((e4.trans e5).trans e6) hv⟩
/-- a question to a text -/
theorem De.m0 {f : Str → Bool} {z : Str} (h : De ta σ B (dat K (.str z))) : De (tM0 (fun x xs H Q => ∃ a, x = .str a ∧ xs = [] ∧ True ∧ Q (.bl (f a)) H) ta) σ B (dat K (.bool (f z))) := fun B1 H s1 s2 Q q =>
  h B1 H s1 s2 _ fun v B2 H2 e hv => ⟨⟨z, dat_str hv⟩, z, dat_str hv, rfl, trivial, q _ B2 H2 e (Dp.bl _)⟩
theorem De.lenS {z : Str} (h : De ta σ B (dat K (.str z))) (hz : z.length ≤ sizeLine) : De (tCB (fun xs H Q => ∃ x n, xs = [x] ∧ LenV K x H n ∧ Q (.int n) H) (tCons ta tNil)) σ B (dat K (.int (z.length : Int))) := .cb (.one h) (rc_lenS hz)
end
end Wv

set_option Elab.async false
set_option linter.all false
set_option maxRecDepth 100000
set_option maxHeartbeats 4000000
/-! K05a: the program's kinds of values. -/
namespace K05
open PySem PySem.Spec PyProof.Rows L2 Wb Wv Fm
def topS (i : Nat) : Stmt := PySem.Challenge.pw_whyblank_k05_any_values_as_books_and_tab.main.body.getD i (.Pass ⟨0, 0, 0, 0⟩)
abbrev s_isInt : Stmt := topS 8
abbrev s_isName : Stmt := topS 9
abbrev s_isTupleOf : Stmt := topS 10
abbrev s_isPartOf : Stmt := topS 11
abbrev s_isMany : Stmt := topS 15
abbrev s_mayFollow : Stmt := topS 16
abbrev s_formFault : Stmt := topS 17
abbrev s_isForm : Stmt := topS 18
abbrev s_namesOf : Stmt := topS 19
abbrev s_areAnswers : Stmt := topS 20
abbrev s_isTruth : Stmt := topS 21
abbrev s_isSheet : Stmt := topS 22
abbrev s_isLot : Stmt := topS 23
abbrev s_fractionFault : Stmt := topS 27
abbrev s_isFraction : Stmt := topS 28
abbrev s_fraction : Stmt := topS 29
abbrev s_compared : Stmt := topS 30
abbrev s_signOf : Stmt := topS 31
abbrev s_totalOf : Stmt := topS 32
abbrev s_isTriple : Stmt := topS 35
abbrev s_sharesFault : Stmt := topS 36
abbrev s_bookFault : Stmt := topS 37
abbrev s_needBook : Stmt := topS 38
abbrev s_isBook : Stmt := topS 39
abbrev s_isSheetShare : Stmt := topS 42
abbrev s_sheetsFault : Stmt := topS 43
abbrev s_needSheets : Stmt := topS 44
abbrev s_isSheets : Stmt := topS 45
abbrev s_source : Stmt := topS 47
abbrev s_any : Stmt := topS 48
abbrev s_of : Stmt := topS 49
abbrev s_lname : Stmt := topS 50
abbrev s_lnames : Stmt := topS 51
abbrev s_lcommon : Stmt := topS 52
abbrev s_llow : Stmt := topS 53
abbrev s_lform : Stmt := topS 54
abbrev s_lrows : Stmt := topS 55
abbrev s_lsubsets : Stmt := topS 56
abbrev s_lshares : Stmt := topS 57
abbrev s_lpicked : Stmt := topS 58
abbrev s_lkeys : Stmt := topS 59
abbrev s_thing : Stmt := topS 60
abbrev s_bent : Stmt := topS 61
abbrev s_near : Stmt := topS 62
abbrev s_lisRow : Stmt := topS 63
abbrev s_lisIn : Stmt := topS 64
abbrev s_lisShare : Stmt := topS 65
abbrev s_lisKey : Stmt := topS 66
abbrev s_wrong : Stmt := topS 67
abbrev s_told : Stmt := topS 68
abbrev s_lright : Stmt := topS 69
abbrev s_spoiltForm : Stmt := topS 70
abbrev s_law : Stmt := topS 71
def isIntD (d : PyData) : Bool := isD "int" d && !isD "bool" d
def isTupD (d : PyData) (n : Int) : Bool := match d with
  | .tuple ds => decide ((ds.length : Int) = n)
  | _ => false
def isNmS (z : Str) : Bool := decide (1 ≤ z.length ∧ z.length ≤ 8) && (Txt.isascii z && (Txt.isalpha z && Txt.islower z))
def isNmD (d : PyData) : Bool := match d with
  | .str z => isNmS z
  | _ => false
abbrev sp_isInt (K : PySem.W.Frag) : Sp := Pf (α := PyData) (fun d => [dat K d]) (fun _ => True) (fun d => dat K (.bool (isIntD d)))
abbrev sp_isTupleOf (K : PySem.W.Frag) : Sp := Pf (α := PyData × Int) (fun a => [dat K a.1, dat K (.int a.2)]) (fun _ => True) (fun a => dat K (.bool (isTupD a.1 a.2)))
abbrev sp_isName (K : PySem.W.Frag) : Sp := Pf (α := PyData) (fun d => [dat K d]) (fun d => ∀ z, d = .str z → z.length ≤ sizeLine) (fun d => dat K (.bool (isNmD d)))
section
variable {P : Program} {w : World} {K : PySem.W.Frag} {mg : Str → Option Value} {base : Heap} {C_Form C_InvalidForm C_BlankError : Addr}
theorem sc_isInt : FnScope ["value"] ["value"] (defScope s_isInt) := ⟨rfl, rfl, rfl, by decide +kernel, rfl, by decide +kernel, by decide +kernel⟩
theorem ok_isInt (D : Def K mg "is_int" s_isInt ["value"]) (n_int : mg "int" = none) (n_isinstance : mg "isinstance" = none) (n_bool : mg "bool" = none) : Cal P w K mg base CX0 1 "is_int" s_isInt ["value"] (sp_isInt K) := by
  refine D.ok sc_isInt (fun vs H Q E h => ?_) (fun cdv f A outer s H vs Q E hr h => ?_)
  · exact pf_len h fun _ => rfl
  replace h := pf1 h
  obtain ⟨v, B, d, rfl, hB, hv, _, k⟩ := h
  refine ⟨_, (pss_one (ps_ret (pe_and (pe_callB call_isi (by rfl) n_isinstance (by decide +kernel) (pa_cons (pv 0) (pa_cons (pe_bltn (by rfl) n_int (by decide +kernel) (show RelV (.ty "int") (.type "int") from rfl)) pa_nil))) (pe_one (pe_not (pe_callB call_isi (by rfl) n_isinstance (by decide +kernel) (pa_cons (pv 0) (pa_cons (pe_bltn (by rfl) n_bool (by decide +kernel) (show RelV (.ty "bool") (.type "bool") from rfl)) pa_nil)))))))), ?_⟩
  exact s_ret (De.andV (De.isi (.var hv rfl) (by simp)) fun _ => De.notV (De.isi (.var hv rfl) (by simp))) hB k
theorem sc_isTupleOf : FnScope ["value", "many"] ["value", "many"] (defScope s_isTupleOf) := ⟨rfl, rfl, rfl, by decide +kernel, rfl, by decide +kernel, by decide +kernel⟩
theorem ok_isTupleOf (D : Def K mg "is_tuple_of" s_isTupleOf ["value", "many"]) (n_tuple : mg "tuple" = none) (n_isinstance : mg "isinstance" = none) (n_len : mg "len" = none) : Cal P w K mg base CX0 1 "is_tuple_of" s_isTupleOf ["value", "many"] (sp_isTupleOf K) := by
  refine D.ok sc_isTupleOf (fun vs H Q E h => ?_) (fun cdv f A outer s H vs Q E hr h => ?_)
  · exact pf_len h fun _ => rfl
  replace h := pf2 h
  obtain ⟨v, v1, B, ⟨d, n⟩, rfl, hB, hv, hv1, _, k⟩ := h
  refine ⟨_, (pss_one (ps_ret (pe_and (pe_callB call_isi (by rfl) n_isinstance (by decide +kernel) (pa_cons (pv 0) (pa_cons (pe_bltn (by rfl) n_tuple (by decide +kernel) (show RelV (.ty "tuple") (.type "tuple") from rfl)) pa_nil))) (pe_one (pe_cmpR op_eq (pe_callB call_len (by rfl) n_len (by decide +kernel) (pa_cons (pv 0) pa_nil)) (pv 1) (nomark _)))))), ?_⟩
  have hv : dat K d B v := hv
  have k : ∀ (v : V) (B' H' : Hp), Ext B H B' H' → dat K (.bool (isTupD d n)) B' v → Q v H' := k
  refine s_ret (De.andV (a := isD "tuple" d) (b := isTupD d n) (De.isi (.var hv rfl) (by simp)) fun t => ?_) hB fun v B' H' e h => k v B' H' e ?_
  · cases d with
    | tuple ds => exact De.op (r := rEq) (De.lenT (.var hv rfl)) (.var hv1 rfl) Rv.eqI
    | none => cases t
    | bool b => cases t
    | int i => cases t
    | str z => cases t
    | list ds => cases t
    | dict ds => cases t
  · cases d with
    | tuple ds => exact h
    | _ => exact h
theorem sc_isName : FnScope ["value"] ["value"] (defScope s_isName) := ⟨rfl, rfl, rfl, by decide +kernel, rfl, by decide +kernel, by decide +kernel⟩
theorem ok_isName (D : Def K mg "is_name" s_isName ["value"]) (n_str : mg "str" = none) (n_isinstance : mg "isinstance" = none) (n_len : mg "len" = none) : Cal P w K mg base CX0 1 "is_name" s_isName ["value"] (sp_isName K) := by
  refine D.ok sc_isName (fun vs H Q E h => ?_) (fun cdv f A outer s H vs Q E hr h => ?_)
  · exact pf_len h fun _ => rfl
  replace h := pf1 h
  obtain ⟨v, B, d, rfl, hB, hv, short, k⟩ := h
  refine ⟨_, (pss_cons (ps_if (PW.pt (pw_or (pt_not (pt_val (pe_callB call_isi (by rfl) n_isinstance (by decide +kernel) (pa_cons (pv 0) (pa_cons (pe_bltn (by rfl) n_str (by decide +kernel) (show RelV (.ty "str") (.type "str") from rfl)) pa_nil))))) (pw_or1 (pt_not (pt_chain op_le op_le pe_int (pe_callB call_len (by rfl) n_len (by decide +kernel) (pa_cons (pv 0) pa_nil)) pe_int))))) (pss_one (ps_ret pe_bl)) pss_nil)
    (pss_one (ps_ret (pe_and (pe_m0 PySem.F.slot_str_isascii PySem.F.type_str_isascii mt_isascii (pv 0)) (pe_and (pe_m0 PySem.F.slot_str_isalpha PySem.F.type_str_isalpha mt_isalpha (pv 0)) (pe_one (pe_m0 PySem.F.slot_str_islower PySem.F.type_str_islower mt_islower (pv 0)))))))), ?_⟩
  cases hd : d with
  | str z =>
    subst hd
    have hz := short z rfl
    have k : ∀ (v : V) (B' H' : Hp), Ext B H B' H' → dat K (.bool (isNmS z)) B' v → Q v H' := k
    unfold isNmS at k
    refine s_ifS (b := !(decide ((1 : Int) ≤ z.length) && decide ((z.length : Int) ≤ 8))) (Dt.eq (Dt.or (a := false) (Dt.eq (Dt.not (Dt.tB (De.isi (.var hv rfl) (by simp)))) rfl) fun _ => Dt.not (Dt.test (K := K) (De.chain (r := rI0 fun i j => V.bl (decide (i ≤ j))) (r' := rI0 fun i j => V.bl (decide (i ≤ j))) .int (De.lenS (.var hv rfl) hz) Rv.I0b (fun _ => .int) fun _ => Rv.I0b))) (by simp)) hB (fun t B1 H1 e1 => ?_) fun f B1 H1 e1 => ?_
    · refine s_ret (De.bl (K := K)) e1.bh fun v B' H' e h => k v B' H' (e1.trans e) ?_
      have : decide (1 ≤ z.length ∧ z.length ≤ 8) = false := by
        simp at t
        simp
        omega
      rw [this]
      exact h
    · have : decide (1 ≤ z.length ∧ z.length ≤ 8) = true := by
        simp at f
        simp
        omega
      rw [this] at k
      exact s_ret (De.andV (De.m0 (.var (Mo.mo e1.bb hv) rfl)) fun _ => De.andV (De.m0 (.var (Mo.mo e1.bb hv) rfl)) fun _ => De.m0 (.var (Mo.mo e1.bb hv) rfl)) e1.bh fun v B' H' e h => k v B' H' (e1.trans e) h
  | _ =>
    subst hd
    refine s_ifS (b := true) (Dt.eq (Dt.or (a := true) (b := true) (Dt.eq (Dt.not (Dt.tB (De.isi (.var hv rfl) (by simp)))) rfl) fun z => nomatch z) rfl) hB (fun t B1 H1 e1 => ?_) fun z => nomatch z
    exact s_ret (De.bl (K := K)) e1.bh fun v B' H' e h => k v B' H' (e1.trans e) h
end
end K05

set_option Elab.async false
set_option linter.all false
set_option maxRecDepth 100000
set_option maxHeartbeats 4000000
/-! Wx0: what is evaluated while a deal is drawn from, told like De. -/
namespace Wv
open PySem PySem.Spec PyProof.Rows L2 Wb
def Dw (te : TE) (σ : L2.St) (d c : Addr) (B : Hp) (R : Rel) : Prop := ∀ B1 H, Same B B1 → Dl B1 H d c → ∀ Q : VK, (∀ v B' H', ExtD d c B1 H B' H' → R B' v → Q v H') → te σ H Q
def Dwa (ta : TA) (σ : L2.St) (d c : Addr) (B : Hp) (Rs : List Rel) : Prop := ∀ B1 H, Same B B1 → Dl B1 H d c → ∀ Q : List V → Hp → Prop, (∀ vs B' H', ExtD d c B1 H B' H' → AllR Rs B' vs → Q vs H') → ta σ H Q
/-- so many values of one kind -/
def Dwn (ta : TA) (σ : L2.St) (d c : Addr) (B : Hp) (S : Rel) (n : Nat) : Prop := ∀ B1 H, Same B B1 → Dl B1 H d c → ∀ Q : List V → Hp → Prop, (∀ vs B' H', ExtD d c B1 H B' H' → vs.length = n → (∀ v ∈ vs, S B' v) → Q vs H') → ta σ H Q
/-- a test whose outcome is open -/
def Dtw (tt : TT) (σ : L2.St) (d c : Addr) (B : Hp) : Prop := ∀ B1 H, Same B B1 → Dl B1 H d c → ∀ Q : Bool → Hp → Prop, (∀ b B' H', ExtD d c B1 H B' H' → Q b H') → tt σ H Q
def intP (P : Int → Prop) : Rel := fun _ v => ∃ i, P i ∧ v = .int i
instance {P : Int → Prop} : Mo (intP P) := ⟨fun _ h => h⟩
def datP (K : PySem.W.Frag) (P : PyData → Prop) : Rel := fun B v => ∃ d, P d ∧ dat K d B v
instance {K : PySem.W.Frag} {P : PyData → Prop} : Mo (datP K P) := ⟨fun s ⟨d, h, g⟩ => ⟨d, h, dpMono s _ _ g⟩⟩
def lstS (K : PySem.W.Frag) (S : Rel) (n : Nat) : Rel := fun B v => ∃ a xs, v = .ref a ∧ SqL K B a xs ∧ xs.length = n ∧ ∀ x ∈ xs, S B x
instance {K : PySem.W.Frag} {S : Rel} {n : Nat} [m : Mo S] : Mo (lstS K S n) := ⟨fun s ⟨a, xs, e, h, l, g⟩ => ⟨a, xs, e, s.seq h, l, fun x hx => m.mo s (g x hx)⟩⟩
theorem dpAll_app {K : PySem.W.Frag} {B : Hp} : ∀ {vs ws : List V} {ds es : List PyData}, DpAll K B vs ds → DpAll K B ws es → DpAll K B (vs ++ ws) (ds ++ es)
  | _, _, _, _, .nil, h => h
  | _, _, _, _, .cons h t, g => .cons h (dpAll_app t g)
section
variable {K : PySem.W.Frag} {σ : L2.St} {d c : Addr} {B B' H : Hp} {te ta tb : TE} {tt tu : TT} {R S T : Rel} {Rs : List Rel} {E : XK} {i : Nat}
theorem Dw.of (h : De te σ B R) : Dw te σ d c B R := fun B1 H s L Q k => h B1 H s L.bh Q fun v B' H' e hv => k v B' H' (.of L e) hv
theorem Dw.mono (s : Same B B') (h : Dw te σ d c B R) : Dw te σ d c B' R := fun B1 H s1 L => h B1 H (s.trans s1) L
theorem Dwa.mono {ta : TA} (s : Same B B') (h : Dwa ta σ d c B Rs) : Dwa ta σ d c B' Rs := fun B1 H s1 L => h B1 H (s.trans s1) L
theorem Dw.cv (h : Dw te σ d c B R) (f : ∀ B v, R B v → S B v) : Dw te σ d c B S := fun B1 H s L Q k => h B1 H s L Q fun v B' H' e hv => k v B' H' e (f _ _ hv)
theorem Dwa.nil : Dwa tNil σ d c B [] := fun B1 H _ L Q k => k [] B1 H (.refl L) rfl
theorem Dwa.cons {tr : TA} [m : Mo R] (h : Dw te σ d c B R) (t : Dwa tr σ d c B Rs) : Dwa (tCons te tr) σ d c B (R :: Rs) := fun B1 H s L Q k =>
  h B1 H s L _ fun v B2 H2 e hv => t B2 H2 (s.trans e.bb) e.dl _ fun vs B3 H3 e2 hvs => k _ B3 H3 (e.trans L e2) ⟨v, vs, rfl, m.mo e2.bb hv, hvs⟩
theorem Dwa.of {tr : TA} (h : Da tr σ B Rs) : Dwa tr σ d c B Rs := fun B1 H s L Q k => h B1 H s L.bh Q fun vs B' H' e hv => k vs B' H' (.of L e) hv
theorem Dwa.one (h : Dw te σ d c B R) [m : Mo R] : Dwa (tCons te tNil) σ d c B [R] := .cons h .nil
theorem Dwn.nil : Dwn tNil σ d c B S 0 := fun B1 H _ L Q k => k [] B1 H (.refl L) rfl fun v h => nomatch h
theorem Dwn.cons {tr : TA} {n : Nat} [m : Mo S] (h : Dw te σ d c B S) (t : Dwn tr σ d c B S n) : Dwn (tCons te tr) σ d c B S (n + 1) := fun B1 H s L Q k =>
  h B1 H s L _ fun v B2 H2 e hv => t B2 H2 (s.trans e.bb) e.dl _ fun vs B3 H3 e2 hl hvs => k _ B3 H3 (e.trans L e2) (by simp [hl]) fun x hx => by
    rcases List.mem_cons.mp hx with rfl | hx
    · exact m.mo e2.bb hv
    · exact hvs x hx
theorem Dw.D1 {x : PyData} {P : PyData → Prop} (h : De te σ B (dat K x)) (hp : P x) : Dw te σ d c B (datP K P) := .cv (.of h) fun _ _ hv => ⟨x, hp, hv⟩
theorem Dw.any {n : Int} (hd : σ[i]? = some (some (.ref d))) (hn : De te σ B (dat K (.int n))) (n0 : 0 < n) (n1 : n < 2 ^ 300) : Dw (tCall spAny [] E (tCons (tVar i) (tCons te tNil))) σ d c B (intP fun r => 0 ≤ r ∧ r < n) := fun B1 H s L Q k =>
  c_any L hd (hn.mono s) n0 n1 fun r B' H' r0 r1 e => k _ B' H' e ⟨r, ⟨r0, r1⟩, rfl⟩
/-- some of a list, whatever is drawn for its items -/
theorem Dw.ofS {n : Nat} (hd : σ[i]? = some (some (.ref d))) (h : Dw te σ d c B (lstS K S n)) (n0 : 0 < n) (few : n ≤ 1000) [m : Mo S] : Dw (tCall (spOf K) [] E (tCons (tVar i) (tCons te tNil))) σ d c B S := fun B1 H s L Q k =>
  ⟨.ref d, hd, h B1 H s L _ fun v B2 H2 e hv => by
    obtain ⟨p, xs, rfl, hs, hl, hx⟩ := hv
    refine ⟨d, c, .ref p, rfl, e.deal, .inl ⟨p, xs, rfl, e.sub.seq hs, fun z => by rw [z] at hl; simp at hl; omega, by omega, fun v H3 hv D3 S3 => ?_⟩⟩
    exact k v B2 H3 (.trans L e (.draw e.dl D3 S3)) (hx v hv)⟩
theorem Dw.lstN {tr : TA} {n : Nat} [m : Mo S] (h : Dwn tr σ d c B S n) (hz : n ≤ sizeLine) : Dw (tLst tr) σ d c B (lstS K S n) := fun B1 H s L Q k =>
  h B1 H s L _ fun vs B2 H2 e hl hv => ⟨by omega, fun p hp => k _ (upd B2 p (.lst vs)) _ (e.trans L (.of e.dl (Ext.new e.bh hp))) ⟨p, vs, rfl, SqL.of upd_same, hl, fun x hx => m.mo (new_same (e.bh.free hp)) (hv x hx)⟩⟩
/-- some item of a written list with drawn items -/
theorem Dw.pick {tr : TA} {n : Nat} [m : Mo S] (hd : σ[i]? = some (some (.ref d))) (h : Dwn tr σ d c B S n) (n0 : 0 < n) (few : n ≤ 1000) : Dw (tCall (spOf K) [] E (tCons (tVar i) (tCons (tLst tr) tNil))) σ d c B S :=
  .ofS hd (.lstN h (by rw [sizeLine_eq]; omega)) n0 few
theorem Dw.ofL {ds : List PyData} (hd : σ[i]? = some (some (.ref d))) (h : De te σ B (dat K (.list ds))) (ne : ds ≠ []) (few : ds.length ≤ 1000) : Dw (tCall (spOf K) [] E (tCons (tVar i) (tCons te tNil))) σ d c B (datP K fun x => x ∈ ds) := fun B1 H s L Q k =>
  c_ofL L hd (h.mono s) ne few fun x v B' H' hx e hv => k v B' H' e ⟨x, hx, hv⟩
theorem Dw.ofT {ds : List PyData} (hd : σ[i]? = some (some (.ref d))) (h : De te σ B (dat K (.tuple ds))) (ne : ds ≠ []) (few : ds.length ≤ 1000) : Dw (tCall (spOf K) [] E (tCons (tVar i) (tCons te tNil))) σ d c B (datP K fun x => x ∈ ds) := fun B1 H s L Q k =>
  c_ofT L hd (h.mono s) ne few fun x v B' H' hx e hv => k v B' H' e ⟨x, hx, hv⟩
theorem Dw.tup {tr : TA} [m : MoA Rs] (h : Dwa tr σ d c B Rs) (hz : Rs.length ≤ sizeLine) : Dw (tTup tr) σ d c B (tupR K Rs) := fun B1 H s L Q k =>
  h B1 H s L _ fun vs B2 H2 e hv => ⟨by rw [allR_len hv]; exact hz, fun p hp => k _ (upd B2 p (.tup vs)) _ (e.trans L (.of e.dl (Ext.new e.bh hp))) ⟨p, vs, rfl, SqT.of upd_same, m.mo (new_same (e.bh.free hp)) hv⟩⟩
theorem Dw.op {r : R2} [m : Mo R] (ha : Dw ta σ d c B R) (hb : Dw tb σ d c B S) (hr : ∀ B, Rv r B R S T) : Dw (tOp r ta tb) σ d c B T := fun B1 H s L Q k =>
  ha B1 H s L _ fun x B2 H2 e hx => hb B2 H2 (s.trans e.bb) e.dl _ fun y B3 H3 e2 hy => hr B3 x y B3 H3 (Same.refl _) e2.bh (m.mo e2.bb hx) hy _ fun v B4 H4 e3 hv => k v B4 H4 ((e.trans L e2).trans L (.of e2.dl e3)) hv
theorem Rv.intP {f : Int → Int → Int} {P P' : Int → Prop} : Rv (rI0 fun i j => V.int (f i j)) B (intP P) (intP P') (intP fun k => ∃ i j, P i ∧ P' j ∧ k = f i j) := fun x y B1 H _ s2 ⟨i, hi, hx⟩ ⟨j, hj, hy⟩ Q q =>
  ⟨i, j, hx, hy, q _ B1 H (.refl s2) ⟨_, ⟨i, j, hi, hj, rfl⟩, rfl⟩⟩
theorem Dw.int {n : Int} : Dw (tC (.int n)) σ d c B (intP fun k => k = n) := fun B1 H _ L Q k => k _ B1 H (.refl L) ⟨n, rfl, rfl⟩
theorem Dw.intV {n : Int} (h : σ[i]? = some (some (.int n))) : Dw (tVar i) σ d c B (intP fun k => k = n) := fun B1 H _ L Q k => ⟨_, h, k _ B1 H (.refl L) ⟨n, rfl, rfl⟩⟩
theorem intP_dat {P : Int → Prop} {v : V} (h : intP P B v) : datP K (fun x => ∃ i, P i ∧ x = .int i) B v := by
  obtain ⟨i, hi, rfl⟩ := h
  exact ⟨.int i, ⟨i, hi, rfl⟩, .int i⟩
/-- a def that draws, its arguments drawn too -/
theorem Dw.def {α : Type} {args : α → List Rel} {pre : α → Prop} {res : α → Rel} {tr : TA} (hd : σ[i]? = some (some (.ref d))) (h : Dwa tr σ d c B Rs) (f : ∀ B vs, AllR Rs B vs → ∃ a, AllR (args a) B vs ∧ pre a ∧ ∀ B v, res a B v → S B v) :
    Dw (tCall (DPf args pre res) [] E (tCons (tVar i) tr)) σ d c B S := fun B1 H s L Q k =>
  ⟨.ref d, hd, h B1 H s L _ fun vs B2 H2 e hv => by
    obtain ⟨a, ha, hp, hs⟩ := f B2 vs hv
    exact ⟨d, c, B2, a, vs, by rw [List.append_nil], e.dl, ha, hp, fun v B' H' e' hr => k v B' H' (.trans L e e') (hs _ _ hr)⟩⟩
/-- .. told what it takes -/
theorem Dw.def1 {α : Type} {args : α → List Rel} {pre : α → Prop} {res : α → Rel} {tr : TA} (a : α) (hd : σ[i]? = some (some (.ref d))) (h : Da tr σ B (args a)) (hp : pre a) : Dw (tCall (DPf args pre res) [] E (tCons (tVar i) tr)) σ d c B (res a) :=
  .def hd (.of h) fun _ _ hv => ⟨a, hv, hp, fun _ _ h => h⟩
/-- a def that draws nothing, its arguments drawn -/
theorem Dw.pf {α : Type} {args : α → List Rel} {pre : α → Prop} {res : α → Rel} {tr : TA} (h : Dwa tr σ d c B Rs) (f : ∀ B vs, AllR Rs B vs → ∃ a, AllR (args a) B vs ∧ pre a ∧ ∀ B v, res a B v → S B v) : Dw (tCall (Pf args pre res) [] E tr) σ d c B S := fun B1 H s L Q k =>
  h B1 H s L _ fun vs B2 H2 e hv => by
    obtain ⟨a, ha, hp, hs⟩ := f B2 vs hv
    show Pf args pre res (vs ++ []) H2 Q E
    rw [List.append_nil]
    exact ⟨B2, a, e.bh, ha, hp, fun v B' H' e' hr => k v B' H' (.trans L e (.of e.dl e')) (hs _ _ hr)⟩
theorem Dw.ite (h : Dtw tt σ d c B) (h1 : Dw ta σ d c B S) (h2 : Dw tb σ d c B S) : Dw (tIf tt ta tb) σ d c B S := fun B1 H s L Q k =>
  h B1 H s L _ fun b B2 H2 e => by
    cases b with
    | true => exact h1 B2 H2 (s.trans e.bb) e.dl Q fun v B3 H3 e3 => k v B3 H3 (e.trans L e3)
    | false => exact h2 B2 H2 (s.trans e.bb) e.dl Q fun v B3 H3 e3 => k v B3 H3 (e.trans L e3)
theorem Dtw.of {b : Bool} (h : Dt tt σ B b) : Dtw tt σ d c B := fun B1 H s L Q k => h B1 H s L.bh Q fun B' H' e => k b B' H' (.of L e)
/-- _law_any(deal, n) == m, and the like -/
theorem Dtw.cmp {f : Int → Int → Bool} {P P' : Int → Prop} (ha : Dw ta σ d c B (intP P)) (hb : Dw tb σ d c B (intP P')) : Dtw (tTest (tOp (rI0 fun i j => V.bl (f i j)) ta tb)) σ d c B := fun B1 H s L Q k =>
  ha B1 H s L _ fun x B2 H2 e ⟨i, _, hx⟩ => hb B2 H2 (s.trans e.bb) e.dl _ fun y B3 H3 e2 ⟨j, _, hy⟩ => ⟨i, j, hx, hy, _, rfl, k _ B3 H3 (e.trans L e2)⟩
include K in
theorem Dtw.eq {P P' : Int → Prop} (ha : Dw ta σ d c B (intP P)) (hb : Dw tb σ d c B (intP P')) : Dtw (tTest (tOp rEq ta tb)) σ d c B := fun B1 H s L Q k =>
  ha B1 H s L _ fun x B2 H2 e ⟨i, _, hx⟩ => hb B2 H2 (s.trans e.bb) e.dl _ fun y B3 H3 e2 ⟨j, _, hy⟩ => by
    subst hx
    subst hy
    exact (Rv.eqI (K := K) (i := i) (j := j)) _ _ B3 H3 (Same.refl _) e2.bh (.int i) (.int j) _ fun v B4 H4 e4 hv => ⟨_, dat_bl hv, k _ B4 H4 ((e.trans L e2).trans L (.of e2.dl e4))⟩
/-! ### statements -/
variable {D : Ends} {rest t u : TS}
theorem s_w (L : Dl B H d c) (h : Dw te σ d c B R) (k : ∀ v B' H', ExtD d c B H B' H' → R B' v → rest D (σ.set i (some v)) H') : tSeq (tAsg te (gName i)) rest D σ H := h B H (Same.refl _) L _ k
theorem s_wE (L : Dl B H d c) (h : Dw te σ d c B R) (k : ∀ v B' H', ExtD d c B H B' H' → R B' v → D.nx (σ.set i (some v)) H') : tAsg te (gName i) D σ H := h B H (Same.refl _) L _ k
theorem s_retW (L : Dl B H d c) (h : Dw te σ d c B R) (k : ∀ v B' H', ExtD d c B H B' H' → R B' v → D.rt v H') : tRet te D σ H := h B H (Same.refl _) L _ k
theorem s_ifW (L : Dl B H d c) (h : Dtw tt σ d c B) (k1 : ∀ B' H', ExtD d c B H B' H' → t { D with nx := rest D } σ H') (k2 : ∀ B' H', ExtD d c B H B' H' → u { D with nx := rest D } σ H') : tSeq (tIfS tt t u) rest D σ H := h B H (Same.refl _) L _ fun b B' H' e => by
  cases b with
  | true => exact k1 B' H' e
  | false => exact k2 B' H' e
theorem s_ifWE (L : Dl B H d c) (h : Dtw tt σ d c B) (k1 : ∀ B' H', ExtD d c B H B' H' → t D σ H') (k2 : ∀ B' H', ExtD d c B H B' H' → u D σ H') : tIfS tt t u D σ H := h B H (Same.refl _) L _ fun b B' H' e => by
  cases b with
  | true => exact k1 B' H' e
  | false => exact k2 B' H' e
/-! ### lists that change -/
theorem De.rep {n : Int} {ta : TA} {ds : List PyData} (h : Dd K ta σ B ds) (n0 : 0 ≤ n) (n1 : n ≤ 1000) (few : ds.length ≤ 1000) : De (tOp rRep (tLst ta) (tC (.int n))) σ B (dat K (.list (List.replicate n.toNat ds).flatten)) := fun B1 H s1 s2 Q k =>
  h B1 H s1 s2 _ fun vs B2 H2 e hv => by
    have len := allR_len hv
    rw [List.length_map] at len
    refine ⟨by rw [len, sizeLine_eq]; omega, fun p hp => ⟨p, n, vs, rfl, rfl, upd_same, by omega, by omega, ?_, fun p2 hp2 => ?_⟩⟩
    · rw [len, sizeLine_eq]
      have : ds.length * n.toNat ≤ 1000 * 1000 := Nat.mul_le_mul few (by omega)
      omega
    · have e1 : Ext B2 H2 B2 (upd H2 p (.lst vs)) := .own e.bh hp
      refine k _ (upd B2 p2 (.lst (List.replicate n.toNat vs).flatten)) _ ((e.trans e1).trans (Ext.new e1.bh hp2)) ?_
      have fr : B2 p2 = none := e1.bh.free hp2
      refine .lst (SqL.of upd_same) (dpMonoAll (new_same fr) _ _ ?_)
      have g : DpAll K B2 vs ds := allR_dp hv
      have go : ∀ m : Nat, DpAll K B2 (List.replicate m vs).flatten (List.replicate m ds).flatten := by
        intro m
        induction m with
        | zero => exact .nil
        | succ m ih =>
          rw [List.replicate_succ, List.replicate_succ, List.flatten_cons, List.flatten_cons]
          exact dpAll_app g ih
      exact go _
end
end Wv

set_option Elab.async false
set_option linter.all false
set_option maxRecDepth 100000
set_option maxHeartbeats 4000000
/-! Wx1: list(text), lists that change while a deal goes on. -/
namespace Wv
open PySem PySem.Spec PyProof.Rows L2 Wb
/-- the signs of a text -/
def signs (z : Str) : List Str := z.cps.toList.map fun c => ⟨#[c]⟩
def rLstS : List V → Hp → VK → Prop := fun xs H Q => ∃ z : Str, xs = [.str z] ∧ z.length ≤ sizeLine ∧ ∀ p, H p = none → Q (.ref p) (upd H p (.lst ((signs z).map .str)))
theorem signs_vals {z : Str} : ∀ {us : List Value} (n : Nat), us.length + n = z.cps.size → (∀ (j : Nat) (v : Value), us[j]? = some v → SignAt z (n + j) v) → Vals (((signs z).drop n).map V.str) us := by
  intro us
  induction us with
  | nil =>
    intro n h _
    have : (signs z).drop n = [] := by
      rw [List.drop_eq_nil_iff]
      unfold signs
      simp at *
      omega
    rw [this]
    exact .nil
  | cons u us ih =>
    intro n h g
    have lt : n < (signs z).length := by
      unfold signs
      simp at *
      omega
    rw [List.drop_eq_getElem_cons lt, List.map_cons]
    refine .cons ?_ (ih (n + 1) (by simp at h; omega) fun j v e => ?_)
    · obtain ⟨c, t, hc, hv⟩ := g 0 u rfl
      refine ⟨t, ?_⟩
      have key : (signs z)[n]? = some ⟨#[c]⟩ := by
        unfold signs
        rw [List.getElem?_map, Array.getElem?_toList]
        rw [Nat.add_zero] at hc
        rw [hc]
        rfl
      obtain ⟨_, e⟩ := List.getElem?_eq_some_iff.mp key
      rw [hv, e]
    · have := g (j + 1) v e
      rw [show n + 1 + j = n + (j + 1) by omega]
      exact this
theorem call_list_txt {X : Cx} (hc : X.calm = true) : CallR X (.type "list") rLstS := by
  intro pins s σ H xs us Q I r q
  obtain ⟨z, rfl, hz, q⟩ := q
  obtain ⟨u, rfl, rx⟩ := vals1 r
  obtain ⟨t, rfl⟩ := rx
  refine call_list_str (I.ok.hd hc) z t (fun h' tk acc c' hk hD hacc => ?_) hz
  have hv : Vals ((signs z).map V.str) acc.toList := by
    have := signs_vals (z := z) (us := acc.toList) 0 (by rw [Array.length_toList]; exact hacc.1) fun j v e => by
      rw [Nat.zero_add]
      exact hacc.2 j v (by rw [← Array.getElem?_toList]; exact e)
    rw [List.drop_zero] at this
    exact this
  refine ⟨.ref s.heap.objs.size, upd H s.heap.objs.size (.lst ((signs z).map V.str)), I.laid (t' := tk) hk (Nat.le_refl _)
    (show ObjOk X.prog X.w _ _ _ (.lst ((signs z).map V.str)) from ⟨by unfold signs; simp; exact hz, acc.toList, c', hv, by rw [Array.toArray_toList]; exact hD⟩), rfl, q _ (I.hok.fresh (Nat.le_refl _))⟩
theorem Ml.other {d c M P : Addr} {B H : Hp} {xs : List V} {o : HO} (m : Ml d c B H M xs) (n : M ≠ P) : Ml d c B (upd H P o) M xs := ⟨(upd_ne n).trans m.at_, m.no, m.nd, m.nc⟩
section
variable {K : PySem.W.Frag} {σ : L2.St} {d c M : Addr} {B H : Hp} {te tf : TE} {R S T : Rel} {E : XK} {i j : Nat} {Q : VK}
/-- a number drawn below the length of a list that changes -/
theorem c_anyLen {xs : List V} (L : Dl B H d c) (hd : σ[i]? = some (some (.ref d))) (hm : σ[j]? = some (some (.ref M))) (m : Ml d c B H M xs) (pos : 0 < xs.length) (few : xs.length ≤ 1000) (k : ∀ (r : Nat) H', r < xs.length → ExtD d c B H B H' → Q (.int r) H') :
    tCall spAny [] E (tCons (tVar i) (tCons (tCB (rLen K) (tCons (tVar j) tNil)) tNil)) σ H Q :=
  ⟨.ref d, hd, .ref M, hm, .ref M, xs.length, rfl, .inl ⟨xs, SqL.of m.at_, rfl⟩, d, c, xs.length, rfl, L.deal, by omega, by omega, fun r H2 r0 r1 D2 S2 => by
    obtain ⟨n, rfl⟩ := Int.eq_ofNat_of_zero_le r0
    exact k n H2 (by omega) (.draw L D2 S2)⟩
theorem seqIx {n r : Nat} (h : r < n) : seqIndex? (r : Int) n = some r := by
  have z : ¬ ((r : Int) < 0) := by omega
  have q : (decide (0 ≤ (r : Int)) && decide ((r : Int) < n)) = true := by simp; omega
  simp only [seqIndex?, z, if_false, q, if_true]
  rfl
/-- pool.pop(a number drawn below its length) -/
theorem c_popAny {xs : List V} (L : Dl B H d c) (hd : σ[i]? = some (some (.ref d))) (hm : σ[j]? = some (some (.ref M))) (m : Ml d c B H M xs) (pos : 0 < xs.length) (few : xs.length ≤ 1000)
    (k : ∀ (r : Nat) x H', xs[r]? = some x → ExtD d c B H B H' → Ml d c B H' M xs → Q x (upd H' M (.lst (xs.eraseIdx r)))) :
    tBM K "list" rPopAt (tVar j) (tCons (tCall spAny [] E (tCons (tVar i) (tCons (tCB (rLen K) (tCons (tVar j) tNil)) tNil))) tNil) σ H Q :=
  ⟨.ref M, hm, .inl ⟨rfl, xs, SqL.of m.at_⟩, c_anyLen (K := K) L hd hm m pos few fun r H' hr e => by
    have m' := m.ext e
    exact ⟨M, xs, r, r, xs[r], rfl, rfl, m'.at_, by omega, by omega, seqIx hr, List.getElem?_eq_getElem hr, k r xs[r] H' (List.getElem?_eq_getElem hr) e m'⟩⟩
theorem c_tupL {v : V} {out : List PyData} (L : Dl B H d c) (h : dat K (.list out) B v) (k : ∀ u B' H', ExtD d c B H B' H' → dat K (.tuple out) B' u → Q u H') : rTup K [v] H Q := by
  obtain ⟨a, xs, rfl, hs, hR⟩ := dat_lstR h
  refine ⟨a, xs, rfl, .inl ⟨L.bh.seq hs, fun p hp => ?_⟩⟩
  have e := Ext.new (o := .tup xs) L.bh hp
  exact k _ _ _ (.of L e) (tupR_dat ⟨p, xs, rfl, SqT.of upd_same, MoA.mo e.bb hR⟩)
/-- what a list is, by what its items are -/
def listOf (P : List PyData → Prop) (x : PyData) : Prop := ∃ ds, x = .list ds ∧ P ds
def tupOf (P : List PyData → Prop) (x : PyData) : Prop := ∃ ds, x = .tuple ds ∧ P ds
theorem Dw.tupleL {P : List PyData → Prop} (h : Dw te σ d c B (datP K (listOf P))) : Dw (tCB (rTup K) (tCons te tNil)) σ d c B (datP K (tupOf P)) := fun B1 H s L Q k =>
  h B1 H s L _ fun v B2 H2 e ⟨x, ⟨ds, hx, hp⟩, hv⟩ => by
    subst hx
    exact c_tupL e.dl hv fun u B3 H3 e3 hu => k u B3 H3 (e.trans L e3) ⟨_, ⟨ds, rfl, hp⟩, hu⟩
/-- each item made of one that is walked, and of draws -/
def Each {α : Type} (P : α → PyData → Prop) (as : List α) (ds : List PyData) : Prop := ds.length = as.length ∧ ∀ (i : Nat) (a : α) (x : PyData), as[i]? = some a → ds[i]? = some x → P a x
theorem Each.snoc {α : Type} {P : α → PyData → Prop} {as : List α} {ds : List PyData} {a : α} {x : PyData} {i : Nat} (h : Each P (as.take i) ds) (ha : as[i]? = some a) (hx : P a x) : Each P (as.take (i + 1)) (ds ++ [x]) := by
  have tk : as.take (i + 1) = as.take i ++ [a] := by rw [List.take_succ, ha]; rfl
  have li : (as.take i).length = i := by
    have := (List.getElem?_eq_some_iff.mp ha).1
    rw [List.length_take]
    omega
  have ld : ds.length = i := h.1.trans li
  refine ⟨by rw [tk, List.length_append, List.length_append, h.1]; rfl, fun j b y hb hy => ?_⟩
  rw [tk] at hb
  by_cases hj : j < i
  · rw [List.getElem?_append_left (by omega)] at hb hy
    exact h.2 j b y hb hy
  · have e : j = i := by
      have := (List.getElem?_eq_some_iff.mp hy).1
      simp at this
      omega
    subst e
    rw [List.getElem?_append_right (by omega), li] at hb
    rw [List.getElem?_append_right (by omega), ld] at hy
    simp at hb hy
    subst hb
    subst hy
    exact hx
theorem Dw.lc {α : Type} {as : List α} {r : α → Rel} {wi : TI} {g : TG} {vs : List Nat} (P : α → PyData → Prop) (hi : Di wi σ B (as.map r)) (few : as.length < sizeLine)
    (turn : ∀ a v Bn, a ∈ as → Same B Bn → r a Bn v → ∃ σ2, (∀ Hn (Q : L2.St → Hp → Prop), Same Bn Hn → Q σ2 Hn → g v (wipe σ vs) Hn Q) ∧ wipe σ2 vs = wipe σ vs ∧ Dw te σ2 d c Bn (datP K (P a))) :
    Dw (tLc wi g tYes te vs) σ d c B (datP K (listOf (Each P as))) := fun B1 H s L Q k =>
  c_lcD (K := K) (as := as) (r := r) L (hi.mono s) few (fun i out => Each P (as.take i) out) ⟨rfl, fun i a x h => by simp at h⟩ (fun i a v B2 H2 out ha L2' s2 hv hE Y N hY hN => by
    obtain ⟨σ2, t1, t2, t3⟩ := turn a v B2 (List.mem_of_getElem? ha) (s.trans s2) hv
    refine t1 H2 _ L2'.bh ⟨t2, ?_⟩
    show te σ2 H2 Y
    exact t3 B2 H2 (Same.refl _) L2' _ fun y B4 H4 e4 ⟨x, hx, hy⟩ => hY y B4 H4 x e4 hy (hE.snoc ha hx)) fun out v B' H' e hE hv => k v B' H' e ⟨_, ⟨out, rfl, by rw [List.take_length] at hE; exact hE⟩, hv⟩
/-- parts of lists -/
def cutA {α : Type} (xs : List α) (lo hi : Option Int) : List α := (xs.drop (HT.sIx xs.length 0 lo)).take (HT.sIx xs.length xs.length hi - HT.sIx xs.length 0 lo)
theorem cutA_map {α β : Type} (f : α → β) (xs : List α) (lo hi : Option Int) : (cutA xs lo hi).map f = cutA (xs.map f) lo hi := by
  unfold cutA
  rw [List.map_take, List.map_drop, List.length_map]
theorem cutA_mem {α : Type} {xs : List α} {lo hi : Option Int} {x : α} (h : x ∈ cutA xs lo hi) : x ∈ xs := List.mem_of_mem_drop (List.mem_of_mem_take h)
theorem cutA_len {α : Type} (xs : List α) (lo hi : Option Int) : (cutA xs lo hi).length ≤ xs.length := by
  unfold cutA
  rw [List.length_take, List.length_drop]
  omega
theorem dpAll_take {K : PySem.W.Frag} {H : Hp} : ∀ {vs : List V} {ds : List PyData} (n : Nat), DpAll K H vs ds → DpAll K H (vs.take n) (ds.take n)
  | _, _, 0, _ => .nil
  | _, _, n + 1, .nil => .nil
  | _, _, n + 1, .cons h t => .cons h (dpAll_take n t)
theorem dpAll_drop {K : PySem.W.Frag} {H : Hp} : ∀ {vs : List V} {ds : List PyData} (n : Nat), DpAll K H vs ds → DpAll K H (vs.drop n) (ds.drop n)
  | _, _, 0, h => h
  | _, _, n + 1, .nil => .nil
  | _, _, n + 1, .cons _ t => dpAll_drop n t
theorem De.slL {ds : List PyData} {tl th : TO} {lo hi : Option Int} (h : De te σ B (dat K (.list ds))) (h1 : Do tl σ B lo) (h2 : Do th σ B hi) : De (L2.tSl (rSlL K) te tl th) σ B (dat K (.list (cutA ds lo hi))) :=
  .sl h h1 h2 fun x B1 H s1 s2 hx Q q => by
    obtain ⟨a, xs, rfl, hs, hR⟩ := dat_lstR hx
    refine ⟨a, xs, rfl, s2.seq hs, fun p hp => q _ (upd B1 p (.lst (cutV xs lo hi))) _ (.new s2 hp) ?_⟩
    have g := allR_dp hR
    have len : xs.length = ds.length := dpAll_len g
    refine .lst (SqL.of upd_same) (dpMonoAll (new_same (s2.free hp)) _ _ ?_)
    unfold cutV cutA
    rw [len]
    exact dpAll_take _ (dpAll_drop _ g)
end
end Wv

set_option Elab.async false
set_option linter.all false
set_option maxRecDepth 100000
set_option maxHeartbeats 4000000
/-! Fm2: lists of texts and of lots: how they are sorted, shown, looked at. -/
namespace Fm
open PySem PySem.Spec PyProof.Rows L2 Wb Wv
theorem sortD_strs (zs : List Str) : ∃ ys : List Str, ys.Perm zs ∧ sortD (zs.map .str) = ys.map .str := by
  refine ⟨zs.mergeSort fun a b => dle (.str a) (.str b), List.mergeSort_perm _ _, ?_⟩
  unfold sortD
  rw [List.map_mergeSort (s := dle) (f := PyData.str) (fun a _ b _ => rfl)]
theorem alike_str (zs : List Str) : PySem.W.AllAlike (zs.map .str) := by
  intro d hd d' hd'
  obtain ⟨a, _, rfl⟩ := List.mem_map.mp hd
  obtain ⟨b, _, rfl⟩ := List.mem_map.mp hd'
  simp only [PySem.W.alike]
theorem sortok_str (zs : List Str) : PySem.W.SortOk (zs.map .str) := .inr fun d hd => by
  obtain ⟨a, _, rfl⟩ := List.mem_map.mp hd
  exact ⟨(fun z => nomatch z), (fun _ z => nomatch z)⟩
theorem depth_str (zs : List Str) : ∀ d ∈ zs.map PyData.str, d.depth ≤ 60 := fun d hd => by
  obtain ⟨a, _, rfl⟩ := List.mem_map.mp hd
  simp [PyData.depth]
theorem strs_vals {K : PySem.W.Frag} {B : Hp} : ∀ {zs : List Str} {xs : List V}, AllR ((zs.map PyData.str).map (dat K)) B xs → xs = zs.map V.str
  | [], _, h => h
  | z :: zs, _, h => by
    obtain ⟨v, r, rfl, h1, h2⟩ := h
    rw [dat_str h1, strs_vals h2]
    rfl
theorem strs_dpAll {K : PySem.W.Frag} {H : Hp} : ∀ zs : List Str, DpAll K H (zs.map V.str) (zs.map PyData.str)
  | [] => .nil
  | z :: zs => .cons (.str z) (strs_dpAll zs)
theorem tb_nm {n : Nat} {z : Str} (h : Nmk n z) : Tb 0 n (.str z) := tb_str (fun a ha => Nat.lt_trans (h.2 a ha) (by decide)) h.1
theorem sortD_lots (ls : List (List Str)) : ∃ ys : List (List Str), ys.Perm ls ∧ sortD (ls.map lotD) = ys.map lotD := by
  refine ⟨ls.mergeSort fun a b => dle (lotD a) (lotD b), List.mergeSort_perm _ _, ?_⟩
  unfold sortD
  rw [List.map_mergeSort (s := dle) (f := lotD) (fun a _ b _ => rfl)]
theorem subs_in {l a : List Str} (h : a ∈ subs l) : ∀ z ∈ a, z ∈ l := by
  suffices ∀ k, k ≤ l.length → ∀ a ∈ subs (l.take k), ∀ z ∈ a, z ∈ l from this l.length (Nat.le_refl _) a (by rw [List.take_length]; exact h)
  intro k
  induction k with
  | zero =>
    intro _ a ha z hz
    rw [List.take_zero] at ha
    have ha : a ∈ [[]] := ha
    rw [List.mem_singleton.mp ha] at hz
    cases hz
  | succ k ih =>
    intro hk a ha z hz
    have e : l.take (k + 1) = l.take k ++ [l[k]] := by rw [List.take_succ, List.getElem?_eq_getElem (by omega)]; rfl
    rw [e, subs_snoc] at ha
    rcases List.mem_append.mp ha with ha | ha
    · exact ih (by omega) a ha z hz
    · obtain ⟨b, hb, rfl⟩ := List.mem_map.mp ha
      rcases List.mem_append.mp hz with hz | hz
      · exact ih (by omega) b hb z hz
      · rw [List.mem_singleton.mp hz]
        exact List.getElem_mem _
theorem lay_lots : ∀ ls : List (List Str), (∀ l ∈ ls, ∀ z ∈ l, Nm z) → PyData.canLayAll0 (ls.map lotD) = true
  | [], _ => by simp [PyData.canLayAll0]
  | l :: ls, h => by
    rw [List.map_cons]
    simp only [PyData.canLayAll0, Bool.and_eq_true]
    exact ⟨by simp only [lotD, PyData.canLay0]; exact lay_strs (h l List.mem_cons_self), lay_lots ls fun a ha => h a (List.mem_cons_of_mem _ ha)⟩
theorem lay_rows : ∀ rs : List (List Int), PyData.canLayAll0 (rs.map rowD) = true
  | [] => by simp [PyData.canLayAll0]
  | l :: ls => by
    rw [List.map_cons]
    simp only [PyData.canLayAll0, Bool.and_eq_true]
    exact ⟨by simp only [rowD, PyData.canLay0]; exact lay_ints _, lay_rows ls⟩
theorem depth_rows : ∀ rs : List (List Int), PyData.depthAll (rs.map rowD) ≤ 1
  | [] => by simp [PyData.depthAll]
  | l :: ls => by
    have := depth_rows ls
    simp only [List.map_cons, PyData.depthAll, rowD, PyData.depth, depth_ints]
    omega
theorem shaped_rows (rs : List (List Int)) : SeqAt.shaped (rowsT rs) = true := by
  unfold SeqAt.shaped rowsT
  rw [Bool.and_eq_true]
  refine ⟨by simp only [PyData.canLay0]; exact lay_rows rs, decide_eq_true ?_⟩
  have := depth_rows rs
  simp only [PyData.depth]
  omega
theorem tb_lot {l : List Str} (h : ∀ z ∈ l, Nm z) (few : l.length ≤ 4) : Tb 1 84 (lotD l) := by
  refine ((TbAll.of (n := 0) (W := 20) (es := l.map .str) fun e he => ?_).tuple).more (Nat.le_refl _) ?_
  · obtain ⟨z, hz, rfl⟩ := List.mem_map.mp he
    exact tb_nm (h z hz)
  · rw [List.length_map]
    omega
theorem tb_row {r : List Int} (few : r.length ≤ 4) (h : ∀ i ∈ r, i.natAbs ≤ 100) : Tb 1 4 (rowD r) := by
  refine ((TbAll.of (n := 0) (W := 0) (es := r.map .int) fun e he => ?_).tuple).more (Nat.le_refl _) ?_
  · obtain ⟨i, hi, rfl⟩ := List.mem_map.mp he
    refine tb_int (Nat.lt_of_le_of_lt (h i hi) ?_)
    exact Nat.lt_of_lt_of_le (show 100 < 2 ^ 7 by decide) (Nat.pow_le_pow_right (by decide) (by decide))
  · rw [List.length_map]
    omega
/-- data that are texts -/
theorem strs_of {P : Str → Prop} : ∀ {ds : List PyData}, (∀ y ∈ ds, ∃ z, y = .str z ∧ P z) → ∃ zs : List Str, ds = zs.map .str ∧ ∀ z ∈ zs, P z
  | [], _ => ⟨[], rfl, fun z h => nomatch h⟩
  | d :: ds, h => by
    obtain ⟨z, rfl, hz⟩ := h d List.mem_cons_self
    obtain ⟨zs, rfl, hs⟩ := strs_of fun y hy => h y (List.mem_cons_of_mem _ hy)
    exact ⟨z :: zs, rfl, fun x hx => by
      rcases List.mem_cons.mp hx with rfl | hx
      · exact hz
      · exact hs x hx⟩
theorem each_mem {α : Type} {P : α → PyData → Prop} {as : List α} {ds : List PyData} (h : Each P as ds) : ∀ y ∈ ds, ∃ a ∈ as, P a y := fun y hy => by
  obtain ⟨i, hi, rfl⟩ := List.mem_iff_getElem.mp hy
  have ha : i < as.length := by rw [← h.1]; exact hi
  exact ⟨as[i], List.getElem_mem ha, h.2 i _ _ (List.getElem?_eq_getElem ha) (List.getElem?_eq_getElem hi)⟩
abbrev rJoin (K : PySem.W.Frag) : V → List V → Hp → VK → Prop := fun x xs H Q => ∃ a p, ∃ ys : List Str, x = .str a ∧ xs = [.ref p] ∧ (SqL K H p (ys.map V.str) ∨ SqT K H p (ys.map V.str)) ∧ (ys.map (·.length)).sum + ys.length * a.length ≤ 16777216 ∧ Q (.str (Txt.join a ys)) H
theorem pe_joinK {X : Cx} {K : PySem.W.Frag} {o e : Expr} {to te : TE} {apos pos : Pos} (hK : X.K = K) (ho : PE X o to) (he : PE X e te) (hs : starEach [e] X.env = [(false, eval e X.env)] := by rfl) (hbase : attributeBase o "join" X.env (eval o X.env) = eval o X.env := by rfl) (hline : (apos.endLine == pos.line) = true := by rfl) :
    PE X (.Call (.Attribute o "join" apos) [e] [] pos) (tM1 (rJoin K) to te) := by
  subst hK
  exact pe_join ho he hs hbase hline
section
variable {K : PySem.W.Frag} {σ : L2.St} {d c : Addr} {B : Hp} {te tf : TE} {E : XK} {i : Nat}
theorem Dw.ofTxt {z : Str} (hd : σ[i]? = some (some (.ref d))) (h : De te σ B (dat K (.str z))) (ne : 0 < z.length) (few : z.length ≤ 1000) : Dw (tCall (spOf K) [] E (tCons (tVar i) (tCons te tNil))) σ d c B (datP K fun x => ∃ a, x = .str ⟨#[a]⟩ ∧ a ∈ z.cps.toList) := fun B1 H s L Q k =>
  c_ofS L hd (h.mono s) ne few fun a B' H' ha e => k _ B' H' e ⟨_, ⟨a, rfl, ha⟩, .str _⟩
theorem De.join {sep : Str} {zs : List Str} (h1 : De te σ B (dat K (.str sep))) (h2 : De tf σ B (dat K (.list (zs.map .str)))) (hz : (zs.map (·.length)).sum + zs.length * sep.length ≤ 16777216) :
    De (tM1 (fun x xs H Q => ∃ a p, ∃ ys : List Str, x = .str a ∧ xs = [.ref p] ∧ (SqL K H p (ys.map V.str) ∨ SqT K H p (ys.map V.str)) ∧ (ys.map (·.length)).sum + ys.length * a.length ≤ 16777216 ∧ Q (.str (Txt.join a ys)) H) te tf) σ B (dat K (.str (Txt.join sep zs))) := fun B1 H s1 s2 Q q =>
  h1 B1 H s1 s2 _ fun x B2 H2 e hx => by
    have hx := dat_str hx
    subst hx
    refine ⟨⟨_, rfl⟩, h2 B2 H2 (s1.trans e.bb) e.bh _ fun y B3 H3 e3 hy => ?_⟩
    obtain ⟨p, xs, rfl, hs, hR⟩ := dat_lstR hy
    have ex := strs_vals (zs := zs) hR
    subst ex
    exact ⟨_, p, zs, rfl, rfl, .inl (e3.bh.seq hs), hz, q _ B3 H3 (e.trans e3) (.str _)⟩
end
end Fm

set_option Elab.async false
set_option linter.all false
set_option maxRecDepth 100000
set_option maxHeartbeats 4000000
/-! We0: == and != of instances by an own __eq__, whatever it answers. -/
namespace Wv
open PySem PySem.Spec PyProof.Rows L2 Wb
section
variable {P : Program} {w : World} {K : PySem.W.Frag} {mg : Str → Option Value} {base : Heap}
/-- the own == of the class at C -/
def CalE (P : Program) (w : World) (K : PySem.W.Frag) (mg : Str → Option Value) (base : Heap) (n : Nat) (C : Addr) (S : Sp) : Prop := ∃ (f : Addr) (fd : FuncData), FnOk P w K mg base CX0 n f fd ["self", "other"] S ∧ PySem.W.findIn K (.ref C) "__eq__" = some (some (.ref f)) ∧ PySem.W.isFn K (.ref f) = true ∧ Binds K fd ["self", "other"] []
/-- no own != -/
def NoNe (K : PySem.W.Frag) (C : Addr) : Prop := PySem.W.findIn K (.ref C) "__ne__" = some (some (.builtin "object.__ne__"))
def rEqI (C : Addr) (S : Sp) : R2 := fun x y H Q => ∃ a b dx dy fs gs, x = .ref a ∧ y = .ref b ∧ H a = some (.ins C dx fs) ∧ H b = some (.ins C dy gs) ∧ S [x, y] H (fun v H' => ∃ t, v = .bl t ∧ Q (.bl t) H') E0
def rNeI (C : Addr) (S : Sp) : R2 := fun x y H Q => ∃ a b dx dy fs gs, x = .ref a ∧ y = .ref b ∧ H a = some (.ins C dx fs) ∧ H b = some (.ins C dy gs) ∧ S [x, y] H (fun v H' => ∃ t, v = .bl t ∧ Q (.bl (!t)) H') E0
end
section
variable {X : Cx} {n : Nat} {C : Addr} {S : Sp}
/-- the own == runs -/
theorem eq_runs {A : Around} {pins : List (Addr × Obj)} {σ : L2.St} {H : Hp} {s : Shared} {a b f : Addr} {fd : FuncData} {G : Bool → Hp → Prop} {R : Value → Shared → Prop}
    (F : FnOk X.prog X.w X.K X.mg X.base CX0 n f fd ["self", "other"] S) (hb : Binds X.K fd ["self", "other"] []) (hr : Room n A) (hfr : A.frames = X.A.frames) (I : Inv X pins σ H s)
    (hs : S [.ref a, .ref b] H (fun v H' => ∃ t, v = .bl t ∧ G t H') E0) (k : ∀ t H' s', G t H' → Inv X pins σ H' s' → R (.bool t) s') :
    wpAny (model X.prog X.w) A (call (.ref f) [.ref a, .ref b]) R X.xe s := by
  have e0 : Env0 X.prog X.w X.K X.mg X.base A X.stack s H := by
    have e := I.env0
    exact ⟨by rw [hfr]; exact e.frames, e.mod, e.bs, e.bsz, e.funs, e.frf, e.hok, e.bare⟩
  have hl := F.len _ _ _ _ hs
  have r2 : Vals [V.ref a, V.ref b] [Value.ref a, Value.ref b] := .cons rfl (.cons rfl .nil)
  refine wpAny_call (codeAny_mono (F.run A X.stack s H ⟨[.ref a, .ref b], []⟩ [.ref a, .ref b] [.ref a, .ref b] _ E0 hr e0 (by
    have := hb s [.ref a, .ref b] I.kIn (by simpa using hl)
    simpa using this) r2 hs) fun r s' hq => ?_)
  cases r with
  | error e => exact pass0 (X := X) pins σ H s e s' I hq
  | ok fl =>
    cases fl with
    | ret w =>
      obtain ⟨z, H', I', rz, t, ez, g⟩ := I.after hq
      subst ez
      cases rz
      exact k t H' s' g I'
    | next => exact False.elim hq
    | brk => exact False.elim hq
    | cont => exact False.elim hq
theorem op_eqC (c : CalE X.prog X.w X.K X.mg X.base n C S) (hr : Room n X.A) : OpR X (compareOp .Eq) (rEqI C S) := by
  intro pins s σ H x y v u Q I rx ry hq
  obtain ⟨a, b, dx, dy, fs, gs, rfl, rfl, ha, hb', hS⟩ := hq
  obtain ⟨f, fd, F, hs, hf, hb⟩ := c
  cases rx
  cases ry
  obtain ⟨mA, J, _⟩ := ins_get I.hok ha
  obtain ⟨mB, J', _⟩ := ins_get I.hok hb'
  obtain ⟨od, J, _⟩ := J.look
  obtain ⟨od', J', _⟩ := J'.look
  obtain ⟨m, hF⟩ := I.fr
  show wpAny (model X.prog X.w) X.A (richCompare .Eq (.ref a) (.ref b)) (EP X pins σ Q) X.xe s
  refine PySem.W.cmp_K (op := .Eq) (tb := .ref C) hr.units0 hF I.ok.mod.kin J J'.type (by simp [PySem.W.notFirst]) hs hf ?_
  exact eq_runs F hb hr rfl I hS fun t H' s' g I' => ⟨.bl t, H', I', rfl, g⟩
/-- a builtin of the type object, looked up on an instance -/
theorem ifBound_B {M : Model} {A : Around} {E : Value → Shared → Prop} {s : Shared} {K : PySem.W.Frag} {x C : Addr} {ox : Obj} {od : Option Obj} {name : Str} {id : String} {args : List Value} {Q : Option Value → Shared → Prop} (Y : K.In s.heap) (I : PySem.W.InstAt s.heap x ox C od) (hs : PySem.W.findIn K (.ref C) name = some (some (.builtin id))) (hb : bindSpecial (.builtin id) (.ref x) = pure (.builtin id, [.ref x]))
    (h : wpAny M A (call (.builtin id) (.ref x :: args)) (fun v => Q (some v)) E s) : wpAny M A (callSpecialIfBound? (.ref x) name args) Q E s := by
  simp only [callSpecialIfBound?, bindSpecialIfBound?]
  refine wpAny_holding (wpAny_bind (wpAny_bind (wpAny_bind (I.type.here ((PySem.W.looks_findIn Y hs).here ?_)))))
  refine wpAny_bind (wpAny_askSetting (wpAny_ite ?_))
  have fin : wpAny M A (call (.builtin id) ([.ref x] ++ args) >>= fun v => pure (some v)) Q E s := wpAny_bind (wpAny_mono h (fun v s' h' => wpAny_pure h') fun _ _ h' => h')
  rw [hb]
  split
  · exact wpAny_bind (wpAny_pure (wpAny_pure (by exact fin)))
  · exact wpAny_tryCatch (wpAny_bind (wpAny_pure (wpAny_pure (by exact fin))))
theorem ne_bind (self : Value) : bindSpecial (.builtin "object.__ne__") self = pure (.builtin "object.__ne__", [self]) :=
  (Slot.of (T := "object") (name := "__ne__") (owner := "object") (n := "__ne__") (by rw [typeLookup_type, builtinLookup_eq_fast]; kernel_rfl) (by decide +kernel) (by decide +kernel) (by decide +kernel)
    (.inl (by decide +kernel)) (by rw [isSubtype_type]; kernel_rfl)).bind self
theorem ne_plain : plainId "object.__ne__" = true := by decide +kernel
theorem objNe_K {A : Around} {E : Value → Shared → Prop} {s : Shared} {prog : Program} {w : World} {K : PySem.W.Frag} {x C f b : Addr} {ox : Obj} {od : Option Obj} {Q : PySem.Fin → Shared → Prop} (hu : A.units < cLine) (Y : K.In s.heap) (I : PySem.W.InstAt s.heap x ox C od)
    (hs : PySem.W.findIn K (.ref C) "__eq__" = some (some (.ref f))) (hf : PySem.W.isFn K (.ref f) = true)
    (hcall : wpAny (model prog w) A (call (.ref f) [.ref x, .ref b]) (fun v s' => ∃ t, v = .bool t ∧ Q (.done (.ret (.bool (!t)))) s') E s) : wpAny (model prog w) A (Builtin.«object.__ne__» ⟨[.ref x, .ref b], []⟩) Q E s := by
  unfold Builtin.«object.__ne__»
  repeat (first
    | with_reducible refine wpAny_cRoomFor hu ?_
    | (refine wpAny_bind (m := callSpecialIfBound? (.ref x) (Str.ofString "__eq__") [.ref b])
        (PySem.W.ifBound_K Y I hs hf (wpAny_mono hcall (fun r s' hr => by
          obtain ⟨t, rfl, hq⟩ := hr
          repeat (first | exact hq | exact wpAny_pure hq | exact wpAny_truthy_bool hq | (refine wpAny_bind (m := truthy (.bool _)) (wpAny_truthy_bool ?_)) | wp_step)) fun _ _ e => e)))
    | wp_step)
/-- != by an own == alone -/
theorem cmp_KN {A : Around} {E : Value → Shared → Prop} {s : Shared} {prog : Program} {w : World} {K : PySem.W.Frag} {h₀ : Heap} {L : Addr} {m : Str → Option Value} {x C f b : Addr} {ox ob : Obj} {od od' : Option Obj} {Q : Value → Shared → Prop} (hu : A.units + 1 < cLine)
    (FR : Fr h₀ L s.heap m) (X₀ : K.In h₀) (I : PySem.W.InstAt s.heap x ox C od) (I' : PySem.W.InstAt s.heap b ob C od')
    (hn : PySem.W.findIn K (.ref C) "__ne__" = some (some (.builtin "object.__ne__"))) (ho : PySem.W.mroIn K C (.type "object") = some true)
    (hs : PySem.W.findIn K (.ref C) "__eq__" = some (some (.ref f))) (hf : PySem.W.isFn K (.ref f) = true)
    (h : wpAny (model prog w) A.in1 (call (.ref f) [.ref x, .ref b]) (fun v s' => ∃ t, v = .bool t ∧ Q (.bool (!t)) s') E s) : wpAny (model prog w) A (richCompare .NotEq (.ref x) (.ref b)) Q E s := by
  have Y := X₀.keeps FR.keep
  have sub : PySem.W.Looks (model prog w) s.heap (isInstance (.ref x) (.type "object")) true := I.type.andThen (PySem.W.looks_mroIn Y ho)
  have one : wpAny (model prog w) A (tryCompare (.ref x) "__ne__" (.ref b)) (fun r s' => ∃ v, r = some v ∧ Q v s') E s := by
    simp only [tryCompare]
    refine wpAny_bind (ifBound_B Y I hn (ne_bind _) (wpAny_call (codeAny_call_builtin ne_plain F.cmpEntry_ne (PySem.W.check_slot F.cmpKind_ne F.cmpSplit_ne sub (F.cmpArgs_ne _ _) ?_))))
    refine objNe_K (A := A.in1) hu Y I hs hf (wpAny_mono h (fun v s' hv => ?_) fun _ _ e => e)
    obtain ⟨t, rfl, hq⟩ := hv
    have hq : ∃ v, some (Value.bool !t) = some v ∧ Q v s' := ⟨_, rfl, hq⟩
    first | exact ⟨t, rfl, wpAny_pure hq⟩ | exact ⟨t, rfl, wpAny_pure (wpAny_pure hq)⟩ | exact ⟨t, rfl, hq⟩
  unfold richCompare
  simp only [oneThing_ref]
  refine wpAny_holding (wpAny_bind (wpAny_cRoomFor (Nat.lt_of_succ_lt hu) ?_))
  rw [cmpInfo_NotEq]
  dsimp only
  refine wpAny_bind (I.type.here (wpAny_bind (I'.type.here ?_)))
  rw [show (Value.ref C != Value.ref C) = false from by simp]
  simp only [Bool.false_eq_true, if_false]
  refine wpAny_bind (wpAny_pure ?_)
  simp only [Bool.false_eq_true, if_false]
  refine wpAny_bind (wpAny_mono one (fun r s' z => ?_) fun _ _ e => e)
  obtain ⟨v, rfl, hq⟩ := z
  exact wpAny_pure hq
theorem mro_obj {K : PySem.W.Frag} {C : Addr} (c : Cls K C) : PySem.W.mroIn K C (.type "object") = some true := by
  obtain ⟨cd, hc, ho⟩ := PySem.W.any_some c.po
  have ne : cd.mro.isEmpty = false := by
    cases q : cd.mro with
    | nil => rw [q] at ho; cases ho
    | cons _ _ => rfl
  unfold PySem.W.mroIn
  rw [hc, Option.bind_some, if_neg (by rw [ne]; decide), PySem.W.only_has ho]
theorem op_neC (c : CalE X.prog X.w X.K X.mg X.base n C S) (cl : Cls X.K C) (ne : NoNe X.K C) (hr : Room (n + 1) X.A) : OpR X (compareOp .NotEq) (rNeI C S) := by
  intro pins s σ H x y v u Q I rx ry hq
  obtain ⟨a, b, dx, dy, fs, gs, rfl, rfl, ha, hb', hS⟩ := hq
  obtain ⟨f, fd, F, hs, hf, hb⟩ := c
  cases rx
  cases ry
  obtain ⟨mA, J, _⟩ := ins_get I.hok ha
  obtain ⟨mB, J', _⟩ := ins_get I.hok hb'
  obtain ⟨od, J, _⟩ := J.look
  obtain ⟨od', J', _⟩ := J'.look
  obtain ⟨m, hF⟩ := I.fr
  show wpAny (model X.prog X.w) X.A (richCompare .NotEq (.ref a) (.ref b)) (EP X pins σ Q) X.xe s
  refine cmp_KN hr.in1.units0 hF I.ok.mod.kin J J' ne (mro_obj cl) hs hf ?_
  exact eq_runs (A := X.A.in1) F hb hr.in1 rfl I hS fun t H' s' g I' => ⟨t, rfl, .bl (!t), H', I', rfl, g⟩
end
section
variable {C : Addr} {B : Hp} {R R' : Rel} {α : Type} {args : α → List Rel} {pre : α → Prop} {res : α → Rel} {K : PySem.W.Frag}
/-- what is an instance of the class at C -/
class IsIns (C : Addr) (R : Rel) : Prop where
  ins : ∀ {B v}, R B v → ∃ a dx fs, v = .ref a ∧ B a = some (.ins C dx fs)
theorem Rv.eqIns [i : IsIns C R] [j : IsIns C R'] {t : Bool} (a : α) (hp : pre a) (ha : ∀ B x y, R B x → R' B y → AllR (args a) B [x, y]) (hr : res a = dat K (.bool t)) : Rv (rEqI C (Pf args pre res)) B R R' (dat K (.bool t)) := fun x y B1 H s1 s2 hx hy Q q => by
  obtain ⟨b, dx, fs, rfl, hb⟩ := i.ins hx
  obtain ⟨c, dy, gs, rfl, hc⟩ := j.ins hy
  refine ⟨b, c, dx, dy, fs, gs, rfl, rfl, s2 _ _ hb, s2 _ _ hc, B1, a, s2, ha _ _ _ hx hy, hp, fun v B' H' e hv => ?_⟩
  rw [hr] at hv
  have : v = .bl t := dat_bl hv
  exact ⟨t, this, q _ B' H' e (this ▸ hv)⟩
theorem Rv.neIns [i : IsIns C R] [j : IsIns C R'] {t : Bool} (a : α) (hp : pre a) (ha : ∀ B x y, R B x → R' B y → AllR (args a) B [x, y]) (hr : res a = dat K (.bool t)) : Rv (rNeI C (Pf args pre res)) B R R' (dat K (.bool (!t))) := fun x y B1 H s1 s2 hx hy Q q => by
  obtain ⟨b, dx, fs, rfl, hb⟩ := i.ins hx
  obtain ⟨c, dy, gs, rfl, hc⟩ := j.ins hy
  refine ⟨b, c, dx, dy, fs, gs, rfl, rfl, s2 _ _ hb, s2 _ _ hc, B1, a, s2, ha _ _ _ hx hy, hp, fun v B' H' e hv => ?_⟩
  rw [hr] at hv
  have : v = .bl t := dat_bl hv
  exact ⟨t, this, q _ B' H' e (.bl _)⟩
instance {C : Addr} {fs : List (Str × Rel)} : IsIns C (insR C fs) := ⟨fun ⟨a, dx, us, e, h, _⟩ => ⟨a, dx, us, e, h⟩⟩
end
end Wv

set_option Elab.async false
set_option linter.all false
set_option maxRecDepth 100000
set_option maxHeartbeats 4000000
/-! Wz0: sorted(d), d a dict whose keys are tuples of ints and texts. -/
namespace PySem.W
open PySem PySem.Calls PyProof.Rows PySem.SeqAt
section
variable {prog : Program} {w : World} {A : Around} {E : Value → Shared → Prop} {s : Shared}
theorem sorted_src {T : String} {r d : Addr} {n : Nat} {P : Nat → Value → Prop} {OK : Heap → Prop} (K : KdlSrc prog w T r d n P OK) (hh : A.handled = none) (hok : OK s.heap) (hn : n ≤ sizeLine) {Q : Value → Shared → Prop}
    (hQ : ∀ (h' : Heap) (tk : Nat) (acc : Array Value), (∀ b o, s.heap.get? b = some o → h'.get? b = some o) → ItemsOf P acc n → ∃ ds : List PyData,
      SortsAt prog w A.in1.in1 { s with heap := sortingHeap (h'.push (seqObj "list" acc.toList.toArray 0)) h'.objs.size acc.toList, toks := tk } (dataKind (sortingHeap (h'.push (seqObj "list" acc.toList.toArray 0)) h'.objs.size acc.toList) ds) acc.toList ∧
      Q (.ref h'.objs.size) { s with heap := sortedHeap (h'.push (seqObj "list" acc.toList.toArray 0)) h'.objs.size acc.toList (sortVals (dataKind (sortingHeap (h'.push (seqObj "list" acc.toList.toArray 0)) h'.objs.size acc.toList) ds) false acc.toList acc.toList).toArray, toks := tk }) :
    wpAny (model prog w) A (call (.builtin "sorted") [.ref r]) Q E s := by
  refine Calls.call_function_entry kind_sorted plain_sorted entry_sorted (args_sorted1 _) ?_
  unfold Builtin.«sorted»
  refine wpAny_bind (m := checkCount "sorted" 1 1 _) (wpAny_pure ?_)
  refine wpAny_bind (kdu_collect (A := A.in1) K hh hok hn fun h' tk acc hk hacc => ?_)
  obtain ⟨ds, S, q⟩ := hQ h' tk acc hk hacc
  have hl : acc.toList.length = n := by rw [Array.length_toList, hacc.1]
  refine wpAny_bind (wpAny_newList ?_ (by rw [hl]; exact hn))
  have hoL : (h'.push (seqObj "list" acc.toList.toArray 0)).get? h'.objs.size = some (seqObj "list" acc.toList.toArray 0) := Heap.get?_push_size _ rfl
  show wpAny _ _ _ _ _ { s with heap := h'.push (seqObj "list" acc.toList.toArray 0), toks := tk }
  refine wpAny_bind (wpAny_holding (wpAny_call_entry slot_list_sort ⟨_, hoL, rfl⟩ entry_list_sort ?body (args_list_sort _)))
  case body =>
    show wpAny (model prog w) A.in1.in1 (Builtin.«list.sort» ⟨[.ref h'.objs.size], []⟩) _ _ _
    exact list_sort_vals (s := { s with heap := h'.push (seqObj "list" acc.toList.toArray 0), toks := tk }) hoL S (by rw [hl]; exact hn) ⟨_, rfl, wpAny_pure ⟨_, rfl, q⟩⟩
end
end PySem.W
namespace Wb
open PySem PySem.Spec PyProof.Rows L2
def keyD1 : Key → PyData
  | .inl i => .int i
  | .inr z => .str z
def keyDt (ks : List Key) : PyData := .tuple (ks.map keyD1)
def rSortedDT (K : PySem.W.Frag) : List V → Hp → VK → Prop := fun vs H Q => ∃ (d : Addr) (kvs : List (List Key × V)), vs = [.ref d] ∧ Rd H d (.dT kvs) ∧ PySem.W.AllAlike (kvs.map fun kv => keyDt kv.1) ∧
  ∀ p bs, H p = none → IsKeys H kvs bs → DpAll K H (bs.map V.ref) (kvs.map fun kv => keyDt kv.1) → Q (.ref p) (upd H p (.lst (sortV (bs.map V.ref) (kvs.map fun kv => keyDt kv.1))))
theorem dp_key {K : PySem.W.Frag} {H : Hp} : ∀ ks : List Key, DpAll K H (ks.map kV) (ks.map keyD1)
  | [] => .nil
  | .inl i :: ks => .cons (.int i) (dp_key ks)
  | .inr z :: ks => .cons (.str z) (dp_key ks)
theorem dp_keys {K : PySem.W.Frag} {H : Hp} {kvs : List (List Key × V)} {bs : List Addr} (h : IsKeys H kvs bs) : DpAll K H (bs.map V.ref) (kvs.map fun kv => keyDt kv.1) := by
  unfold IsKeys at h
  induction h with
  | nil => exact .nil
  | cons h t ih => exact .cons (.tup (SqT.of h) (dp_key _)) ih
theorem depth_key (ks : List Key) : (keyDt ks).depth ≤ 2 := by
  have h : ∀ ks : List Key, PyData.depthAll (ks.map keyD1) ≤ 1 := fun ks => by
    induction ks with
    | nil => exact Nat.zero_le _
    | cons k ks ih =>
      rw [List.map_cons]
      show max (keyD1 k).depth (PyData.depthAll (ks.map keyD1)) ≤ 1
      cases k with
      | inl i => exact Nat.max_le.mpr ⟨by simp [keyD1, PyData.depth], ih⟩
      | inr z => exact Nat.max_le.mpr ⟨by simp [keyD1, PyData.depth], ih⟩
  have := h ks
  unfold keyDt
  simp only [PyData.depth]
  omega
section
variable {X : Cx}
theorem cr_sortedDT (hc : X.calm = true) (hu : X.A.units + 64 < cLine) : CallR X (.builtin "sorted") (rSortedDT X.K) := by
  intro pins s σ H xs us Q I r h
  obtain ⟨d, kvs, rfl, hd, hal, q⟩ := h
  obtain ⟨u, rfl, rx⟩ := r.one
  cases rx
  obtain ⟨z, hs, ks, pr, o, es, ep, ho, hx, hdt, he, hn⟩ := (show ObjOk X.prog X.w H s.heap d (.dT kvs) from hd.ok I.hok)
  have l1 : es.size = ks.length := size_of_entries he
  have l2 : kvs.length = ks.length := Paired.length pr
  refine PySem.W.sorted_src (kdl_raw hs hx hdt) (I.ok.hd hc) ho (by omega) fun h' tk acc kp it => ?_
  have ea : acc.toList = ks.map fun x => Value.ref x.2.1 := by
    have hl : acc.toList.length = ks.length := by rw [Array.length_toList, it.1]; exact l1
    apply List.ext_getElem?
    intro j
    rw [List.getElem?_map]
    cases hj : acc.toList[j]? with
    | none =>
      have h1 := List.getElem?_eq_none_iff.mp hj
      rw [List.getElem?_eq_none (by omega)]
      all_goals rfl
    | some v =>
      obtain ⟨en, hen, hv⟩ := it.2 j v (by rw [← Array.getElem?_toList]; exact hj)
      have qe := entry_at he j
      rw [hen] at qe
      cases hb : ks[j]? with
      | none =>
        rw [hb] at qe
        exact nomatch (show some en = none from qe)
      | some b =>
        rw [hb] at qe
        have e2 : en = entryOfKey (tupleKind (mixKind X.prog X.w)) b := Option.some.inj qe
        rw [hv, e2]
        all_goals rfl
  have eb : acc.toList = (ks.map fun x => x.2.1).map Value.ref := by rw [ea, List.map_map]; all_goals rfl
  have rv : Vals ((ks.map fun x => x.2.1).map V.ref) acc.toList := by rw [eb]; exact vals_refs _
  have ik : IsKeys H kvs (ks.map fun x => x.2.1) := isKeys_of pr
  generalize ks.map (fun x => x.2.1) = bs at eb rv ik
  have hdp : DpAll X.K H (bs.map V.ref) (kvs.map fun kv => keyDt kv.1) := dp_keys ik
  have len := dpAll_len hdp
  have em : ((bs.map V.ref).zip (kvs.map fun kv => keyDt kv.1)).map Prod.snd = kvs.map fun kv => keyDt kv.1 := zip_snd len
  have I1 : Inv X pins σ H { s with heap := h', toks := tk } := I.kept kp
  have e := each_pairs I1 rv hdp
  have hoL : (h'.push (seqObj "list" acc.toList.toArray 0)).get? h'.objs.size = some (seqObj "list" acc.toList.toArray 0) := Heap.get?_push_size _ rfl
  have old : ∀ b u, h'.get? b = some u → (PySem.W.sortingHeap (h'.push (seqObj "list" acc.toList.toArray 0)) h'.objs.size acc.toList).get? b = some u := fun b u hb =>
    PySem.W.sortingHeap_old (Nat.ne_of_lt (Heap.lt_size hb)) (Heap.get?_push_of_some _ hb)
  have er : PySem.W.EachIs (fun (v : Value) (b : V × PyData) => ∃ as, Reads (PySem.W.sortingHeap (h'.push (seqObj "list" acc.toList.toArray 0)) h'.objs.size acc.toList) v b.2 as) acc.toList ((bs.map V.ref).zip (kvs.map fun kv => keyDt kv.1)) :=
    e.mono fun v b h => by
      obtain ⟨as, rr⟩ := Dp.reads I1 b.2 b.1 v h.2 h.1
      exact ⟨as, PyProof.Rows.Reads.keeps old rr⟩
  refine ⟨((bs.map V.ref).zip (kvs.map fun kv => keyDt kv.1)).map Prod.snd, PySem.W.SortsAt.ok (PySem.W.each_map (R := fun v d => ∃ as, Reads (PySem.W.sortingHeap (h'.push (seqObj "list" acc.toList.toArray 0)) h'.objs.size acc.toList) v d as) Prod.snd er) (by rw [em]; exact hal) (.inl ?_) (PySem.W.bound_map ?_), ?_⟩
  · intro d hd
    rw [em] at hd
    obtain ⟨kv, _, rfl⟩ := List.mem_map.mp hd
    exact ⟨_, rfl⟩
  · intro b hb
    have hb := (List.of_mem_zip hb).2
    obtain ⟨kv, _, e⟩ := List.mem_map.mp hb
    have := depth_key kv.1
    rw [← e]
    show X.A.units + 1 + 1 + (keyDt kv.1).depth < cLine
    omega
  · have eo := PySem.W.sortVals_data false e er (by rw [em]; exact hal)
    obtain ⟨o1, o2⟩ := pairs_out eo
    obtain ⟨c, hcc⟩ := PyProof.Rows.sortedHeap_at (vs := acc.toList) (out := (PySem.W.sortVals (PySem.W.dataKind (PySem.W.sortingHeap (h'.push (seqObj "list" acc.toList.toArray 0)) h'.objs.size acc.toList) (((bs.map V.ref).zip (kvs.map fun kv => keyDt kv.1)).map Prod.snd)) false acc.toList acc.toList).toArray) hoL
    have ln : (sortV (bs.map V.ref) (kvs.map fun kv : List Key × V => keyDt kv.1)).length ≤ sizeLine := by
      unfold sortV
      rw [List.length_map, List.length_mergeSort, List.length_zip, len, Nat.min_self, List.length_map]
      omega
    have o1 : Vals (sortV (bs.map V.ref) (kvs.map fun kv : List Key × V => keyDt kv.1)) _ := o1
    refine ⟨.ref h'.objs.size, upd H h'.objs.size (.lst (sortV (bs.map V.ref) (kvs.map fun kv : List Key × V => keyDt kv.1))), I1.laid (t' := tk) (fun b u e => ?_) (Nat.le_refl _) ⟨ln, _, c, o1, hcc⟩, rfl, q _ bs (I1.hok.fresh (Nat.le_refl _)) ik hdp⟩
    have hlt := Heap.lt_size e
    rw [PyProof.Rows.sortedHeap_old (Nat.ne_of_lt hlt) (by rw [size_push']; exact Nat.lt_succ_of_lt hlt)]
    exact Heap.get?_push_of_some _ e
end
end Wb

set_option Elab.async false
set_option linter.all false
set_option maxRecDepth 100000
set_option maxHeartbeats 4000000
/-! Wz1: dicts whose keys are tuples of ints and texts, written ones and built ones alike. -/
namespace Wb
open PySem PySem.Spec PyProof.Rows L2
abbrev FK (P : Program) (w : World) : HeapKind P w (List Key) := tupleKind (mixKind P w)
/-- an entry: its key, where the key stands, its value -/
abbrev En := List Key × Addr × V
def UV : List En → List (List Key × Addr × Value) → Prop := Paired fun p q => p.1 = q.1 ∧ p.2.1 = q.2.1 ∧ RelV p.2.2 q.2.2
def DicH (P : Program) (w : World) (a : Addr) (kvs : List En) (h : Heap) : Prop := kvs.length ≤ sizeLine ∧ (a == sysModules) = false ∧ ∃ us, UV kvs us ∧ ∃ o es ep, h.get? a = some o ∧ o.ExactDict ∧ o.data = .dict es ep ∧ es.toList = us.map (entryOfKey (FK P w)) ∧ (us.map (·.1)).Nodup
/-- the dict at a -/
def DicO (P : Program) (w : World) (a : Addr) (kvs : List En) : HO := .ext (DicH P w a kvs)
def KeyAt (K : PySem.W.Frag) (H : Hp) (k : List Key) (b : Addr) : Prop := SqT K H b (k.map kV)
def KeysAt (K : PySem.W.Frag) (H : Hp) (kvs : List En) : Prop := ∀ p ∈ kvs, KeyAt K H p.1 p.2.1
def atH (kvs : List En) (k : List Key) : Option V := (kvs.find? fun p => decide (p.1 = k)).map (·.2.2)
def putH (kvs : List En) (k : List Key) (b : Addr) (v : V) : List En := if (atH kvs k).isSome = true then kvs.map (fun p => if p.1 = k then (p.1, p.2.1, v) else p) else kvs ++ [(k, b, v)]
theorem dic_new {P : Program} {w : World} {H : Hp} {h : Heap} {a : Addr} {kvs : List En} (R : DicH P w a kvs h) : ObjOk P w H h a (DicO P w a kvs) := by
  have ⟨_, _, _, _, o, _, _, ho, _⟩ := R
  refine ⟨R, ⟨o, ho⟩, fun h1 h2 p k => ?_⟩
  obtain ⟨z, y, us, r, o, es, ep, ho, c⟩ := p
  exact ⟨z, y, us, r, o, es, ep, k o ho, c⟩
theorem UV.at_ {kvs : List En} {us : List (List Key × Addr × Value)} (r : UV kvs us) (k : List Key) : RelO (atH kvs k) ((atKey us k).map (·.2)) := by
  unfold UV at r
  induction r with
  | nil => exact True.intro
  | @cons p q ps qs h t ih =>
    obtain ⟨h1, _, h2⟩ := h
    by_cases e : p.1 = k
    · have e' : q.1 = k := h1.symm.trans e
      have b : atKey (q :: qs) k = some q.2 := by simp [atKey, List.find?_cons, e']
      have c : atH (p :: ps) k = some p.2.2 := by simp [atH, List.find?_cons, e]
      rw [c, b]
      exact h2
    · have e' : ¬ q.1 = k := fun z => e (h1.trans z)
      have b : atKey (q :: qs) k = atKey qs k := by simp [atKey, List.find?_cons, e']
      have c : atH (p :: ps) k = atH ps k := by simp [atH, List.find?_cons, e]
      rw [c, b]
      exact ih
theorem UV.repl {kvs : List En} {us : List (List Key × Addr × Value)} (r : UV kvs us) (k : List Key) {y : V} {u : Value} (ry : RelV y u) :
    UV (kvs.map fun p => if p.1 = k then (p.1, p.2.1, y) else p) (us.map (putAt k u)) := by
  unfold UV at *
  induction r with
  | nil => exact .nil
  | @cons p q ps qs h t ih =>
    rw [List.map_cons, List.map_cons]
    refine .cons ?_ ih
    obtain ⟨h1, h2, h3⟩ := h
    unfold putAt
    by_cases e : p.1 = k
    · rw [if_pos e, if_pos (h1.symm.trans e)]
      exact ⟨h1, h2, ry⟩
    · rw [if_neg e, if_neg (fun z => e (h1.trans z))]
      exact ⟨h1, h2, h3⟩
theorem UV.put {kvs : List En} {us : List (List Key × Addr × Value)} (r : UV kvs us) (k : List Key) {b : Addr} {y : V} {u : Value} (ry : RelV y u) : UV (putH kvs k b y) (storedH us k b u) := by
  have e : (atH kvs k).isSome = (atKey us k).isSome := by rw [(r.at_ k).isSome_eq, Option.isSome_map]
  unfold putH storedH
  rw [e]
  by_cases q : (atKey us k).isSome = true
  · rw [if_pos q, if_pos q]
    exact r.repl k ry
  · rw [if_neg q, if_neg q]
    exact Paired.snoc r ⟨rfl, rfl, ry⟩
theorem len_putH (kvs : List En) (k : List Key) (b : Addr) (v : V) : (putH kvs k b v).length ≤ kvs.length + 1 := by
  unfold putH
  split
  · rw [List.length_map]
    omega
  · simp
theorem KeyAt.same {K : PySem.W.Frag} {H H' : Hp} {k : List Key} {b : Addr} (h : KeyAt K H k b) (s : ∀ a o, H a = some o → H' a = some o) : KeyAt K H' k b := seqT s h
section
variable {X : Cx} {pins : List (Addr × Obj)} {σ : L2.St} {H : Hp} {s : Shared} {a b : Addr} {kvs : List En} {k : List Key} {A : Around} {E : Value → Shared → Prop}
theorem key_is (I : Inv X pins σ H s) (h : KeyAt X.K H k b) : (FK X.prog X.w).is s.heap k b := by
  obtain ⟨its, rv, hT, _⟩ := I.tuple h
  obtain ⟨o, h1, h2, n, h3⟩ := hT
  exact ⟨o, its.toArray, n, h1, h2, h3, by simpa using items_are rv⟩
theorem dic_of (I : Inv X pins σ H s) (ha : H a = some (DicO X.prog X.w a kvs)) (hk : KeysAt X.K H kvs) : kvs.length ≤ sizeLine ∧ (a == sysModules) = false ∧ ∃ us, UV kvs us ∧ s.heap.DictOfH (FK X.prog X.w) a us := by
  obtain ⟨z, y, us, r, o, es, ep, h1, h2, h3, h4, h5⟩ := (I.hok a _ ha).1
  refine ⟨z, y, us, r, o, es, ep, h1, h2, h3, h4, fun x hx => ?_, h5⟩
  have all : ∀ {l : List En} {m : List (List Key × Addr × Value)}, UV l m → (∀ p ∈ l, KeyAt X.K H p.1 p.2.1) → ∀ x ∈ m, (FK X.prog X.w).is s.heap x.1 x.2.1 := by
    intro l m q hl
    unfold UV at q
    induction q with
    | nil => intro x hx; exact nomatch hx
    | @cons p q ps qs hq t ih =>
      intro x hx
      rcases List.mem_cons.mp hx with e | hx
      · subst e
        rw [← hq.1, ← hq.2.1]
        exact key_is I (hl p List.mem_cons_self)
      · exact ih (fun p hp => hl p (List.mem_cons_of_mem _ hp)) x hx
  exact all r hk x hx
/-- d[y] = v -/
theorem h_setItem {v : V} {r : Value} {Q : Unit → Shared → Prop} (hu : A.units + 1 < cLine) (I : Inv X pins σ H s) (ha : H a = some (DicO X.prog X.w a kvs)) (hk : KeysAt X.K H kvs) (hb : KeyAt X.K H k b) (few : kvs.length < sizeLine) (rv : RelV v r)
    (h : ∀ s', Inv X pins σ (upd H a (DicO X.prog X.w a (putH kvs k b v))) s' → Q () s') : wpAny (model X.prog X.w) A (setItem (.ref a) (.ref b) r) Q E s := by
  obtain ⟨z, hd, us, rel, dd⟩ := dic_of I ha hk
  have hz : us.length ≤ sizeLine := by rw [← Paired.length rel]; exact z
  have hl : (putH kvs k b v).length ≤ sizeLine := by have := len_putH kvs k b v; omega
  refine wpAny_setItem_heap (hsz := hz) (tupleKind_room_in1 hu) (key_is I hb) dd fun h' dd' hs => h _ ?_
  obtain ⟨q, es, ep, hq, h2, h3, h4, _, h5⟩ := dd'
  exact d_write I (by rw [ha]; exact True.intro) hs ⟨q, hq⟩ (dic_new ⟨hl, hd, _, rel.put k rv, q, es, ep, hq, h2, h3, h4, h5⟩)
theorem h_getItem {v : V} {Q : Value → Shared → Prop} (hu : A.units + 1 < cLine) (I : Inv X pins σ H s) (ha : H a = some (DicO X.prog X.w a kvs)) (hk : KeysAt X.K H kvs) (hb : KeyAt X.K H k b) (l : atH kvs k = some v)
    (h : ∀ w' s', Inv X pins σ H s' → RelV v w' → Q w' s') : wpAny (model X.prog X.w) A (getItem (.ref a) (.ref b)) Q E s := by
  obtain ⟨z, hd, us, rel, dd⟩ := dic_of I ha hk
  obtain ⟨w', hw, rw'⟩ := RelO.some_of (v := v) (o := (atKey us k).map (·.2)) (by rw [← l]; exact rel.at_ k)
  obtain ⟨p, hp, hp2⟩ := Option.map_eq_some_iff.mp hw
  refine wpAny_getItem_heap (tupleKind_room_in1 hu) (key_is I hb) dd hp ?_
  rw [hp2]
  exact h w' _ (I.tok _) rw'
theorem h_in {Q : Value → Shared → Prop} (hu : A.units + 1 < cLine) (I : Inv X pins σ H s) (ha : H a = some (DicO X.prog X.w a kvs)) (hk : KeysAt X.K H kvs) (hb : KeyAt X.K H k b) (h : ∀ s', Inv X pins σ H s' → Q (.bool (atH kvs k).isSome) s') :
    wpAny (model X.prog X.w) A (compareOp .In (.ref b) (.ref a)) Q E s := by
  obtain ⟨z, hd, us, rel, dd⟩ := dic_of I ha hk
  refine wpAny_in_heap (tupleKind_room_in1 hu) (key_is I hb) hd dd ?_
  have q := (rel.at_ k).isSome_eq
  rw [Option.isSome_map] at q
  rw [← q]
  exact h _ (I.tok _)
theorem h_notIn {Q : Value → Shared → Prop} (hu : A.units + 1 < cLine) (I : Inv X pins σ H s) (ha : H a = some (DicO X.prog X.w a kvs)) (hk : KeysAt X.K H kvs) (hb : KeyAt X.K H k b) (h : ∀ s', Inv X pins σ H s' → Q (.bool (!(atH kvs k).isSome)) s') :
    wpAny (model X.prog X.w) A (compareOp .NotIn (.ref b) (.ref a)) Q E s := by
  obtain ⟨z, hd, us, rel, dd⟩ := dic_of I ha hk
  refine wpAny_notIn_heap (tupleKind_room_in1 hu) (key_is I hb) hd dd ?_
  have q := (rel.at_ k).isSome_eq
  rw [Option.isSome_map] at q
  rw [← q]
  exact h _ (I.tok _)
end
/-! ### as rules -/
/-- {} -/
def tHNew (P : Program) (w : World) : TE := fun _ H Q => ∀ p, H p = none → Q (.ref p) (upd H p (DicO P w p []))
/-- d[y] = v -/
def sHPut (K : PySem.W.Frag) (P : Program) (w : World) (td ty tv : TE) : TS := fun D σ H => tv σ H fun v H1 => td σ H1 fun x H2 => ty σ H2 fun y H3 => ∃ a b kvs k, x = .ref a ∧ y = .ref b ∧ H3 a = some (DicO P w a kvs) ∧ KeysAt K H3 kvs ∧ KeyAt K H3 k b ∧ kvs.length < sizeLine ∧ D.nx σ (upd H3 a (DicO P w a (putH kvs k b v)))
/-- y in d, y not in d -/
def rHIn (K : PySem.W.Frag) (P : Program) (w : World) (neg : Bool) : R2 := fun y x H Q => ∃ a b kvs k, x = .ref a ∧ y = .ref b ∧ H a = some (DicO P w a kvs) ∧ KeysAt K H kvs ∧ KeyAt K H k b ∧ Q (.bl (if neg = true then !(atH kvs k).isSome else (atH kvs k).isSome)) H
section
variable {X : Cx} {o i e value : Expr} {pos pos' : Pos} {td ty tv : TE}
theorem pe_hnew : PE X (.Dict [] [] pos) (tHNew X.prog X.w) := ⟨fun pins s σ H Q I h =>
  wpAny_Dict_empty ⟨.ref s.heap.objs.size, _, I.laid (a := s.heap.objs.size) (o := DicO X.prog X.w s.heap.objs.size []) (t' := s.toks) (fun _ _ q => Heap.get?_push_of_some _ q) (Nat.le_refl _)
    (dic_new ⟨Nat.zero_le _, beq_eq_false_iff_ne.mpr (Ne.symm (Nat.ne_of_lt I.big)), [], .nil, _, #[], 0, Heap.get?_push_size _ rfl, ⟨rfl, rfl, rfl⟩, rfl, rfl, List.nodup_nil⟩), rfl, h _ (I.hok.fresh (Nat.le_refl _))⟩⟩
theorem ps_hput (hu : X.A.units + 1 < cLine) (ho : PE X o td) (hi : PE X i ty) (hv : PE X value tv) (hs : swapsWith value (some (.Subscript o i pos')) pos.line X.env = pure false) :
    PS X (.Assign [.Subscript o i pos'] value pos) (sHPut X.K X.prog X.w td ty tv) := by
  refine ⟨fun pins s σ H D I h => ?_⟩
  refine wpAny_Assign_Subscript (thn (hv.run pins s σ H _ I h) fun r s1 ⟨v, H1, I1, rv, q1⟩ => thn (ho.run pins s1 σ H1 _ I1 q1) fun u s2 ⟨x, H2, I2, rx, q2⟩ => thn (hi.run pins s2 σ H2 _ I2 q2) fun iv s3 ⟨y, H3, I3, ry, a, b, kvs, k, ex, ey, ha, hk, hb, few, q3⟩ => ?_) hs
  subst ex ey
  obtain rfl : u = Value.ref a := rx
  obtain rfl : iv = Value.ref b := ry
  exact h_setItem hu I3 ha hk hb few rv fun s4 I4 => ⟨σ, _, I4, q3⟩
theorem op_hin (hu : X.A.units + 1 < cLine) : OpR X (compareOp .In) (rHIn X.K X.prog X.w false) := by
  intro pins s σ H x y v u Q I rx ry h
  obtain ⟨a, b, kvs, k, rfl, rfl, ha, hk, hb, q⟩ := h
  cases rx
  cases ry
  exact h_in hu I ha hk hb fun s' I' => ⟨.bl (atH kvs k).isSome, H, I', rfl, q⟩
theorem op_hnotIn (hu : X.A.units + 1 < cLine) : OpR X (compareOp .NotIn) (rHIn X.K X.prog X.w true) := by
  intro pins s σ H x y v u Q I rx ry h
  obtain ⟨a, b, kvs, k, rfl, rfl, ha, hk, hb, q⟩ := h
  cases rx
  cases ry
  exact h_notIn hu I ha hk hb fun s' I' => ⟨.bl (!(atH kvs k).isSome), H, I', rfl, q⟩
end
/-! ### sorted -/
def rSortedH (K : PySem.W.Frag) (P : Program) (w : World) : List V → Hp → VK → Prop := fun vs H Q => ∃ (d : Addr) (kvs : List En), vs = [.ref d] ∧ H d = some (DicO P w d kvs) ∧ KeysAt K H kvs ∧ PySem.W.AllAlike (kvs.map fun kv => keyDt kv.1) ∧
  ∀ p, H p = none → Q (.ref p) (upd H p (.lst (sortV (kvs.map fun e => V.ref e.2.1) (kvs.map fun kv => keyDt kv.1))))
theorem uv_addrs {kvs : List En} {us : List (List Key × Addr × Value)} (r : UV kvs us) : us.map (fun x => x.2.1) = kvs.map fun e => e.2.1 := by
  unfold UV at r
  induction r with
  | nil => rfl
  | cons h t ih => rw [List.map_cons, List.map_cons, ih, h.2.1]
theorem dp_ens {K : PySem.W.Frag} {H : Hp} : ∀ {kvs : List En}, KeysAt K H kvs → DpAll K H (kvs.map fun e => V.ref e.2.1) (kvs.map fun kv => keyDt kv.1)
  | [], _ => .nil
  | p :: kvs, h => .cons (.tup (h p List.mem_cons_self) (dp_key _)) (dp_ens fun q hq => h q (List.mem_cons_of_mem _ hq))
section
variable {X : Cx}
theorem cr_sortedH (hc : X.calm = true) (hu : X.A.units + 64 < cLine) : CallR X (.builtin "sorted") (rSortedH X.K X.prog X.w) := by
  intro pins s σ H xs us Q I r h
  obtain ⟨d, kvs, rfl, hd, hka, hal, q⟩ := h
  obtain ⟨u, rfl, rx⟩ := r.one
  cases rx
  obtain ⟨z, hs, ks, pr, o, es, ep, ho, hx, hdt, he, hn⟩ := (I.hok d _ hd).1
  have l1 : es.size = ks.length := size_of_entries he
  have l2 : kvs.length = ks.length := Paired.length pr
  refine PySem.W.sorted_src (kdl_raw hs hx hdt) (I.ok.hd hc) ho (by omega) fun h' tk acc kp it => ?_
  have ea : acc.toList = ks.map fun x => Value.ref x.2.1 := by
    have hl : acc.toList.length = ks.length := by rw [Array.length_toList, it.1]; exact l1
    apply List.ext_getElem?
    intro j
    rw [List.getElem?_map]
    cases hj : acc.toList[j]? with
    | none =>
      have h1 := List.getElem?_eq_none_iff.mp hj
      rw [List.getElem?_eq_none (by omega)]
      all_goals rfl
    | some v =>
      obtain ⟨en, hen, hv⟩ := it.2 j v (by rw [← Array.getElem?_toList]; exact hj)
      have qe := entry_at he j
      rw [hen] at qe
      cases hb : ks[j]? with
      | none =>
        rw [hb] at qe
        exact nomatch (show some en = none from qe)
      | some b =>
        rw [hb] at qe
        have e2 : en = entryOfKey (FK X.prog X.w) b := Option.some.inj qe
        rw [hv, e2]
        all_goals rfl
  have eb : acc.toList = (ks.map fun x => x.2.1).map Value.ref := by rw [ea, List.map_map]; all_goals rfl
  have rv : Vals ((ks.map fun x => x.2.1).map V.ref) acc.toList := by rw [eb]; exact vals_refs _
  have ik : ks.map (fun x => x.2.1) = kvs.map fun e => e.2.1 := uv_addrs pr
  rw [ik] at eb rv
  generalize hbs : kvs.map (fun e => e.2.1) = bs at eb rv
  have hbs' : bs.map V.ref = kvs.map fun e => V.ref e.2.1 := by rw [← hbs, List.map_map]; rfl
  have hdp : DpAll X.K H (bs.map V.ref) (kvs.map fun kv => keyDt kv.1) := by rw [hbs']; exact dp_ens hka
  have len := dpAll_len hdp
  have em : ((bs.map V.ref).zip (kvs.map fun kv => keyDt kv.1)).map Prod.snd = kvs.map fun kv => keyDt kv.1 := zip_snd len
  have I1 : Inv X pins σ H { s with heap := h', toks := tk } := I.kept kp
  have e := each_pairs I1 rv hdp
  have hoL : (h'.push (seqObj "list" acc.toList.toArray 0)).get? h'.objs.size = some (seqObj "list" acc.toList.toArray 0) := Heap.get?_push_size _ rfl
  have old : ∀ b u, h'.get? b = some u → (PySem.W.sortingHeap (h'.push (seqObj "list" acc.toList.toArray 0)) h'.objs.size acc.toList).get? b = some u := fun b u hb =>
    PySem.W.sortingHeap_old (Nat.ne_of_lt (Heap.lt_size hb)) (Heap.get?_push_of_some _ hb)
  have er : PySem.W.EachIs (fun (v : Value) (b : V × PyData) => ∃ as, Reads (PySem.W.sortingHeap (h'.push (seqObj "list" acc.toList.toArray 0)) h'.objs.size acc.toList) v b.2 as) acc.toList ((bs.map V.ref).zip (kvs.map fun kv => keyDt kv.1)) :=
    e.mono fun v b h => by
      obtain ⟨as, rr⟩ := Dp.reads I1 b.2 b.1 v h.2 h.1
      exact ⟨as, PyProof.Rows.Reads.keeps old rr⟩
  refine ⟨((bs.map V.ref).zip (kvs.map fun kv => keyDt kv.1)).map Prod.snd, PySem.W.SortsAt.ok (PySem.W.each_map (R := fun v d => ∃ as, Reads (PySem.W.sortingHeap (h'.push (seqObj "list" acc.toList.toArray 0)) h'.objs.size acc.toList) v d as) Prod.snd er) (by rw [em]; exact hal) (.inl ?_) (PySem.W.bound_map ?_), ?_⟩
  · intro d hd
    rw [em] at hd
    obtain ⟨kv, _, rfl⟩ := List.mem_map.mp hd
    exact ⟨_, rfl⟩
  · intro b hb
    have hb := (List.of_mem_zip hb).2
    obtain ⟨kv, _, e⟩ := List.mem_map.mp hb
    have := depth_key kv.1
    rw [← e]
    show X.A.units + 1 + 1 + (keyDt kv.1).depth < cLine
    omega
  · have eo := PySem.W.sortVals_data false e er (by rw [em]; exact hal)
    obtain ⟨o1, o2⟩ := pairs_out eo
    obtain ⟨c, hcc⟩ := PyProof.Rows.sortedHeap_at (vs := acc.toList) (out := (PySem.W.sortVals (PySem.W.dataKind (PySem.W.sortingHeap (h'.push (seqObj "list" acc.toList.toArray 0)) h'.objs.size acc.toList) (((bs.map V.ref).zip (kvs.map fun kv => keyDt kv.1)).map Prod.snd)) false acc.toList acc.toList).toArray) hoL
    have ln : (sortV (bs.map V.ref) (kvs.map fun kv : En => keyDt kv.1)).length ≤ sizeLine := by
      unfold sortV
      rw [List.length_map, List.length_mergeSort, List.length_zip, len, Nat.min_self, List.length_map]
      omega
    have o1 : Vals (sortV (bs.map V.ref) (kvs.map fun kv : En => keyDt kv.1)) _ := o1
    refine ⟨.ref h'.objs.size, upd H h'.objs.size (.lst (sortV (bs.map V.ref) (kvs.map fun kv : En => keyDt kv.1))), I1.laid (t' := tk) (fun b u e => ?_) (Nat.le_refl _) ⟨ln, _, c, o1, hcc⟩, rfl, hbs' ▸ q _ (I1.hok.fresh (Nat.le_refl _))⟩
    have hlt := Heap.lt_size e
    rw [PyProof.Rows.sortedHeap_old (Nat.ne_of_lt hlt) (by rw [size_push']; exact Nat.lt_succ_of_lt hlt)]
    exact Heap.get?_push_of_some _ e
end
end Wb

set_option Elab.async false
set_option linter.all false
set_option maxRecDepth 100000
set_option maxHeartbeats 4000000
/-! Wy0: things of one's own that change while a def runs (hidden: in H, not in B). -/
namespace Wv
open PySem PySem.Spec PyProof.Rows L2 Wb
theorem lt1 {a b : Nat} (h : a + 64 < b) : a + 1 < b := by omega
/-- at a stands o, and nobody else knows of it -/
structure Hid (B H : Hp) (a : Addr) (o : HO) : Prop where
  at_ : H a = some o
  no : B a = none
section
variable {B H B' H' B0 H0 : Hp} {a b : Addr} {o u : HO}
theorem Hid.ext (m : Hid B H a o) (e : Ext B H B' H') : Hid B' H' a o := ⟨e.hh _ _ m.at_, e.nw a (by rw [m.at_]; exact fun z => nomatch z) m.no⟩
theorem none_of (s : Same B H) (h : H a = none) : B a = none := by
  cases q : B a with
  | none => rfl
  | some x => rw [s _ _ q] at h; cases h
theorem Ext.newH (s : Same B H) (h : H a = none) : Ext B H B (upd H a o) := ⟨new_same h, Same.refl _, s.trans (new_same h), fun _ _ z => z⟩
theorem Hid.new (s : Same B H) (h : H a = none) : Hid B (upd H a o) a o := ⟨upd_same, none_of s h⟩
theorem Hid.set (m : Hid B H a o) : Hid B (upd H a u) a u := ⟨upd_same, m.no⟩
theorem Hid.other (m : Hid B H b u) (n : b ≠ a) : Hid B (upd H a o) b u := ⟨(upd_ne n).trans m.at_, m.no⟩
theorem Ext.setH (e : Ext B0 H0 B H) (m : Hid B H a o) (h : H0 a = none) : Ext B0 H0 B (upd H a u) :=
  ⟨fun b x z => by
    rw [upd_ne (ne_of_none z h)]
    exact e.hh b x z, e.bb, fun b x z => by
    rw [upd_ne (ne_of_none z m.no)]
    exact e.bh b x z, e.nw⟩
theorem Ext.settleH (e : Ext B0 H0 B H) (m : Hid B H a o) (h : H0 a = none) (n : B0 a = none) : Ext B0 H0 (upd B a o) H :=
  ⟨e.hh, fun b x z => by
    rw [upd_ne (ne_of_none z n)]
    exact e.bb b x z, fun b x z => by
    by_cases q : b = a
    · subst q
      rw [upd_same] at z
      cases z
      exact m.at_
    · rw [upd_ne q] at z
      exact e.bh b x z, fun b h1 h2 => by
    by_cases q : b = a
    · subst q
      exact absurd h h1
    · rw [upd_ne q]
      exact e.nw b h1 h2⟩
theorem Ext.oldH (e : Ext B0 H0 B H) (h : H a = none) : H0 a = none := by
  cases q : H0 a with
  | none => rfl
  | some x => rw [e.hh _ _ q] at h; cases h
end
/-- what is wanted behind a turn -/
def Nh (B0 H0 B1 : Hp) (P : L2.St → Hp → Hp → Prop) : L2.St → Hp → Prop := fun σ H' => ∃ B', Ext B0 H0 B' H' ∧ Same B1 B' ∧ P σ B' H'
theorem s_forX {σ : L2.St} {wi : TI} {g : TG} {ts rest : TS} {D : Ends} {Rs : List Rel} {B H B0 H0 : Hp} (e0 : Ext B0 H0 B H) (hi : Di wi σ B Rs) (Pv : Nat → L2.St → Hp → Hp → Prop) (h0 : ∀ B1 H1, Ext B H B1 H1 → Pv 0 σ B1 H1)
    (hs : ∀ B1 i R v σ' Bc Hc Bn Hn, Same B B1 → Rs[i]? = some R → Ext B0 H0 Bc Hc → Same B1 Bc → Pv i σ' Bc Hc → Ext Bc Hc Bn Hn → R Bn v → g v σ' Hn fun σ2 H2 => ts { D with nx := Nh B0 H0 B1 (Pv (i + 1)), ct := Nh B0 H0 B1 (Pv (i + 1)), bk := rest D } σ2 H2)
    (hd : ∀ σ' B' H', Ext B0 H0 B' H' → Same B B' → Pv Rs.length σ' B' H' → rest D σ' H') : tSeq (tFor wi g ts) rest D σ H :=
  hi B H (Same.refl _) e0.bh _ fun J B1 H1 e hw => by
    have := for_it hw (D := { D with nx := rest D }) (g := g) (tb := ts) (fun i => Nh B0 H0 B1 (Pv i)) ⟨B1, e0.trans e, Same.refl _, h0 B1 H1 e⟩ (fun i σ' H' _ ⟨B', s1, s2, _⟩ => s2.trans s1.bh)
      (fun i x σ' H' H'' hi ⟨Bc, s1, s2, p⟩ ⟨R, hR, y⟩ => by
        obtain ⟨Bn, e2, hx⟩ := y Bc s2 s1.bh
        exact hs B1 i R x σ' Bc H' Bn H'' e.bb hR s1 s2 p e2 hx)
      (fun σ' H' ⟨B', s1, s2, p⟩ => hd σ' B' H' s1 (e.bb.trans s2) p)
    exact this
/-- a triple taken apart -/
theorem gTup3 {K : PySem.W.Frag} {Bn H : Hp} {v : V} {R S T : Rel} {σ1 : L2.St} {i j l : Nat} (s : Same Bn H) (h : tupR K [R, S, T] Bn v) : ∃ x y z, R Bn x ∧ S Bn y ∧ T Bn z ∧ ∀ Q : L2.St → Hp → Prop, Q (((σ1.set i (some x)).set j (some y)).set l (some z)) H → gTup K 3 (gCons (gName i) (gCons (gName j) (gCons (gName l) gNil))) v σ1 H Q := by
  obtain ⟨a, xs, rfl, hs, x, r, rfl, hx, y, r', rfl, hy, z, r2, rfl, hz, hr⟩ := h
  have hr : r2 = [] := hr
  subst hr
  exact ⟨x, y, z, hx, hy, hz, fun Q q => ⟨a, _, rfl, seqT s hs, rfl, x, [y, z], rfl, y, [z], rfl, z, [], rfl, rfl, q⟩⟩
section
variable {K : PySem.W.Frag} {σ : L2.St} {B : Hp} {ta tb : TE} {R S T : Rel}
/-- d[k], of a dict that stays -/
def dicR (a : Addr) (kvs : List (Key × V)) : Rel := fun B v => v = .ref a ∧ B a = some (.dK kvs)
instance {a : Addr} {kvs : List (Key × V)} : Mo (dicR a kvs) := ⟨fun s ⟨e, h⟩ => ⟨e, s _ _ h⟩⟩
theorem De.dget {a : Addr} {kvs : List (Key × V)} {n : Int} {v : V} [m : Mo R] (hd : De ta σ B (dicR a kvs)) (hk : De tb σ B (dat K (.int n))) (l : valV kvs (.inl n) = some v) (hv : R B v) : De (tDGet ta tb) σ B R := fun B1 H s1 s2 Q q =>
  hd B1 H s1 s2 _ fun x B2 H2 e hx => hk B2 H2 (s1.trans e.bb) e.bh _ fun y B3 H3 e2 hy => by
    obtain ⟨rfl, ha⟩ := hx
    have := dat_int hy
    subst this
    exact ⟨a, v, rfl, DGet.k (k := .inl n) (e2.bh _ _ (e2.bb _ _ ha)) |> (l ▸ ·), q v B3 H3 (e.trans e2) (m.mo ((s1.trans e.bb).trans e2.bb) hv)⟩
end
end Wv

set_option Elab.async false
set_option linter.all false
set_option maxRecDepth 100000
set_option maxHeartbeats 4000000
/-! Ta0: the tally of letters, as lists. -/
namespace Ta
open PySem PySem.Spec PyProof.Rows
abbrev Wd := List Int
/-- a letter: number, edition, word -/
abbrev Lt := Int × Int × Wd
/-- a row of a tally: number, last edition, its words -/
abbrev Rw := Int × Int × List Wd
/-! ### each thing once -/
section
variable {α : Type} [DecidableEq α]
def add1 (f : List α) (x : α) : List α := if x ∈ f then f else f ++ [x]
def once (l : List α) : List α := l.foldl add1 []
theorem mem_add1 {f : List α} {x y : α} : y ∈ add1 f x ↔ y ∈ f ∨ y = x := by
  unfold add1
  split
  · next h => exact ⟨.inl, fun h' => h'.elim id fun e => e ▸ h⟩
  · simp
theorem nd_add1 {f : List α} {x : α} (h : f.Nodup) : (add1 f x).Nodup := by
  unfold add1
  split
  · exact h
  · next hx =>
    refine List.nodup_append.mpr ⟨h, List.pairwise_singleton _ _, fun a ha b hb e => ?_⟩
    rw [List.mem_singleton] at hb
    exact hx (hb ▸ e ▸ ha)
theorem once_snoc (l : List α) (x : α) : once (l ++ [x]) = add1 (once l) x := by unfold once; rw [List.foldl_append]; rfl
theorem once_foldl {l f : List α} : (∀ y, y ∈ l.foldl add1 f ↔ y ∈ f ∨ y ∈ l) ∧ (f.Nodup → (l.foldl add1 f).Nodup) := by
  induction l generalizing f with
  | nil => exact ⟨fun y => by simp, id⟩
  | cons x l ih =>
    rw [List.foldl_cons]
    refine ⟨fun y => ?_, fun h => ih.2 (nd_add1 h)⟩
    rw [ih.1, mem_add1, List.mem_cons, or_assoc]
theorem mem_once {l : List α} {y : α} : y ∈ once l ↔ y ∈ l := by
  have := (once_foldl (l := l) (f := [])).1 y
  unfold once
  simpa using this
theorem nd_once (l : List α) : (once l).Nodup := (once_foldl (l := l) (f := [])).2 List.nodup_nil
theorem once_perm {l m : List α} (h : ∀ y, y ∈ l ↔ y ∈ m) : (once l).Perm (once m) := (List.perm_ext_iff_of_nodup (nd_once l) (nd_once m)).mpr fun y => by rw [mem_once, mem_once]; exact h y
theorem once_len (l : List α) : (once l).length ≤ l.length := by
  have h : ∀ (l f : List α), (l.foldl add1 f).length ≤ f.length + l.length := fun l => by
    induction l with
    | nil => intro f; simp
    | cons x l ih =>
      intro f
      rw [List.foldl_cons, List.length_cons]
      have := ih (add1 f x)
      have h2 : (add1 f x).length ≤ f.length + 1 := by
        unfold add1
        split
        · omega
        · simp
      omega
  unfold once
  simpa using h l []
end
/-! ### sorted -/
theorem uniq_sorted {α : Type} {le : α → α → Prop} (anti : ∀ a b, le a b → le b a → a = b) : ∀ {l m : List α}, l.Perm m → l.Pairwise le → m.Pairwise le → l = m
  | [], m, p, _, _ => (p.nil_eq)
  | x :: l, [], p, _, _ => absurd p.length_eq (by simp)
  | x :: l, y :: m, p, h1, h2 => by
    have h1' := List.pairwise_cons.mp h1
    have h2' := List.pairwise_cons.mp h2
    have e : x = y := by
      have hx : x ∈ y :: m := p.mem_iff.mp List.mem_cons_self
      have hy : y ∈ x :: l := p.mem_iff.mpr List.mem_cons_self
      rcases List.mem_cons.mp hx with e | hx
      · exact e
      · rcases List.mem_cons.mp hy with e | hy
        · exact e.symm
        · exact anti _ _ (h1'.1 _ hy) (h2'.1 _ hx)
    subst e
    rw [uniq_sorted anti (List.Perm.cons_inv p) h1'.2 h2'.2]
def sortI (l : List Int) : List Int := l.mergeSort fun a b => decide (a ≤ b)
def sortW (l : List Wd) : List Wd := l.mergeSort fun a b => decide (a ≤ b)
theorem sortI_perm (l : List Int) : (sortI l).Perm l := List.mergeSort_perm _ _
theorem sortW_perm (l : List Wd) : (sortW l).Perm l := List.mergeSort_perm _ _
theorem sortI_pw (l : List Int) : (sortI l).Pairwise (· ≤ ·) := by
  have := List.pairwise_mergeSort (le := fun a b : Int => decide (a ≤ b)) (fun a b c h1 h2 => by simp at *; omega) (fun a b => by simp; omega) l
  exact this.imp fun h => by simpa using h
theorem wle_trans {a b c : Wd} (h1 : a ≤ b) (h2 : b ≤ c) : a ≤ c := List.le_trans h1 h2
theorem wle_anti {a b : Wd} (h1 : a ≤ b) (h2 : b ≤ a) : a = b := List.le_antisymm h1 h2
theorem wle_total (a b : Wd) : a ≤ b ∨ b ≤ a := List.le_total a b
theorem sortW_pw (l : List Wd) : (sortW l).Pairwise (· ≤ ·) := by
  have := List.pairwise_mergeSort (le := fun a b : Wd => decide (a ≤ b)) (fun a b c h1 h2 => decide_eq_true (wle_trans (of_decide_eq_true h1) (of_decide_eq_true h2))) (fun a b => by
    rcases wle_total a b with h | h
    · simp [h]
    · simp [h]) l
  exact this.imp fun h => of_decide_eq_true h
theorem sortI_uniq {l m : List Int} (p : l.Perm m) (h : l.Pairwise (· ≤ ·)) : l = sortI m := uniq_sorted (fun a b h1 h2 => Int.le_antisymm h1 h2) (p.trans (sortI_perm m).symm) h (sortI_pw m)
theorem sortI_eq {l m : List Int} (p : l.Perm m) : sortI l = sortI m := sortI_uniq ((sortI_perm l).trans p) (sortI_pw l)
theorem sortW_eq {l m : List Wd} (p : l.Perm m) : sortW l = sortW m := uniq_sorted (fun a b h1 h2 => wle_anti h1 h2) ((sortW_perm l).trans (p.trans (sortW_perm m).symm)) (sortW_pw l) (sortW_pw m)
theorem mem_sortI {l : List Int} {x : Int} : x ∈ sortI l ↔ x ∈ l := (sortI_perm l).mem_iff
theorem mem_sortW {l : List Wd} {x : Wd} : x ∈ sortW l ↔ x ∈ l := (sortW_perm l).mem_iff
/-! ### the tally -/
def nums (ls : List Lt) : List Int := ls.map (·.1)
def upd1 (n : Int) (m : Int) (x : Lt) : Int := if x.1 = n then max x.2.1 m else m
/-- the last edition of a number; 0 of none -/
def last (ls : List Lt) (n : Int) : Int := ls.foldl (upd1 n) 0
def wordsOf (ls : List Lt) (n : Int) : List Wd := (ls.filter fun x => decide (x.1 = n ∧ x.2.1 = last ls n)).map (·.2.2)
def tally (ls : List Lt) : List Rw := (sortI (once (nums ls))).map fun n => (n, last ls n, sortW (once (wordsOf ls n)))
def letters (rows : List Rw) : List Lt := rows.flatMap fun r => r.2.2.map fun w => (r.1, r.2.1, w)
/-- no edition is below 0 -/
def Pos (ls : List Lt) : Prop := ∀ x ∈ ls, 0 ≤ x.2.1
theorem Pos.app {a b : List Lt} (h1 : Pos a) (h2 : Pos b) : Pos (a ++ b) := fun x hx => (List.mem_append.mp hx).elim (h1 x) (h2 x)
theorem last_from (n : Int) : ∀ (ls : List Lt) (m : Int), m ≤ ls.foldl (upd1 n) m ∧ (∀ x ∈ ls, x.1 = n → x.2.1 ≤ ls.foldl (upd1 n) m) ∧ (ls.foldl (upd1 n) m = m ∨ ∃ x ∈ ls, x.1 = n ∧ x.2.1 = ls.foldl (upd1 n) m)
  | [], m => ⟨Int.le_refl _, fun x hx => (nomatch hx), .inl rfl⟩
  | y :: ls, m => by
    rw [List.foldl_cons]
    obtain ⟨h1, h2, h3⟩ := last_from n ls (upd1 n m y)
    have hm : m ≤ upd1 n m y := by
      unfold upd1
      split
      · exact Int.le_max_right _ _
      · exact Int.le_refl _
    refine ⟨Int.le_trans hm h1, fun x hx e => ?_, ?_⟩
    · rcases List.mem_cons.mp hx with rfl | hx
      · refine Int.le_trans ?_ h1
        unfold upd1
        rw [if_pos e]
        exact Int.le_max_left _ _
      · exact h2 x hx e
    · rcases h3 with h3 | ⟨x, hx, e1, e2⟩
      · by_cases e : y.1 = n
        · have : upd1 n m y = m ∨ upd1 n m y = y.2.1 := by
            unfold upd1
            rw [if_pos e]
            omega
          rcases this with h | h
          · exact .inl (h3.trans h)
          · exact .inr ⟨y, List.mem_cons_self, e, (h3.trans h).symm⟩
        · have h : upd1 n m y = m := by unfold upd1; rw [if_neg e]
          exact .inl (h3.trans h)
      · exact .inr ⟨x, List.mem_cons_of_mem _ hx, e1, e2⟩
theorem last_ge {ls : List Lt} {x : Lt} (h : x ∈ ls) : x.2.1 ≤ last ls x.1 := (last_from x.1 ls 0).2.1 x h rfl
theorem last_pos (ls : List Lt) (n : Int) : 0 ≤ last ls n := (last_from n ls 0).1
theorem last_at {ls : List Lt} {n : Int} (p : Pos ls) (h : n ∈ nums ls) : ∃ w, (n, last ls n, w) ∈ ls := by
  obtain ⟨x, hx, rfl⟩ := List.mem_map.mp h
  rcases (last_from x.1 ls 0).2.2 with e | ⟨y, hy, e1, e2⟩
  · refine ⟨x.2.2, ?_⟩
    have h1 := last_ge hx
    have h2 := p x hx
    have e' : last ls x.1 = 0 := e
    have : x.2.1 = last ls x.1 := by omega
    rw [← this]
    exact hx
  · refine ⟨y.2.2, ?_⟩
    have : last ls x.1 = y.2.1 := e2.symm
    rw [this, ← e1]
    exact hy
theorem last_uniq {ls : List Lt} {n m : Int} (h0 : 0 ≤ m) (h1 : ∀ x ∈ ls, x.1 = n → x.2.1 ≤ m) (h2 : m = 0 ∨ ∃ x ∈ ls, x.1 = n ∧ x.2.1 = m) : last ls n = m := by
  have a := (last_from n ls 0).2.1
  have b := last_pos ls n
  have c := (last_from n ls 0).2.2
  have d : last ls n ≤ m := by
    rcases c with c | ⟨x, hx, e1, e2⟩
    · have : last ls n = 0 := c
      omega
    · have : x.2.1 = last ls n := e2
      have := h1 x hx e1
      omega
  have e : m ≤ last ls n := by
    rcases h2 with h2 | ⟨x, hx, e1, e2⟩
    · omega
    · have : x.2.1 ≤ last ls n := a x hx e1
      omega
  omega
theorem mem_words {ls : List Lt} {n : Int} {w : Wd} : w ∈ wordsOf ls n ↔ (n, last ls n, w) ∈ ls := by
  unfold wordsOf
  rw [List.mem_map]
  constructor
  · rintro ⟨x, hx, rfl⟩
    obtain ⟨h, e⟩ := List.mem_filter.mp hx
    obtain ⟨e1, e2⟩ := of_decide_eq_true e
    rw [← e2, ← e1]
    exact h
  · intro h
    exact ⟨_, List.mem_filter.mpr ⟨h, decide_eq_true ⟨rfl, rfl⟩⟩, rfl⟩
/-- what a tally hangs on -/
theorem tally_of {a b : List Lt} (hn : ∀ n, n ∈ nums a ↔ n ∈ nums b) (hl : ∀ n, n ∈ nums a → last a n = last b n) (hw : ∀ n w, n ∈ nums a → ((n, last a n, w) ∈ a ↔ (n, last b n, w) ∈ b)) : tally a = tally b := by
  unfold tally
  rw [sortI_eq (once_perm hn)]
  refine List.map_congr_left fun n h => ?_
  have h : n ∈ nums a := (hn n).mpr (mem_once.mp (mem_sortI.mp h))
  rw [hl n h, sortW_eq (once_perm fun w => (mem_words (ls := a)).trans ((hw n w h).trans mem_words.symm))]
theorem tally_ext {a b : List Lt} (h : ∀ x, x ∈ a ↔ x ∈ b) : tally a = tally b := by
  have hl : ∀ n, last a n = last b n := fun n => by
    refine last_uniq (last_pos _ _) (fun x hx e => e ▸ last_ge ((h x).mp hx)) ?_
    rcases (last_from n b 0).2.2 with e | ⟨x, hx, e1, e2⟩
    · exact .inl e
    · exact .inr ⟨x, (h x).mpr hx, e1, e2⟩
  refine tally_of (fun n => ?_) (fun n _ => hl n) fun n w _ => by rw [hl n]; exact h _
  unfold nums
  rw [List.mem_map, List.mem_map]
  exact ⟨fun ⟨x, hx, e⟩ => ⟨x, (h x).mp hx, e⟩, fun ⟨x, hx, e⟩ => ⟨x, (h x).mpr hx, e⟩⟩
theorem mem_letters {ls : List Lt} {x : Lt} : x ∈ letters (tally ls) ↔ x ∈ ls ∧ x.2.1 = last ls x.1 := by
  unfold letters tally
  rw [List.mem_flatMap]
  constructor
  · rintro ⟨r, hr, hx⟩
    obtain ⟨n, hn, rfl⟩ := List.mem_map.mp hr
    obtain ⟨w, hw, rfl⟩ := List.mem_map.mp hx
    exact ⟨mem_words.mp (mem_once.mp (mem_sortW.mp hw)), rfl⟩
  · rintro ⟨hx, e⟩
    refine ⟨_, List.mem_map.mpr ⟨x.1, mem_sortI.mpr (mem_once.mpr (List.mem_map.mpr ⟨x, hx, rfl⟩)), rfl⟩, List.mem_map.mpr ⟨x.2.2, mem_sortW.mpr (mem_once.mpr (mem_words.mpr (by rw [← e]; exact hx))), by rw [← e]⟩⟩
theorem Pos.letters {ls : List Lt} (p : Pos ls) : Pos (letters (tally ls)) := fun x hx => p x (mem_letters.mp hx).1
/-- told together with others, the letters of a tally tell what all of them tell -/
theorem tally_back {a b c : List Lt} (p : Pos a) (q : Pos b) (hs : ∀ x, x ∈ c ↔ x ∈ letters (tally a) ∨ x ∈ letters (tally b)) : tally c = tally (a ++ b) := by
  have pc : Pos (a ++ b) := p.app q
  have sub : ∀ x, x ∈ c → x ∈ a ++ b := fun x hx => List.mem_append.mpr (((hs x).mp hx).imp (fun h => (mem_letters.mp h).1) fun h => (mem_letters.mp h).1)
  have up : ∀ x, x ∈ a ++ b → x.2.1 = last (a ++ b) x.1 → x ∈ c := fun x hx e => by
    refine (hs x).mpr ((List.mem_append.mp hx).imp (fun h => mem_letters.mpr ⟨h, ?_⟩) fun h => mem_letters.mpr ⟨h, ?_⟩)
    · obtain ⟨w, hw⟩ := last_at p (List.mem_map.mpr ⟨x, h, rfl⟩)
      have h1 := last_ge h
      have h2 : last a x.1 ≤ last (a ++ b) x.1 := last_ge (x := (x.1, last a x.1, w)) (List.mem_append.mpr (.inl hw))
      omega
    · obtain ⟨w, hw⟩ := last_at q (List.mem_map.mpr ⟨x, h, rfl⟩)
      have h1 := last_ge h
      have h2 : last b x.1 ≤ last (a ++ b) x.1 := last_ge (x := (x.1, last b x.1, w)) (List.mem_append.mpr (.inr hw))
      omega
  have hn : ∀ n, n ∈ nums c ↔ n ∈ nums (a ++ b) := fun n => by
    constructor
    · intro h
      obtain ⟨x, hx, e⟩ := List.mem_map.mp h
      exact List.mem_map.mpr ⟨x, sub x hx, e⟩
    · intro h
      obtain ⟨w, hw⟩ := last_at pc h
      exact List.mem_map.mpr ⟨_, up _ hw rfl, rfl⟩
  have hl : ∀ n, n ∈ nums c → last c n = last (a ++ b) n := fun n h => by
    refine last_uniq (last_pos _ _) (fun x hx e => e ▸ last_ge (sub x hx)) (.inr ?_)
    obtain ⟨w, hw⟩ := last_at pc ((hn n).mp h)
    exact ⟨_, up _ hw rfl, rfl, rfl⟩
  refine tally_of hn hl fun n w h => ?_
  rw [hl n h]
  exact ⟨fun hx => sub _ hx, fun hx => up _ hx rfl⟩
theorem tally_merge {a b : List Lt} (p : Pos a) (q : Pos b) : tally (letters (tally a) ++ letters (tally b)) = tally (a ++ b) := tally_back p q fun x => List.mem_append
theorem tally_heard {a : List Lt} {x : Lt} (p : Pos a) (q : 0 ≤ x.2.1) : tally (letters (tally a) ++ [x]) = tally (a ++ [x]) := by
  refine tally_back (b := [x]) p (fun y hy => by rw [List.mem_singleton] at hy; rw [hy]; exact q) fun y => ?_
  rw [List.mem_append, List.mem_singleton, mem_letters (ls := [x]), List.mem_singleton]
  refine or_congr Iff.rfl ⟨fun e => ⟨e, ?_⟩, fun h => h.1⟩
  subst e
  have h1 := last_ge (ls := [y]) List.mem_cons_self
  rcases (last_from y.1 [y] 0).2.2 with e | ⟨z, hz, e1, e2⟩
  · have e' : last [y] y.1 = 0 := e
    omega
  · rw [List.mem_singleton] at hz
    subst hz
    exact e2
end Ta

set_option Elab.async false
set_option linter.all false
set_option maxRecDepth 100000
set_option maxHeartbeats 4000000
/-! Ta1: the dicts by which a tally is told. -/
namespace Ta
open PySem PySem.Spec PyProof.Rows L2 Wb
theorem last_snoc (l : List Lt) (x : Lt) (n : Int) : last (l ++ [x]) n = if x.1 = n then max x.2.1 (last l n) else last l n := by
  unfold last
  rw [List.foldl_append]
  rfl
theorem last_none {l : List Lt} {n : Int} (h : n ∉ nums l) : last l n = 0 := by
  rcases (last_from n l 0).2.2 with e | ⟨x, hx, e1, _⟩
  · exact e
  · exact absurd (List.mem_map.mpr ⟨x, hx, e1⟩) h
theorem nums_snoc (l : List Lt) (x : Lt) : nums (l ++ [x]) = nums l ++ [x.1] := by unfold nums; rw [List.map_append]; rfl
/-- numbers by what stands for them -/
def byN (f : Int → V) (ns : List Int) : List (Key × V) := ns.map fun n => (.inl n, f n)
theorem val_byN {f : Int → V} {n : Int} : ∀ {ns : List Int}, valV (byN f ns) (.inl n) = if n ∈ ns then some (f n) else none
  | [] => rfl
  | m :: ns => by
    by_cases e : m = n
    · subst e
      rw [if_pos List.mem_cons_self]
      exact valV_pos rfl
    · have e1 : ¬ (Sum.inl m : Key) = .inl n := fun z => e (Sum.inl.inj z)
      have : valV (byN f (m :: ns)) (.inl n) = valV (byN f ns) (.inl n) := valV_neg e1
      rw [this, val_byN]
      by_cases h : n ∈ ns
      · rw [if_pos h, if_pos (List.mem_cons_of_mem _ h)]
      · rw [if_neg h, if_neg fun z => (List.mem_cons.mp z).elim (fun z => e z.symm) h]
theorem put_byN {f g : Int → V} {ns : List Int} {n : Int} {v : V} (hv : g n = v) (hf : ∀ m, m ≠ n → g m = f m) : putK (byN f ns) (.inl n) v = byN g (add1 ns n) := by
  unfold add1
  by_cases h : n ∈ ns
  · rw [if_pos h]
    unfold putK
    rw [if_pos (by rw [valV_any, val_byN, if_pos h]; rfl)]
    unfold byN
    rw [List.map_map]
    refine List.map_congr_left fun m _ => ?_
    by_cases e : m = n
    · subst e
      show (if (Sum.inl m : Key) = .inl m then ((Sum.inl m : Key), v) else _) = _
      rw [if_pos rfl, hv]
    · show (if (Sum.inl m : Key) = .inl n then _ else ((Sum.inl m : Key), f m)) = _
      rw [if_neg fun z => e (Sum.inl.inj z), hf m e]
  · rw [if_neg h, putK_new _ (by rw [val_byN, if_neg h])]
    unfold byN
    rw [List.map_append]
    congr 1
    · refine List.map_congr_left fun m hm => ?_
      rw [hf m fun e => h (e ▸ hm)]
    · rw [List.map_cons, hv]
      rfl
/-- the last editions, as they are met -/
def eds (l : List Lt) : List (Key × V) := byN (fun n => .int (last l n)) (once (nums l))
theorem get_eds (l : List Lt) (n : Int) : (valV (eds l) (.inl n)).getD (.int 0) = .int (last l n) := by
  unfold eds
  rw [val_byN]
  by_cases h : n ∈ nums l
  · rw [if_pos (mem_once.mpr h)]
    rfl
  · rw [if_neg fun z => h (mem_once.mp z), last_none h]
    rfl
theorem put_eds (l : List Lt) (x : Lt) : putK (eds l) (.inl x.1) (.int (max x.2.1 (last l x.1))) = eds (l ++ [x]) := by
  unfold eds
  rw [nums_snoc, once_snoc]
  refine put_byN ?_ fun m e => ?_
  · show V.int (last (l ++ [x]) x.1) = _
    rw [last_snoc, if_pos rfl]
  · show V.int (last (l ++ [x]) m) = _
    rw [last_snoc, if_neg fun z => e z.symm]
theorem eds_len (l : List Lt) : (eds l).length ≤ l.length := by
  unfold eds byN
  rw [List.length_map]
  exact Nat.le_trans (once_len _) (by unfold nums; rw [List.length_map]; exact Nat.le_refl _)
theorem val_eds {l : List Lt} {n : Int} (h : n ∈ nums l) : valV (eds l) (.inl n) = some (.int (last l n)) := by
  unfold eds
  rw [val_byN, if_pos (mem_once.mpr h)]
/-- the words of a number that were met among t, of its last edition among ls -/
def met (ls t : List Lt) (n : Int) : List Wd := once ((t.filter fun x => decide (x.1 = n ∧ x.2.1 = last ls n)).map (·.2.2))
theorem met_all (ls : List Lt) (n : Int) : met ls ls n = once (wordsOf ls n) := rfl
theorem met_snoc (ls t : List Lt) (x : Lt) (n : Int) : met ls (t ++ [x]) n = if x.1 = n ∧ x.2.1 = last ls n then add1 (met ls t n) x.2.2 else met ls t n := by
  unfold met
  rw [List.filter_append, List.map_append]
  by_cases h : x.1 = n ∧ x.2.1 = last ls n
  · rw [if_pos h]
    have : [x].filter (fun x => decide (x.1 = n ∧ x.2.1 = last ls n)) = [x] := by
      rw [List.filter_cons, if_pos (decide_eq_true h)]
      rfl
    rw [this]
    exact once_snoc _ _
  · rw [if_neg h]
    have : [x].filter (fun x => decide (x.1 = n ∧ x.2.1 = last ls n)) = [] := by
      rw [List.filter_cons, if_neg (fun z => h (of_decide_eq_true z))]
      rfl
    rw [this, List.map_nil, List.append_nil]
/-- a word as a key -/
def wk (w : Wd) : List Key := w.map .inl
theorem wk_inj {u w : Wd} (h : wk u = wk w) : u = w := by
  unfold wk at h
  exact (List.map_inj_right fun a b e => Sum.inl.inj e).mp h
/-- a dict of words, each with True -/
structure Ws (K : PySem.W.Frag) (B : Hp) (ws : List Wd) (kvs : List En) : Prop where
  keys : kvs.map (·.1) = ws.map wk
  vals : ∀ p ∈ kvs, p.2.2 = .bl true
  at_ : KeysAt K B kvs
theorem Ws.nil {K : PySem.W.Frag} {B : Hp} : Ws K B [] [] := ⟨rfl, fun p h => (nomatch h), fun p h => (nomatch h)⟩
theorem atH_some {kvs : List En} {k : List Key} : (atH kvs k).isSome = true ↔ k ∈ kvs.map (·.1) := by
  unfold atH
  rw [Option.isSome_map, List.find?_isSome, List.mem_map]
  exact ⟨fun ⟨x, hx, e⟩ => ⟨x, hx, of_decide_eq_true e⟩, fun ⟨x, hx, e⟩ => ⟨x, hx, decide_eq_true e⟩⟩
theorem Ws.put {K : PySem.W.Frag} {B : Hp} {ws : List Wd} {kvs : List En} (h : Ws K B ws kvs) {w : Wd} {b : Addr} (hb : KeyAt K B (wk w) b) : Ws K B (add1 ws w) (putH kvs (wk w) b (.bl true)) := by
  unfold add1 putH
  have e : (atH kvs (wk w)).isSome = true ↔ w ∈ ws := by
    rw [atH_some, h.keys, List.mem_map]
    exact ⟨fun ⟨u, hu, e⟩ => wk_inj e ▸ hu, fun hu => ⟨w, hu, rfl⟩⟩
  by_cases q : w ∈ ws
  · rw [if_pos q, if_pos (e.mpr q)]
    have same : kvs.map (fun p => if p.1 = wk w then (p.1, p.2.1, V.bl true) else p) = kvs := by
      refine (List.map_congr_left fun p hp => ?_).trans (List.map_id _)
      split
      · rw [← h.vals p hp]
        rfl
      · rfl
    rw [same]
    exact h
  · rw [if_neg q, if_neg fun z => q (e.mp z)]
    refine ⟨by rw [List.map_append, List.map_append, h.keys]; rfl, fun p hp => ?_, fun p hp => ?_⟩
    · rcases List.mem_append.mp hp with hp | hp
      · exact h.vals p hp
      · rw [List.mem_singleton] at hp
        rw [hp]
    · rcases List.mem_append.mp hp with hp | hp
      · exact h.at_ p hp
      · rw [List.mem_singleton] at hp
        rw [hp]
        exact hb
theorem Ws.mono {K : PySem.W.Frag} {B B' : Hp} {ws : List Wd} {kvs : List En} (h : Ws K B ws kvs) (s : ∀ a o, B a = some o → B' a = some o) : Ws K B' ws kvs := ⟨h.keys, h.vals, fun p hp => (h.at_ p hp).same s⟩
theorem Ws.len {K : PySem.W.Frag} {B : Hp} {ws : List Wd} {kvs : List En} (h : Ws K B ws kvs) : kvs.length = ws.length := by
  have := congrArg List.length h.keys
  rwa [List.length_map, List.length_map] at this
end Ta

set_option Elab.async false
set_option linter.all false
set_option maxRecDepth 100000
set_option maxHeartbeats 4000000
/-! Wy1: {n: {} for n in d}. -/
namespace Wv
open PySem PySem.Spec PyProof.Rows L2 Wb Ta
theorem dc_news {P : Program} {w : World} {σ : L2.St} {j : Nat} {E D : Addr} {od : Obj} {f : Int → V} {ns : List Int} {H1 : Hp} {Qd : Hp → Prop} (hw : ∀ x, wipe ((wipe σ [j]).set j (some x)) [j] = wipe σ [j]) (hx : ∀ x, ((wipe σ [j]).set j (some x))[j]? = some (some x))
    (hE : H1 E = some (.frz od (.dK (byN f ns)))) (hD : H1 D = none) (nd : ns.Nodup) (few : ns.length < sizeLine)
    (hd : ∀ (as : List Addr) (J : Hp), as.length = ns.length → as.Nodup → (∀ a ∈ as, H1 a = none ∧ a ≠ D ∧ J a = some (DicO P w a [])) → J D = some (.dK ((ns.zip as).map fun p => (.inl p.1, .ref p.2))) → (∀ b, b ∉ as → b ≠ D → J b = H1 b) → Qd J) :
    ∃ W : Nat → Nat → Hp → Prop, (∃ m, W 0 m (upd H1 D (.dK []))) ∧ ∀ i m H, W i m H →
      ((Itk E od (byN f ns)).stop i H ∧ Qd H) ∨ ((Itk E od (byN f ns)).go i H ∧ ∃ Nx : Hp → Prop, (∀ H', Nx H' → ∃ m', m' < m ∧ W (i + 1) m' H') ∧ ∀ x H', (Itk E od (byN f ns)).yld i H x H' → gName j x (wipe σ [j]) H' fun σ2 H2 => wipe σ2 [j] = wipe σ [j] ∧ tYes σ2 H2 fun b H3 =>
        if b = true then (tVar j) σ2 H3 fun y H4 => (tHNew P w) σ2 H4 fun z H5 => ∃ kvs k, y = kV k ∧ H5 D = some (.dK kvs) ∧ kvs.length < sizeLine ∧ Nx (upd H5 D (.dK (putK kvs k z))) else Nx H3) := by
  have nE : E ≠ D := ne_of_none hE hD
  have ln : (byN f ns).length = ns.length := by unfold byN; rw [List.length_map]
  let Pv : Nat → Hp → Prop := fun i J => ∃ as : List Addr, as.length = i ∧ i ≤ ns.length ∧ as.Nodup ∧ (∀ a ∈ as, H1 a = none ∧ a ≠ D ∧ J a = some (DicO P w a [])) ∧ J D = some (.dK (((ns.take i).zip as).map fun p => (.inl p.1, .ref p.2))) ∧ ∀ b, b ∉ as → b ≠ D → J b = H1 b
  have frE : ∀ {i J}, Pv i J → J E = some (.frz od (.dK (byN f ns))) := fun {i J} ⟨as, _, _, _, h, _, o⟩ => by
    rw [o E (fun z => by rw [(h E z).1] at hE; cases hE) nE]
    exact hE
  refine ⟨fun i m J => m = ns.length - i ∧ Pv i J, ⟨ns.length, by simp, [], rfl, Nat.zero_le _, List.nodup_nil, fun a h => (nomatch h), by rw [upd_same]; simp, fun b _ n => upd_ne n⟩, ?_⟩
  rintro i m J ⟨rfl, p⟩
  have e := frE p
  obtain ⟨as, hl, hi, hn, ha, hJ, ho⟩ := p
  by_cases lt : i < ns.length
  · refine .inr ⟨⟨e, by rw [ln]; exact lt⟩, Pv (i + 1), fun H' p' => ⟨ns.length - (i + 1), by omega, rfl, p'⟩, fun x H' y => ?_⟩
    obtain ⟨rfl, k, v, hk, rfl⟩ := y
    have hn' : ns[i]? = some ns[i] := List.getElem?_eq_getElem lt
    have hk' : (byN f ns)[i]? = some (.inl ns[i], f ns[i]) := by
      unfold byN
      rw [List.getElem?_map, hn']
      rfl
    rw [hk'] at hk
    cases hk
    refine ⟨hw _, ?_⟩
    unfold tYes
    dsimp only
    rw [if_pos rfl]
    refine ⟨_, hx _, fun p hp => ?_⟩
    have pa : p ∉ as := fun z => by rw [(ha p z).2.2] at hp; cases hp
    have pD : p ≠ D := fun z => by rw [z, hJ] at hp; cases hp
    have pH : H1 p = none := by rw [← ho p pa pD]; exact hp
    have tk : (ns.take (i + 1)).zip (as ++ [p]) = (ns.take i).zip as ++ [(ns[i], p)] := by
      rw [List.take_succ, hn', Option.toList_some, List.zip_append (by rw [List.length_take]; omega)]
      rfl
    refine ⟨_, .inl ns[i], rfl, (upd_ne fun z => pD z.symm).trans hJ, ?_, as ++ [p], by simp [hl], lt, ?_, fun a h => ?_, ?_, fun b nb nbD => ?_⟩
    · rw [List.length_map, List.length_zip, List.length_take]
      omega
    · refine List.nodup_append.mpr ⟨hn, List.pairwise_singleton _ _, fun a h1 b h2 z => ?_⟩
      rw [List.mem_singleton] at h2
      exact pa (h2 ▸ z ▸ h1)
    · rcases List.mem_append.mp h with h | h
      · obtain ⟨h1, h2, h3⟩ := ha a h
        refine ⟨h1, h2, ?_⟩
        rw [upd_ne h2, upd_ne (show a ≠ p from fun z => pa (z ▸ h))]
        exact h3
      · rw [List.mem_singleton] at h
        subst h
        refine ⟨pH, pD, ?_⟩
        rw [upd_ne pD, upd_same]
    · rw [upd_same, putK_new, tk, List.map_append]
      · rfl
      · cases q : valV (((ns.take i).zip as).map fun p => ((.inl p.1 : Key), V.ref p.2)) (.inl ns[i]) with
        | none => rfl
        | some z =>
          exfalso
          have a := valV_any (.inl ns[i] : Key) (((ns.take i).zip as).map fun p => ((.inl p.1 : Key), V.ref p.2))
          rw [q] at a
          obtain ⟨c, hc, hcc⟩ := List.any_eq_true.mp a
          obtain ⟨d, hd, rfl⟩ := List.mem_map.mp hc
          have e1 : d.1 = ns[i] := Sum.inl.inj (of_decide_eq_true hcc)
          have e2 : d.1 ∈ ns.take i := (List.of_mem_zip hd).1
          rw [e1] at e2
          obtain ⟨j, hj, e3⟩ := List.mem_take_iff_getElem.mp e2
          exact List.pairwise_iff_getElem.mp nd j i (by omega) lt (by omega) e3
    · have n1 : b ∉ as := fun z => nb (List.mem_append_left _ z)
      have n2 : b ≠ p := fun z => nb (List.mem_append_right _ (by rw [z]; exact List.mem_singleton.mpr rfl))
      rw [upd_ne nbD, upd_ne n2]
      exact ho b n1 nbD
  · have e' : i = ns.length := by omega
    subst e'
    rw [List.take_length] at hJ
    exact .inl ⟨⟨e, by rw [ln]; exact Nat.le_refl _⟩, hd as J hl hn ha hJ ho⟩
/-- what stands for a number -/
def adOf (ns : List Int) (as : List Addr) (n : Int) : Addr := (as[ns.idxOf n]?).getD 0
theorem adOf_mem {ns : List Int} {as : List Addr} {n : Int} (hl : as.length = ns.length) (h : n ∈ ns) : adOf ns as n ∈ as := by
  unfold adOf
  have lt : ns.idxOf n < as.length := by rw [hl]; exact List.idxOf_lt_length_of_mem h
  rw [List.getElem?_eq_getElem lt]
  exact List.getElem_mem lt
theorem adOf_inj {ns : List Int} {as : List Addr} {n m : Int} (hl : as.length = ns.length) (nd : as.Nodup) (h1 : n ∈ ns) (h2 : m ∈ ns) (e : adOf ns as n = adOf ns as m) : n = m := by
  unfold adOf at e
  have l1 : ns.idxOf n < ns.length := List.idxOf_lt_length_of_mem h1
  have l2 : ns.idxOf m < ns.length := List.idxOf_lt_length_of_mem h2
  rw [List.getElem?_eq_getElem (by omega), List.getElem?_eq_getElem (by omega)] at e
  have q : ns.idxOf n = ns.idxOf m := by
    rcases Nat.lt_trichotomy (ns.idxOf n) (ns.idxOf m) with h | h | h
    · exact absurd e (List.pairwise_iff_getElem.mp nd _ _ (by omega) (by omega) h)
    · exact h
    · exact absurd e.symm (List.pairwise_iff_getElem.mp nd _ _ (by omega) (by omega) h)
  have a : ns[ns.idxOf n] = n := List.getElem_idxOf l1
  have b : ns[ns.idxOf m] = m := List.getElem_idxOf l2
  rw [← a, ← b]
  simp only [q]
theorem zip_byN {ns : List Int} {as : List Addr} (hl : as.length = ns.length) (nd : ns.Nodup) : ((ns.zip as).map fun p => ((.inl p.1 : Key), V.ref p.2)) = byN (fun n => .ref (adOf ns as n)) ns := by
  apply List.ext_getElem?
  intro i
  unfold byN
  rw [List.getElem?_map, List.getElem?_map]
  by_cases lt : i < ns.length
  · have la : i < as.length := by omega
    have h1 : (ns.zip as)[i]? = some (ns[i], as[i]) := by
      rw [List.getElem?_eq_getElem (by rw [List.length_zip]; omega), List.getElem_zip]
    rw [h1, List.getElem?_eq_getElem lt]
    have q : ns.idxOf ns[i] = i := by
      have l1 : ns.idxOf ns[i] < ns.length := List.idxOf_lt_length_of_mem (List.getElem_mem lt)
      have a : ns[ns.idxOf ns[i]] = ns[i] := List.getElem_idxOf l1
      rcases Nat.lt_trichotomy (ns.idxOf ns[i]) i with h | h | h
      · exact absurd a (List.pairwise_iff_getElem.mp nd _ _ l1 lt h)
      · exact h
      · exact absurd a.symm (List.pairwise_iff_getElem.mp nd _ _ lt l1 h)
    show some ((Sum.inl ns[i] : Key), V.ref as[i]) = some (Sum.inl ns[i], V.ref (adOf ns as ns[i]))
    unfold adOf
    rw [q, List.getElem?_eq_getElem la]
    rfl
  · rw [List.getElem?_eq_none (by rw [List.length_zip]; omega), List.getElem?_eq_none (by omega)]
    rfl
end Wv

set_option Elab.async false
set_option linter.all false
set_option maxRecDepth 100000
set_option maxHeartbeats 4000000
/-! Wy2: hidden things laid open; sorted of dicts; words sorted. -/
namespace Wv
open PySem PySem.Spec PyProof.Rows L2 Wb Ta
section
variable {B H B0 H0 : Hp}
def openH (B H : Hp) (zs : List Addr) : Hp := fun b => if b ∈ zs then H b else B b
theorem Ext.openAll (e : Ext B0 H0 B H) {zs : List Addr} (hz : ∀ a ∈ zs, B a = none ∧ H0 a = none) : Ext B0 H0 (openH B H zs) H :=
  ⟨e.hh, fun b x z => by
    unfold openH
    rw [if_neg fun h => by have := (hz b h).1; rw [e.bb _ _ z] at this; cases this]
    exact e.bb b x z, fun b x z => by
    unfold openH at z
    split at z
    · exact z
    · exact e.bh b x z, fun b h1 h2 => by
    unfold openH
    rw [if_neg fun h => h1 (hz b h).2]
    exact e.nw b h1 h2⟩
theorem openH_sub {zs : List Addr} (hz : ∀ a ∈ zs, B a = none) : Same B (openH B H zs) := fun b x z => by
  unfold openH
  rw [if_neg fun h => by have := hz b h; rw [z] at this; cases this]
  exact z
theorem openH_at {zs : List Addr} {a : Addr} (h : a ∈ zs) : openH B H zs a = H a := if_pos h
end
section
variable {K : PySem.W.Frag} {σ : L2.St} {B : Hp} {ta : TE} {P : Program} {w : World}
/-- sorted(d), d a dict with ints as keys -/
theorem rc_sortedDI {a : Addr} {f : Int → V} {ns : List Int} (few : ns.length < 64) : Rc (fun xs H Q => ∃ (a : Addr) (kvs : List (Key × V)) (ks : List Int), xs = [.ref a] ∧ Rd H a (.dK kvs) ∧ kvs.map (·.1) = ks.map Sum.inl ∧ ks.length < 64 ∧
    ∀ (ys : List Int) (p : Addr), ys.Perm ks → ys.Pairwise (· ≤ ·) → H p = none → Q (.ref p) (upd H p (.lst (ys.map V.int)))) B [dicR a (byN f ns)] (dat K (.list ((sortI ns).map .int))) := fun vs B1 H _ s2 hv Q q => by
  obtain ⟨v, r, rfl, ⟨rfl, ha⟩, h2⟩ := hv
  have h2 : r = [] := h2
  subst h2
  refine ⟨a, byN f ns, ns, rfl, .inl (s2 _ _ ha), by unfold byN; rw [List.map_map]; rfl, few, fun ys p hp hs hn => ?_⟩
  rw [sortI_uniq hp hs]
  refine q _ (upd B1 p (.lst ((sortI ns).map V.int))) _ (.new s2 hn) (.lst (SqL.of upd_same) ?_)
  have all : ∀ (l : List Int) (H : Hp), DpAll K H (l.map V.int) (l.map PyData.int) := fun l H => by
    induction l with
    | nil => exact .nil
    | cons i l ih => exact .cons (.int i) ih
  exact all _ _
/-- a dict of words that stays -/
def wsR (K : PySem.W.Frag) (P : Program) (w : World) (a : Addr) (ws : List Wd) : Rel := fun B v => ∃ kvs, v = .ref a ∧ B a = some (DicO P w a kvs) ∧ Ws K B ws kvs
instance {a : Addr} {ws : List Wd} : Mo (wsR K P w a ws) := ⟨fun s ⟨kvs, e, h, q⟩ => ⟨kvs, e, s _ _ h, q.mono s⟩⟩
def wordD (x : Wd) : PyData := .tuple (x.map .int)
theorem keyDt_wk (x : Wd) : keyDt (wk x) = wordD x := by
  unfold keyDt wk wordD
  rw [List.map_map]
  rfl
theorem dle_word (a b : Wd) : dle (wordD a) (wordD b) = decide (a ≤ b) := by
  have h := congrFun (congrFun (PySem.W.dataLe_rows (fun x : Wd => x)) a) b
  rw [← h]
  show (!PySem.W.dataLt (.tuple (b.map .int)) (.tuple (a.map .int))) = (!PySem.W.dataLt (.list (b.map .int)) (.list (a.map .int)))
  rw [PySem.W.dataLt_tuple, PySem.W.dataLt_list]
theorem sortD_words (ws : List Wd) : sortD (ws.map wordD) = (sortW ws).map wordD := by
  unfold sortD sortW
  exact (List.map_mergeSort (s := dle) (f := wordD) (r := fun a b => decide (a ≤ b)) (fun a _ b _ => (dle_word a b).symm)).symm
theorem alike_ints : ∀ a b : Wd, PySem.W.alikeAll (a.map .int) (b.map .int) = true
  | [], _ => by simp [PySem.W.alikeAll]
  | _ :: _, [] => by simp [PySem.W.alikeAll]
  | x :: a, y :: b => by
    simp only [List.map_cons, PySem.W.alikeAll, PySem.W.alike, Bool.true_and]
    exact alike_ints a b
theorem alike_words (ws : List Wd) : PySem.W.AllAlike (ws.map wordD) := by
  intro d hd d' hd'
  obtain ⟨a, _, rfl⟩ := List.mem_map.mp hd
  obtain ⟨b, _, rfl⟩ := List.mem_map.mp hd'
  show PySem.W.alike (.tuple (a.map .int)) (.tuple (b.map .int)) = true
  simp only [PySem.W.alike]
  exact alike_ints a b
theorem rc_sortedW {a : Addr} {ws : List Wd} : Rc (rSortedH K P w) B [wsR K P w a ws] (dat K (.list ((sortW ws).map wordD))) := fun vs B1 H _ s2 hv Q q => by
  obtain ⟨v, r, rfl, ⟨kvs, rfl, ha, hw⟩, h2⟩ := hv
  have h2 : r = [] := h2
  subst h2
  have ek : (kvs.map fun kv => keyDt kv.1) = ws.map wordD := by
    have := congrArg (List.map keyDt) hw.keys
    rw [List.map_map, List.map_map] at this
    refine this.trans (List.map_congr_left fun x _ => keyDt_wk x)
  refine ⟨a, kvs, rfl, s2 _ _ ha, fun p hp => (hw.at_ p hp).same s2, by rw [ek]; exact alike_words ws, fun p hn => ?_⟩
  rw [← sortD_words, ← ek] at q
  exact q _ (upd B1 p _) _ (.new s2 hn) (.lst (SqL.of upd_same) (dpMonoAll (new_same (s2.free hn)) _ _ (dp_sort (dp_ens hw.at_))))
end
end Wv

set_option Elab.async false
set_option linter.all false
set_option maxRecDepth 100000
set_option maxHeartbeats 4000000
/-! Fm3: names: small letters alone, so many of them; their order. -/
namespace Fm
open PySem PySem.Spec PyProof.Rows L2 Wb Wv
def NmL (m n : Nat) (z : Str) : Prop := m ≤ z.length ∧ z.length ≤ n ∧ ∀ c ∈ z.cps.toList, 97 ≤ c ∧ c ≤ 122
theorem app_cps (x y : Str) : (x ++ y).cps.toList = x.cps.toList ++ y.cps.toList := Array.toList_append
theorem app_len (x y : Str) : (x ++ y).length = x.length + y.length := by
  show (x ++ y).cps.size = x.cps.size + y.cps.size
  rw [← Array.length_toList, app_cps, List.length_append]
  rfl
theorem NmL.mono {m n m' n' : Nat} {z : Str} (h : NmL m n z) (h1 : m' ≤ m) (h2 : n ≤ n') : NmL m' n' z := ⟨Nat.le_trans h1 h.1, Nat.le_trans h.2.1 h2, h.2.2⟩
theorem NmL.nmk {m n : Nat} {z : Str} (h : NmL m n z) : Nmk n z := ⟨h.2.1, fun c hc => by have := h.2.2 c hc; omega⟩
theorem NmL.app {m n m' n' : Nat} {x y : Str} (h : NmL m n x) (g : NmL m' n' y) : NmL (m + m') (n + n') (x ++ y) := by
  refine ⟨by rw [app_len]; exact Nat.add_le_add h.1 g.1, by rw [app_len]; exact Nat.add_le_add h.2.1 g.2.1, fun c hc => ?_⟩
  rw [app_cps] at hc
  exact (List.mem_append.mp hc).elim (h.2.2 c) (g.2.2 c)
theorem NmL.one {a : Nat} (h : 97 ≤ a ∧ a ≤ 122) : NmL 1 1 ⟨#[a]⟩ := ⟨Nat.le_refl _, Nat.le_refl _, fun c hc => by
  have : c = a := by simpa using hc
  omega⟩
theorem cutS_len (z : Str) (lo hi : Option Int) : (cutS z lo hi).length = min (HT.sIx z.length z.length hi - HT.sIx z.length 0 lo) (z.length - HT.sIx z.length 0 lo) := by
  unfold cutS
  show (List.toArray _).size = _
  rw [List.size_toArray, List.length_take, List.length_drop]
  rfl
/-- a stem with another sign at a place, or behind it -/
theorem NmL.stem {z : Str} {a : Nat} {r : Int} (hz : NmL 1 8 z) (ha : 97 ≤ a ∧ a ≤ 122) (r0 : 0 ≤ r) (r8 : r < 8) : NmL 1 8 (cutS z none (some r) ++ ⟨#[a]⟩ ++ cutS z (some (r + 1)) none) := by
  obtain ⟨n, rfl⟩ := Int.eq_ofNat_of_zero_le r0
  have l1 : (cutS z none (some (n : Int))).length = min n z.length := by
    rw [cutS_len, HT.sIx_nat, HT.sIx_none]
    omega
  have l2 : (cutS z (some ((n : Int) + 1)) none).length = z.length - min (n + 1) z.length := by
    rw [cutS_len, show ((n : Int) + 1) = ((n + 1 : Nat) : Int) from rfl, HT.sIx_nat, HT.sIx_none]
    omega
  have one : (⟨#[a]⟩ : Str).length = 1 := rfl
  have h8 := hz.2.1
  have h1 := hz.1
  refine ⟨by rw [app_len, app_len, one]; omega, by rw [app_len, app_len, one, l1, l2]; omega, fun c hc => ?_⟩
  rw [app_cps, app_cps] at hc
  rcases List.mem_append.mp hc with hc | hc
  · rcases List.mem_append.mp hc with hc | hc
    · exact hz.2.2 c (cutS_mem hc)
    · exact (NmL.one ha).2.2 c hc
  · exact hz.2.2 c (cutS_mem hc)
theorem join_nmL0 {sep : Str} (hs : sep.length = 0) : ∀ {zs : List Str}, (∀ z ∈ zs, NmL 1 1 z) → NmL zs.length zs.length (Str.join sep zs)
  | [], _ => ⟨Nat.zero_le _, Nat.zero_le _, fun c hc => by cases hc⟩
  | [x], h => h x List.mem_cons_self
  | x :: y :: r, h => by
    have a := h x List.mem_cons_self
    have b := join_nmL0 hs (zs := y :: r) fun z hz => h z (List.mem_cons_of_mem _ hz)
    have s0 : NmL 0 0 sep := ⟨Nat.zero_le _, by omega, fun c hc => by
      have : sep.cps.toList = [] := List.eq_nil_of_length_eq_zero (by rw [Array.length_toList]; exact hs)
      rw [this] at hc
      cases hc⟩
    show NmL _ _ (x ++ sep ++ Str.join sep (y :: r))
    refine ((a.app s0).app b).mono ?_ ?_
    all_goals
      simp only [List.length_cons]
      omega
theorem join_nmL {sep : Str} (hs : sep.length = 0) {zs : List Str} (h : ∀ z ∈ zs, NmL 1 1 z) : NmL zs.length zs.length (Txt.join sep zs) := by
  unfold Txt.join
  rw [StrLaws.glued_eq_join]
  exact join_nmL0 hs h
/-! ### what is asked of a name -/
theorem letters_are : ∀ c, 97 ≤ c → c ≤ 122 → Unicode.isAlpha c = true ∧ Unicode.isLower c = true ∧ Unicode.isUpper c = false ∧ Unicode.isTitle c = false := by
  intro c h1 h2
  have : ∀ c ∈ (List.range 26).map (· + 97), Unicode.isAlpha c = true ∧ Unicode.isLower c = true ∧ Unicode.isUpper c = false ∧ Unicode.isTitle c = false := by decide +kernel
  exact this c (List.mem_map.mpr ⟨c - 97, List.mem_range.mpr (by omega), by omega⟩)
theorem NmL.ascii {m n : Nat} {z : Str} (h : NmL m n z) : Txt.isascii z = true := by
  unfold Txt.isascii
  rw [← Array.all_toList, List.all_eq_true]
  intro c hc
  have := h.2.2 c hc
  exact decide_eq_true (by omega)
theorem NmL.alpha {m n : Nat} {z : Str} (h : NmL m n z) (m1 : 1 ≤ m) : Txt.isalpha z = true := by
  unfold Txt.isalpha
  rw [Bool.and_eq_true]
  refine ⟨decide_eq_true (Nat.lt_of_lt_of_le m1 h.1), ?_⟩
  rw [← Array.all_toList, List.all_eq_true]
  intro c hc
  have := h.2.2 c hc
  exact (letters_are c this.1 this.2).1
theorem NmL.lower {m n : Nat} {z : Str} (h : NmL m n z) (m1 : 1 ≤ m) : Txt.islower z = true := by
  unfold Txt.islower
  have len : 0 < z.cps.toList.length := by
    rw [Array.length_toList]
    exact Nat.lt_of_lt_of_le m1 h.1
  have h0 : z.cps.toList[0] ∈ z.cps.toList := List.getElem_mem len
  rw [Bool.and_eq_true]
  constructor
  · rw [← Array.any_toList, List.any_eq_true]
    have := h.2.2 _ h0
    exact ⟨_, h0, (letters_are _ this.1 this.2).2.1⟩
  · rw [Bool.not_eq_true', ← Array.any_toList, List.any_eq_false]
    intro c hc
    have := h.2.2 c hc
    obtain ⟨_, _, a, b⟩ := letters_are c this.1 this.2
    rw [a, b]
    decide
/-! ### the order of names -/
def Sl (a b : Str) : Prop := a.cps.toList < b.cps.toList
theorem dle_str (a b : Str) : dle (.str a) (.str b) = decide (a.cps.toList ≤ b.cps.toList) := by
  unfold dle PySem.W.dataLe PySem.W.sortLe
  simp only [PySem.W.keyToks, cond_false]
  show (!PyProof.Rows.lexLt PyProof.Rows.itemOrd [.inr b.cps.toList] [.inr a.cps.toList]) = _
  unfold PyProof.Rows.lexLt
  show (!(decide (b.cps.toList < a.cps.toList) || (!decide (a.cps.toList < b.cps.toList) && PyProof.Rows.lexLt PyProof.Rows.itemOrd [] []))) = _
  unfold PyProof.Rows.lexLt
  rw [Bool.and_false, Bool.or_false]
  by_cases h : b.cps.toList < a.cps.toList
  · rw [decide_eq_true h]
    exact (decide_eq_false (fun z => List.not_lt.mpr z h)).symm
  · rw [decide_eq_false h]
    exact (decide_eq_true (List.not_lt.mp h)).symm
theorem str_ext {a b : Str} (h : a.cps.toList = b.cps.toList) : a = b := by
  cases a
  cases b
  simpa using h
theorem sorted_strs {zs : List Str} (nd : zs.Nodup) : ∃ ys : List Str, ys.Perm zs ∧ sortD (zs.map .str) = ys.map .str ∧ ys.Pairwise Sl := by
  refine ⟨zs.mergeSort fun a b => dle (.str a) (.str b), List.mergeSort_perm _ _, ?_, ?_⟩
  · unfold sortD
    rw [List.map_mergeSort (s := dle) (f := PyData.str) (fun a _ b _ => rfl)]
  · have p := List.pairwise_mergeSort (le := fun a b : Str => dle (.str a) (.str b)) (fun a b c h1 h2 => by
      simp only [dle_str, decide_eq_true_eq] at *
      exact List.le_trans h1 h2) (fun a b => by
      simp only [dle_str, Bool.or_eq_true, decide_eq_true_eq]
      exact List.le_total _ _) zs
    have n : (zs.mergeSort fun a b => dle (.str a) (.str b)).Nodup := (List.mergeSort_perm _ _).nodup_iff.mpr nd
    refine (List.Pairwise.and p n).imp fun {a b} ⟨h1, h2⟩ => ?_
    rw [dle_str, decide_eq_true_eq] at h1
    unfold Sl
    by_cases h : a.cps.toList < b.cps.toList
    · exact h
    · exact absurd (str_ext (List.le_antisymm h1 (List.not_lt.mp h))) h2
end Fm

set_option Elab.async false
set_option linter.all false
set_option maxRecDepth 100000
set_option maxHeartbeats 4000000
/-! Wx2: lists turned, tuples cut. -/
namespace Wv
open PySem PySem.Spec PyProof.Rows L2 Wb
theorem dpAll_rev {K : PySem.W.Frag} {B : Hp} : ∀ {vs : List V} {ds : List PyData}, DpAll K B vs ds → DpAll K B vs.reverse ds.reverse
  | _, _, .nil => .nil
  | _, _, .cons h t => by
    rw [List.reverse_cons, List.reverse_cons]
    exact dpAll_app (dpAll_rev t) (.cons h .nil)
section
variable {K : PySem.W.Frag} {σ : L2.St} {B H : Hp} {te : TE}
theorem De.revL {ds : List PyData} (h : De te σ B (dat K (.list ds))) : De (tRevL K te) σ B (dat K (.list ds.reverse)) := fun B1 H s1 s2 Q q => h B1 H s1 s2 _ fun v B2 H2 e hv => by
  obtain ⟨p, xs, rfl, hs, hR⟩ := dat_lstR hv
  exact ⟨p, xs, rfl, e.bh.seq hs, fun p2 hp2 => q _ _ _ (e.trans (Ext.new e.bh hp2)) (.lst (SqL.of upd_same) (dpMonoAll (new_same (e.bh.free hp2)) _ _ (dpAll_rev (allR_dp hR))))⟩
theorem De.slT {ds : List PyData} {tl th : TO} {lo hi : Option Int} (h : De te σ B (dat K (.tuple ds))) (h1 : Do tl σ B lo) (h2 : Do th σ B hi) : De (L2.tSl (rSlA K) te tl th) σ B (dat K (.tuple (cutA ds lo hi))) :=
  .sl h h1 h2 fun x B1 H s1 s2 hx Q q => by
    have hx0 := hx
    obtain ⟨a, xs, rfl, hs, hR⟩ := dat_tupR hx
    have g := allR_dp hR
    have len : xs.length = ds.length := dpAll_len g
    refine ⟨a, xs, rfl, seqT s2 hs, fun hw => q _ B1 H (.refl s2) ?_, fun _ p hp => q _ (upd B1 p (.tup (cutV xs lo hi))) _ (.new s2 hp) ?_⟩
    · have : cutA ds lo hi = ds := by
        unfold cutA
        rw [← len, hw.1, hw.2, List.drop_zero, Nat.sub_zero, len]
        exact List.take_length
      rw [this]
      exact hx0
    · refine .tup (SqT.of upd_same) (dpMonoAll (new_same (s2.free hp)) _ _ ?_)
      unfold cutV cutA
      rw [len]
      exact dpAll_take _ (dpAll_drop _ g)
theorem cutA_init {α : Type} (xs : List α) (x : α) : cutA (xs ++ [x]) none (some (-1)) = xs := by
  unfold cutA
  rw [HT.sIx_none, Nat.sub_zero, List.drop_zero]
  have : HT.sIx (xs ++ [x]).length (xs ++ [x]).length (some (-1)) = xs.length := by
    show (if (-1 : Int) < 0 then ((-1 : Int) + (((xs ++ [x]).length : Nat) : Int)).toNat else min (-1 : Int).toNat (xs ++ [x]).length) = _
    rw [if_pos (by decide), List.length_append]
    show ((-1 : Int) + ((xs.length + 1 : Nat) : Int)).toNat = _
    omega
  rw [this, List.take_left']
  rfl
end
end Wv

set_option Elab.async false
set_option linter.all false
set_option maxRecDepth 100000
set_option maxHeartbeats 4000000
/-! Wx3: tuples of numbers compared, texts compared, is None. -/
namespace Wv
open PySem PySem.Spec PyProof.Rows L2 Wb
theorem lexAt_shift {e r : Nat → Bool} {z : Bool} : ∀ (k i : Nat), Ob.lexAt e r z (i + 1) k = Ob.lexAt (fun j => e (j + 1)) (fun j => r (j + 1)) z i k
  | 0, _ => rfl
  | k + 1, i => by
    rw [Ob.lexAt_succ, Ob.lexAt_succ, lexAt_shift k (i + 1)]
theorem lexAt_le : ∀ ns ms : List Int, Ob.lexAt (fun j => decide (ns.getD j 0 = ms.getD j 0)) (fun j => decide (ns.getD j 0 ≤ ms.getD j 0)) (decide (ns.length ≤ ms.length)) 0 (min ns.length ms.length) = decide (ns ≤ ms)
  | [], ms => by
    rw [List.length_nil, Nat.zero_min, Ob.lexAt_zero]
    simp
  | n :: ns, [] => by
    rw [List.length_nil, Nat.min_zero, Ob.lexAt_zero]
    simp
  | n :: ns, m :: ms => by
    have ih := lexAt_le ns ms
    rw [List.length_cons, List.length_cons, Nat.succ_min_succ, Ob.lexAt_succ, lexAt_shift]
    simp only [List.getD_cons_zero, List.getD_cons_succ, Nat.add_le_add_iff_right]
    rw [ih]
    by_cases h : n = m
    · subst h
      simp [List.cons_le_cons_iff]
    · have : (n :: ns ≤ m :: ms) ↔ n ≤ m := by
        rw [List.cons_le_cons_iff]
        constructor
        · rintro (h1 | h1)
          · omega
          · exact absurd h1.1 h
        · intro h1
          exact .inl (by omega)
      simp [h, this]
section
variable {K : PySem.W.Frag} {σ : L2.St} {B H : Hp} {te ta : TE}
theorem s_skip' {tt : TT} {t : TS} {D : Ends} (h : Dt tt σ B false) (hB : Same B H) (k : ∀ B' H', Ext B H B' H' → D.nx σ H') : tIfS tt t tNext D σ H := s_if h hB (fun z => nomatch z) fun _ => k
theorem ints_vals {K : PySem.W.Frag} {B : Hp} : ∀ {w : List Int} {xs : List V}, DpAll K B xs (w.map .int) → xs = w.map V.int
  | [], _, .nil => rfl
  | i :: w, _, .cons h t => by
    cases h
    rw [List.map_cons, ints_vals t]
theorem Rv.leT {a b : List Int} : Rv (rLeT K) B (dat K (.tuple (a.map .int))) (dat K (.tuple (b.map .int))) (dat K (.bool (decide (a ≤ b)))) := fun x y B1 H _ s2 hx hy Q q => by
  cases hx with
  | tup hs hd =>
    cases hy with
    | tup hs2 hd2 =>
      refine ⟨_, _, a, b, rfl, rfl, ints_vals hd ▸ seqT s2 hs, ints_vals hd2 ▸ seqT s2 hs2, ?_⟩
      rw [lexAt_le]
      exact q _ B1 H (.refl s2) (.bl _)
theorem Rv.gtS {a b : Str} : Rv (fun x y H Q => ∃ i j, x = .str i ∧ y = .str j ∧ Q (.bl (decide (j.cps.toList < i.cps.toList))) H) B (dat K (.str a)) (dat K (.str b)) (dat K (.bool (decide (b.cps.toList < a.cps.toList)))) := fun x y B1 H _ s2 hx hy Q q =>
  ⟨a, b, dat_str hx, dat_str hy, q _ B1 H (.refl s2) (.bl _)⟩
theorem Rv.isNone : Rv (fun x y H Q => y = .non ∧ Q (.bl (decide (x = .non))) H) B (dat K .none) (dat K .none) (dat K (.bool true)) := fun x y B1 H _ s2 hx hy Q q => by
  cases hx
  cases hy
  exact ⟨rfl, q _ B1 H (.refl s2) (.bl _)⟩
end
end Wv

set_option Elab.async false
set_option linter.all false
set_option maxRecDepth 100000
set_option maxHeartbeats 4000000
/-! Wx4: a thing put into a list at a drawn place. -/
namespace Wv
open PySem PySem.Spec PyProof.Rows L2 Wb
abbrev rIns : V → List V → Hp → VK → Prop := fun x vs H Q => ∃ (l : Addr) (xs : List V) (i : Int) (y : V), x = .ref l ∧ vs = [.int i, y] ∧ H l = some (.lst xs) ∧ xs.length < sizeLine ∧ 0 ≤ i ∧ i < 2 ^ 63 ∧
    Q .non (upd H l (.lst (xs.take i.toNat ++ [y] ++ xs.drop i.toNat)))
section
variable {K : PySem.W.Frag} {σ : L2.St} {d c M : Addr} {B H : Hp} {E : XK} {i j n : Nat} {Q : VK}
theorem s_drop {te : TE} {rest : TS} {D : Ends} (h : te σ H fun _ H' => rest D σ H') : tSeq (tDrop te) rest D σ H := h
theorem s_dropE {te : TE} {D : Ends} (h : te σ H fun _ H' => D.nx σ H') : tDrop te D σ H := h
theorem c_insAny {xs : List V} {v : V} (L : Dl B H d c) (hd : σ[i]? = some (some (.ref d))) (hm : σ[j]? = some (some (.ref M))) (m : Ml d c B H M xs) (few : xs.length ≤ 1000) (hv : σ[n]? = some (some v))
    (k : ∀ (r : Nat) H', ExtD d c B H B H' → Ml d c B H' M xs → Q .non (upd H' M (.lst (xs.take r ++ [v] ++ xs.drop r)))) :
    tBM K "list" rIns (tVar j) (tCons (tCall spAny [] E (tCons (tVar i) (tCons (tOp (rI0 fun i j => V.int (i + j)) (tCB (rLen K) (tCons (tVar j) tNil)) (tC (.int 1))) tNil))) (tCons (tVar n) tNil)) σ H Q :=
  ⟨.ref M, hm, .inl ⟨rfl, xs, SqL.of m.at_⟩, .ref d, hd, .ref M, hm, .ref M, xs.length, rfl, .inl ⟨xs, SqL.of m.at_, rfl⟩, _, _, rfl, rfl, d, c, (xs.length : Int) + 1, rfl, L.deal, by omega, by omega, fun r H2 r0 r1 D2 S2 => by
    have e : ExtD d c B H B H2 := .draw L D2 S2
    have m' := m.ext e
    have := k r.toNat H2 e m'
    exact ⟨v, hv, M, xs, r, v, rfl, rfl, m'.at_, by rw [sizeLine_eq]; omega, r0, by omega, this⟩⟩
end
end Wv

set_option Elab.async false
set_option linter.all false
set_option maxRecDepth 100000
set_option maxHeartbeats 4000000
/-! Wx5: tests while the deal is drawn from, whose outcome is told. -/
namespace Wv
open PySem PySem.Spec PyProof.Rows L2 Wb
def Dwt (tt : TT) (σ : L2.St) (d c : Addr) (B : Hp) (b : Bool) : Prop := ∀ B1 H, Same B B1 → Dl B1 H d c → ∀ Q : Bool → Hp → Prop, (∀ B' H', ExtD d c B1 H B' H' → Q b H') → tt σ H Q
section
variable {K : PySem.W.Frag} {σ : L2.St} {d c : Addr} {B B' H : Hp} {te ta tb : TE} {tt tu : TT} {R S T : Rel} {D : Ends} {rest t u : TS}
theorem Dwt.of {b : Bool} (h : Dt tt σ B b) : Dwt tt σ d c B b := fun B1 H s L Q k => h B1 H s L.bh Q fun B' H' e => k B' H' (.of L e)
theorem Dwt.mono {b : Bool} (s : Same B B') (h : Dwt tt σ d c B b) : Dwt tt σ d c B' b := fun B1 H s1 L => h B1 H (s.trans s1) L
theorem Dwt.test {b : Bool} (h : Dw te σ d c B (dat K (.bool b))) : Dwt (tTest te) σ d c B b := fun B1 H s L Q k => h B1 H s L _ fun v B' H' e hv => ⟨b, dat_bl hv, k B' H' e⟩
theorem Dwt.tB {b : Bool} (h : Dw te σ d c B (dat K (.bool b))) : Dwt (tB te) σ d c B b := fun B1 H s L Q k => h B1 H s L _ fun v B' H' e hv => ⟨b, dat_bl hv, k B' H' e⟩
theorem Dwt.not {a : Bool} (h : Dwt tt σ d c B a) : Dwt (tNot tt) σ d c B (!a) := fun B1 H s L Q k => h B1 H s L _ k
theorem Dwt.eq {a b : Bool} (h : Dwt tt σ d c B a) (z : a = b) : Dwt tt σ d c B b := z ▸ h
theorem Dwt.or {a b : Bool} (h1 : Dwt tt σ d c B a) (h2 : a = false → Dwt tu σ d c B b) : Dwt (tOr tt tu) σ d c B (a || b) := fun B1 H s L Q k => h1 B1 H s L _ fun B2 H2 e => by
  cases a with
  | true => exact k B2 H2 e
  | false => exact h2 rfl B2 H2 (s.trans e.bb) e.dl Q fun B3 H3 e3 => k B3 H3 (e.trans L e3)
theorem s_skipW (L : Dl B H d c) (h : Dwt tt σ d c B false) (k : ∀ B' H', ExtD d c B H B' H' → rest D σ H') : tSeq (tIfS tt t tNext) rest D σ H := h B H (Same.refl _) L _ fun B' H' e => k B' H' e
end
end Wv

set_option Elab.async false
set_option linter.all false
set_option maxRecDepth 100000
set_option maxHeartbeats 4000000
/-! K05t: any values as forms, told of data. -/
namespace K05
open PySem PySem.Spec PyProof.Rows L2 Wb Wv Fm
/-- an integer, no bool, in a stretch -/
def isInD (d : PyData) (lo hi : Int) : Bool := match d with
  | .int i => decide (lo ≤ i) && decide (i ≤ hi)
  | _ => false
/-- a name by its signs -/
def isNm2 (z : Str) : Bool := decide (1 ≤ z.length ∧ z.length ≤ 8) && z.cps.toList.all fun c => decide (97 ≤ c) && decide (c ≤ 122)
theorem small_alpha : ∀ c, c < 128 → (Unicode.isAlpha c && !(Unicode.isUpper c || Unicode.isTitle c)) = (decide (97 ≤ c) && decide (c ≤ 122)) := by
  intro c h
  have : ∀ c ∈ List.range 128, (Unicode.isAlpha c && !(Unicode.isUpper c || Unicode.isTitle c)) = (decide (97 ≤ c) && decide (c ≤ 122)) := by decide +kernel
  exact this c (List.mem_range.mpr h)
theorem nm_eq (z : Str) : isNmS z = isNm2 z := by
  unfold isNmS isNm2
  by_cases hl : 1 ≤ z.length ∧ z.length ≤ 8
  · rw [decide_eq_true hl, Bool.true_and, Bool.true_and]
    by_cases hs : ∀ c ∈ z.cps.toList, 97 ≤ c ∧ c ≤ 122
    · have nm : NmL 1 8 z := ⟨hl.1, hl.2, hs⟩
      rw [nm.ascii, nm.alpha (by decide), nm.lower (by decide)]
      symm
      rw [Bool.and_self, Bool.and_self, List.all_eq_true]
      intro c hc
      have := hs c hc
      rw [decide_eq_true this.1, decide_eq_true this.2]
      rfl
    · have r : (z.cps.toList.all fun c => decide (97 ≤ c) && decide (c ≤ 122)) = false := by
        rw [Bool.eq_false_iff]
        intro h
        rw [List.all_eq_true] at h
        exact hs fun c hc => by
          have := h c hc
          rw [Bool.and_eq_true, decide_eq_true_eq, decide_eq_true_eq] at this
          exact this
      rw [r, Bool.eq_false_iff]
      intro h
      rw [Bool.and_eq_true, Bool.and_eq_true] at h
      obtain ⟨h1, h2, h3⟩ := h
      unfold Txt.isascii at h1
      unfold Txt.isalpha at h2
      unfold Txt.islower at h3
      rw [← Array.all_toList, List.all_eq_true] at h1
      rw [Bool.and_eq_true, ← Array.all_toList, List.all_eq_true] at h2
      rw [Bool.and_eq_true, Bool.not_eq_true', ← Array.any_toList (p := fun c => Unicode.isUpper c || Unicode.isTitle c), List.any_eq_false] at h3
      exact hs fun c hc => by
        have a := of_decide_eq_true (h1 c hc)
        have b := h2.2 c hc
        have d := h3.2 c hc
        have e := small_alpha c a
        rw [b, Bool.true_and] at e
        have d : (Unicode.isUpper c || Unicode.isTitle c) = false := by simpa using d
        rw [d, Bool.not_false] at e
        have e := e.symm
        rw [Bool.and_eq_true, decide_eq_true_eq, decide_eq_true_eq] at e
        exact e
  · rw [decide_eq_false hl, Bool.false_and, Bool.false_and]
/-- a question, by itself -/
def okP (d : PyData) : Bool := match d with
  | .tuple [x, y] => isNmD x && isInD y 2 9
  | _ => false
def nmOf (d : PyData) : Str := match d with
  | .tuple (.str z :: _) => z
  | _ => ⟨#[]⟩
theorem okP_form {d : PyData} (h : okP d = true) : ∃ z i, d = .tuple [.str z, .int i] ∧ isNmS z = true ∧ 2 ≤ i ∧ i ≤ 9 := by
  unfold okP at h
  split at h
  · rename_i x y
    rw [Bool.and_eq_true] at h
    obtain ⟨h1, h2⟩ := h
    cases x with
    | str z =>
      cases y with
      | int i =>
        unfold isInD at h2
        rw [Bool.and_eq_true, decide_eq_true_eq, decide_eq_true_eq] at h2
        exact ⟨z, i, rfl, h1, h2.1, h2.2⟩
      | none => cases h2
      | bool b => cases h2
      | str b => cases h2
      | list b => cases h2
      | tuple b => cases h2
      | dict b => cases h2
    | none => cases h1
    | bool b => cases h1
    | int b => cases h1
    | list b => cases h1
    | tuple b => cases h1
    | dict b => cases h1
  · cases h
/-- whether a question may stand at a place -/
def okAt (ds : List PyData) (i : Nat) : Bool := match ds[i]? with
  | some d => okP d && (decide (i = 0) || (match ds[i - 1]? with | some p => decide ((nmOf p).cps.toList < (nmOf d).cps.toList) | none => false))
  | none => false
/-- the first that may not stand where it stands -/
def faultN (ds : List PyData) : Option Nat := (List.range ds.length).find? fun i => !okAt ds i
theorem find_first {p : Nat → Bool} {n i : Nat} (h : i < n) (hi : p i = true) (lt : ∀ j, j < i → p j = false) : (List.range n).find? p = some i := by
  rw [List.find?_eq_some_iff_append]
  refine ⟨hi, List.range i, (List.range' (i + 1) (n - i - 1)), ?_, fun a ha => by rw [lt a (List.mem_range.mp ha)]; rfl⟩
  rw [List.range_eq_range', List.range_eq_range']
  have : n = i + (n - i) := by omega
  conv => lhs; rw [this]
  rw [← List.range'_append_1, Nat.zero_add]
  congr 1
  have : n - i = (n - i - 1) + 1 := by omega
  rw [this, List.range'_succ]
  rfl
theorem fault_at {ds : List PyData} {i : Nat} (h : i < ds.length) (bad : okAt ds i = false) (lt : ∀ j, j < i → okAt ds j = true) : faultN ds = some i := find_first h (by rw [bad]; rfl) fun j hj => by rw [lt j hj]; rfl
theorem fault_none {ds : List PyData} (all : ∀ j, j < ds.length → okAt ds j = true) : faultN ds = none := by
  unfold faultN
  rw [List.find?_eq_none]
  intro j hj
  rw [all j (List.mem_range.mp hj)]
  decide
/-- what is told of any value's questions -/
def faultD (d : PyData) : PyData := match d with
  | .tuple ds => if 1 ≤ ds.length ∧ ds.length ≤ 8 then (match faultN ds with | some i => .int (i : Int) | none => .none) else .int (-1)
  | _ => .int (-1)
theorem okAt_ok {ds : List PyData} {i : Nat} {d : PyData} (hd : ds[i]? = some d) (h : okAt ds i = true) : okP d = true := by
  unfold okAt at h
  rw [hd] at h
  exact (Bool.and_eq_true _ _ ▸ h).1
theorem okAt_zero {ds : List PyData} {d : PyData} (hd : ds[0]? = some d) : okAt ds 0 = okP d := by
  unfold okAt
  rw [hd]
  simp
theorem okAt_succ {ds : List PyData} {i : Nat} {p d : PyData} (hp : ds[i]? = some p) (hd : ds[i + 1]? = some d) : okAt ds (i + 1) = (okP d && decide ((nmOf p).cps.toList < (nmOf d).cps.toList)) := by
  unfold okAt
  rw [hd, Nat.add_sub_cancel, hp]
  simp
/-- a form, as its questions tell -/
structure Good (qs : Qs) : Prop where
  pos : 1 ≤ qs.length
  few : qs.length ≤ 8
  two : ∀ q ∈ qs, 2 ≤ q.2 ∧ q.2 ≤ 9
  nm : ∀ z ∈ Fm.names qs, NmL 1 8 z
  asc : (Fm.names qs).Pairwise Sl
theorem good_of {d : PyData} (h : faultD d = .none) : ∃ qs, d = qsD qs ∧ Good qs := by
  unfold faultD at h
  split at h
  · rename_i ds
    by_cases hl : 1 ≤ ds.length ∧ ds.length ≤ 8
    · rw [if_pos hl] at h
      have fn : faultN ds = none := by
        cases e : faultN ds with
        | none => rfl
        | some i => rw [e] at h; cases h
      have all : ∀ i, i < ds.length → okAt ds i = true := fun i hi => by
        unfold faultN at fn
        rw [List.find?_eq_none] at fn
        have := fn i (List.mem_range.mpr hi)
        simpa using this
      have okd : ∀ d ∈ ds, okP d = true := fun d hd => by
        obtain ⟨i, hi, rfl⟩ := List.mem_iff_getElem.mp hd
        exact okAt_ok (List.getElem?_eq_getElem hi) (all i hi)
      have ex : ∀ {ds : List PyData}, (∀ d ∈ ds, okP d = true) → ∃ qs : Qs, ds = qs.map encQ ∧ ∀ q ∈ qs, isNmS q.1 = true ∧ 2 ≤ q.2 ∧ q.2 ≤ 9 := fun {ds} => by
        induction ds with
        | nil => exact fun _ => ⟨[], rfl, fun q h => nomatch h⟩
        | cons d ds ih =>
          intro h
          obtain ⟨z, i, rfl, h1, h2, h3⟩ := okP_form (h d List.mem_cons_self)
          obtain ⟨qs, rfl, hq⟩ := ih fun d hd => h d (List.mem_cons_of_mem _ hd)
          refine ⟨(z, i.toNat) :: qs, by rw [List.map_cons]; unfold encQ; rw [show ((i.toNat : Nat) : Int) = i by omega], fun q hq2 => ?_⟩
          rcases List.mem_cons.mp hq2 with rfl | hq2
          · exact ⟨h1, by omega, by omega⟩
          · exact hq q hq2
      obtain ⟨qs, rfl, hq⟩ := ex okd
      rw [List.length_map] at hl all
      have nm : ∀ q ∈ qs, NmL 1 8 q.1 := fun q h => by
        have := (hq q h).1
        rw [nm_eq] at this
        unfold isNm2 at this
        rw [Bool.and_eq_true, decide_eq_true_eq, List.all_eq_true] at this
        exact ⟨this.1.1, this.1.2, fun c hc => by have := this.2 c hc; rw [Bool.and_eq_true, decide_eq_true_eq, decide_eq_true_eq] at this; exact this⟩
      refine ⟨qs, rfl, hl.1, hl.2, fun q h => (hq q h).2, fun z hz => ?_, ?_⟩
      · obtain ⟨q, h, rfl⟩ := List.mem_map.mp hz
        exact nm q h
      · have step : ∀ i (h : i + 1 < qs.length), Sl (qs[i]'(by omega)).1 qs[i + 1].1 := fun i h => by
          have a := all (i + 1) h
          rw [okAt_succ (p := encQ (qs[i]'(by omega))) (d := encQ qs[i + 1]) (by rw [List.getElem?_map, List.getElem?_eq_getElem (by omega)]; rfl) (by rw [List.getElem?_map, List.getElem?_eq_getElem h]; rfl), Bool.and_eq_true, decide_eq_true_eq] at a
          exact a.2
        unfold Fm.names
        rw [List.pairwise_map, List.pairwise_iff_getElem]
        intro i j hi hj ij
        have go : ∀ k, ∀ h : i + k + 1 < qs.length, Sl (qs[i]'hi).1 (qs[i + k + 1]).1 := fun k => by
          induction k with
          | zero => exact fun h => step i h
          | succ k ih => exact fun h => List.lt_trans (ih (by omega)) (step (i + k + 1) h)
        have := go (j - i - 1) (by omega)
        have e : i + (j - i - 1) + 1 = j := by omega
        simpa only [e] using this
    · rw [if_neg hl] at h
      cases h
  · cases h
end K05

set_option Elab.async false
set_option linter.all false
set_option maxRecDepth 100000
set_option maxHeartbeats 4000000
/-! K05b: the program, of any value. -/
namespace K05
open PySem PySem.Spec PyProof.Rows L2 Wb Wv Fm
/-- what isinstance asks of a class of one's own -/
structure IsiC (K : PySem.W.Frag) (C : Addr) : Prop where
  ha : PySem.W.findIn K (.ref C) "__class__" = some (some (.builtin "object.__class__"))
  hn : PySem.W.specialIn K (.builtin "object.__class__") "__get__" = some (some (.builtin "getset_descriptor.__get__"))
  ht : PySem.W.takesIn K (.builtin "object.__class__") = some true
/-- .. and that no built-in class is it -/
def NotC (K : PySem.W.Frag) (C : Addr) : Prop := ∀ t ∈ ["NoneType", "bool", "int", "str", "list", "tuple", "dict"], PySem.W.kitOne K (.type t) (.ref C) = some false
theorem isiC {K : PySem.W.Frag} {σ : L2.St} {B : Hp} {te : TE} {C : Addr} {fs : List (Str × Rel)} (c : Cls K C) (t : IsiC K C) (h : De te σ B (insR C fs)) : De (tCB (rIsi K) (tCons te (tCons (tC (.ref C)) tNil))) σ B (dat K (.bool true)) := fun B1 H s1 s2 Q q => h B1 H s1 s2 _ fun v B2 H2 e hv => by
  obtain ⟨a, dx, us, rfl, ha, _⟩ := hv
  refine ⟨_, _, .ref C, .ref C, true, rfl, .own C, .base (.ins (e.bh _ _ ha) c t.ha t.hn t.ht (mro_obj c)), ?_, q _ B2 H2 e (.bl true)⟩
  unfold PySem.W.kitOne
  rw [if_pos (by simp)]
theorem isiN {K : PySem.W.Frag} {σ : L2.St} {B : Hp} {te : TE} {C : Addr} {d : PyData} (n : NotC K C) (h : De te σ B (dat K d)) : De (tCB (rIsi K) (tCons te (tCons (tC (.ref C)) tNil))) σ B (dat K (.bool false)) := fun B1 H s1 s2 Q q => h B1 H s1 s2 _ fun v B2 H2 e hv =>
  ⟨v, .ref C, _, _, false, rfl, .own C, ty_dat (dpMono e.bh _ _ hv), n _ (tyN_mem d), q _ B2 H2 e (Dp.bl _)⟩
def formD (K : PySem.W.Frag) (C : Addr) (d : PyData) : Rel := insR C [("questions", dat K d)]
instance {K : PySem.W.Frag} {C : Addr} {d : PyData} : Mo (formD K C d) := by unfold formD; infer_instance
/-- a Form of anything, or anything -/
def valR (K : PySem.W.Frag) (C : Addr) (b : Bool) (d : PyData) : Rel := if b then formD K C d else dat K d
instance {K : PySem.W.Frag} {C : Addr} {b : Bool} {d : PyData} : Mo (valR K C b d) := by
  unfold valR
  cases b
  · exact inferInstanceAs (Mo (dat K d))
  · exact inferInstanceAs (Mo (formD K C d))
def valFault (b : Bool) (d : PyData) : PyData := if b then faultD d else .int (-1)
def Short (x : PyData) : Prop := ∀ y l, x = .tuple (y :: l) → ∀ z, y = .str z → z.length ≤ sizeLine
def Shorts (d : PyData) : Prop := ∀ ds, d = .tuple ds → ∀ x ∈ ds, Short x
def isNoneD (d : PyData) : Bool := match d with
  | .none => true
  | _ => false
abbrev sp_isMany (K : PySem.W.Frag) : Sp := Pf (α := PyData) (fun d => [dat K d]) (fun _ => True) (fun d => dat K (.bool (isInD d 2 9)))
abbrev sp_mayFollow (K : PySem.W.Frag) : Sp := Pf (α := List PyData × Nat × PyData) (fun a => [dat K (.tuple (a.1.take a.2.1)), dat K a.2.2]) (fun a => a.1[a.2.1]? = some a.2.2 ∧ Short a.2.2 ∧ ∀ j, j < a.2.1 → okAt a.1 j = true) (fun a => dat K (.bool (okAt a.1 a.2.1)))
abbrev sp_formFault (K : PySem.W.Frag) (C : Addr) : Sp := Pf (α := Bool × PyData) (fun a => [valR K C a.1 a.2]) (fun a => Shorts a.2) (fun a => dat K (valFault a.1 a.2))
abbrev sp_isForm (K : PySem.W.Frag) (C : Addr) : Sp := Pf (α := Bool × PyData) (fun a => [valR K C a.1 a.2]) (fun a => Shorts a.2) (fun a => dat K (.bool (isNoneD (valFault a.1 a.2))))
theorem fault_kinds (b : Bool) (d : PyData) : valFault b d = .none ∨ ∃ i, valFault b d = .int i := by
  unfold valFault faultD
  cases b
  · exact .inr ⟨-1, rfl⟩
  · simp only [if_true]
    split
    · split
      · split
        · exact .inr ⟨_, rfl⟩
        · exact .inl rfl
      · exact .inr ⟨_, rfl⟩
    · exact .inr ⟨_, rfl⟩
theorem isTup2 {d : PyData} (h : isTupD d 2 = true) : ∃ x y, d = .tuple [x, y] := by
  unfold isTupD at h
  split at h
  · rename_i ds
    have h := of_decide_eq_true h
    match ds, h with
    | [x, y], _ => exact ⟨x, y, rfl⟩
  · cases h
theorem okP_not {d : PyData} (h : isTupD d 2 = false) : okP d = false := by
  unfold okP
  split
  · cases h
  · rfl
theorem okAt_bad {ds : List PyData} {i : Nat} {d : PyData} (hd : ds[i]? = some d) (h : okP d = false) : okAt ds i = false := by
  unfold okAt
  rw [hd]
  simp [h]
section
variable {P : Program} {w : World} {K : PySem.W.Frag} {mg : Str → Option Value} {base : Heap} {C_Form C_InvalidForm C_InvalidBook C_InvalidSheets C_BlankError : Addr} {t_MOST_QUESTIONS : Tok}
theorem Rv.isNone {B : Hp} {d : PyData} : Rv (fun x y H Q => y = .non ∧ Q (.bl (decide (x = .non))) H) B (dat K d) (dat K .none) (dat K (.bool (isNoneD d))) := fun x y B1 H _ s2 hx hy Q q => by
  have ey : y = .non := by cases hy; rfl
  refine ⟨ey, ?_⟩
  have e : decide (x = V.non) = isNoneD d := by cases hx <;> rfl
  rw [e]
  exact q _ B1 H (.refl s2) (.bl _)
theorem Rv.notNone {B : Hp} {d : PyData} : Rv (fun x y H Q => y = .non ∧ Q (.bl (!decide (x = .non))) H) B (dat K d) (dat K .none) (dat K (.bool (!isNoneD d))) := fun x y B1 H _ s2 hx hy Q q => by
  have ey : y = .non := by cases hy; rfl
  refine ⟨ey, ?_⟩
  have e : (!decide (x = V.non)) = !isNoneD d := by cases hx <;> rfl
  rw [e]
  exact q _ B1 H (.refl s2) (.bl _)
theorem fldD {σ : L2.St} {B : Hp} {te : TE} {d : PyData} (c : CalC P w K mg base "Form" C_Form ["questions"]) (h : De te σ B (formD K C_Form d)) : De (tFld K te "questions") σ B (dat K d) := De.fld h c.c (c.na "questions" (by simp)) rfl
theorem De.isInt {σ : L2.St} {B : Hp} {te : TE} {E : XK} {d : PyData} (h : De te σ B (dat K d)) : De (tCall (sp_isInt K) [] E (tCons te tNil)) σ B (dat K (.bool (isIntD d))) := De.call (args := fun d => [dat K d]) (res := fun d => dat K (.bool (isIntD d))) d (.one h) trivial
theorem De.isTup {σ : L2.St} {B : Hp} {te tn : TE} {E : XK} {d : PyData} {n : Int} (h : De te σ B (dat K d)) (hn : De tn σ B (dat K (.int n))) : De (tCall (sp_isTupleOf K) [] E (tCons te (tCons tn tNil))) σ B (dat K (.bool (isTupD d n))) :=
  De.call (args := fun a : PyData × Int => [dat K a.1, dat K (.int a.2)]) (res := fun a => dat K (.bool (isTupD a.1 a.2))) (d, n) (.cons h (.cons hn .nil)) trivial
theorem sc_isMany : FnScope ["value"] ["value"] (defScope s_isMany) := ⟨rfl, rfl, rfl, by decide +kernel, rfl, by decide +kernel, by decide +kernel⟩
theorem ok_isMany (D : Def K mg "is_many" s_isMany ["value"]) (C_isInt : Cal P w K mg base CX0 1 "is_int" s_isInt ["value"] (sp_isInt K)) : Cal P w K mg base CX0 2 "is_many" s_isMany ["value"] (sp_isMany K) := by
  refine D.ok sc_isMany (fun vs H Q E h => ?_) (fun cdv f A outer s H vs Q E hr h => ?_)
  · exact pf_len h fun _ => rfl
  replace h := pf1 h
  obtain ⟨v, B, d, rfl, hB, hv, _, k⟩ := h
  refine ⟨_, (pss_one (ps_ret (pe_and (pe_cal C_isInt (hr.mono (by decide)) (by rfl) pass0 (pa_cons (pv 0) pa_nil)) (pe_one (pe_chain op_le op_le pe_int (pv 0) pe_int))))), ?_⟩
  have hv : dat K d B v := hv
  have k : ∀ (v : V) (B' H' : Hp), Ext B H B' H' → dat K (.bool (isInD d 2 9)) B' v → Q v H' := k
  cases hd : d with
  | int i =>
    subst hd
    exact s_ret (De.eq (De.andV (a := true) (De.isInt (.var hv rfl)) fun _ => De.chain (r := rI0 fun i j => V.bl (decide (i ≤ j))) (r' := rI0 fun i j => V.bl (decide (i ≤ j))) .int (.var hv rfl) Rv.I0b (fun _ => .int) fun _ => Rv.I0b) rfl) hB k
  | _ =>
    subst hd
    exact s_ret (De.andV (a := false) (b := false) (De.isInt (.var hv rfl)) fun z => nomatch z) hB k
theorem sc_mayFollow : FnScope ["ahead", "value"] ["ahead", "value"] (defScope s_mayFollow) := ⟨rfl, rfl, rfl, by decide +kernel, rfl, by decide +kernel, by decide +kernel⟩
theorem ok_mayFollow (D : Def K mg "may_follow" s_mayFollow ["ahead", "value"]) (C_isTupleOf : Cal P w K mg base CX0 1 "is_tuple_of" s_isTupleOf ["value", "many"] (sp_isTupleOf K)) (C_isName : Cal P w K mg base CX0 1 "is_name" s_isName ["value"] (sp_isName K)) (C_isMany : Cal P w K mg base CX0 2 "is_many" s_isMany ["value"] (sp_isMany K)) (n_len : mg "len" = none) : Cal P w K mg base CX0 3 "may_follow" s_mayFollow ["ahead", "value"] (sp_mayFollow K) := by
  refine D.ok sc_mayFollow (fun vs H Q E h => ?_) (fun cdv f A outer s H vs Q E hr h => ?_)
  · exact pf_len h fun _ => rfl
  replace h := pf2 h
  obtain ⟨v, v1, B, ⟨ds, i, d⟩, rfl, hB, hv, hv1, ⟨hd, sh, ok⟩, k⟩ := h
  refine ⟨_, (pss_cons (ps_if (PW.pt (pw_or (pt_not (pt_val (pe_cal C_isTupleOf (hr.mono (by decide)) (by rfl) pass0 (pa_cons (pv 1) (pa_cons pe_int pa_nil))))) (pw_or (pt_not (pt_val (pe_cal C_isName (hr.mono (by decide)) (by rfl) pass0 (pa_cons (pe_ix ix_tup (pv 1) pe_int (fun _ _ => rfl)) pa_nil)))) (pw_or1 (pt_not (pt_val (pe_cal C_isMany (hr.mono (by decide)) (by rfl) pass0 (pa_cons (pe_ix ix_tup (pv 1) pe_int (fun _ _ => rfl)) pa_nil)))))))) (pss_one (ps_ret pe_bl)) pss_nil)
    (pss_one (ps_ret (pe_or (pe_cmpR op_eq (pe_callB call_len (by rfl) n_len (by decide +kernel) (pa_cons (pv 0) pa_nil)) pe_int (nomark _)) (pe_one (pe_cmpR op_gt_str (pe_ix ix_tup (pv 1) pe_int (fun _ _ => rfl)) (pe_ix ix_tup (pe_ix ix_tup (pv 0) (pe_un un_neg pe_int) (fun _ _ => rfl)) pe_int (fun _ _ => rfl)) (nomark _))))))), ?_⟩
  have hv : dat K (.tuple (ds.take i)) B v := hv
  have hv1 : dat K d B v1 := hv1
  have hd : ds[i]? = some d := hd
  have sh : Short d := sh
  have ok : ∀ j, j < i → okAt ds j = true := ok
  have il : i < ds.length := (List.getElem?_eq_some_iff.mp hd).1
  have k : ∀ (v : V) (B' H' : Hp), Ext B H B' H' → dat K (.bool (okAt ds i)) B' v → Q v H' := k
  cases ht : isTupD d 2 with
  | false =>
    refine s_ifS (b := true) (Dt.or (a := true) (b := true) (Dt.eq (Dt.not (Dt.tB (De.isTup (.var hv1 rfl) .int))) (by rw [ht]; rfl)) fun z => nomatch z) hB (fun _ B1 H1 e1 => ?_) fun z => nomatch z
    rw [okAt_bad hd (okP_not ht)] at k
    exact s_ret (De.bl (K := K)) e1.bh fun v B' H' e h => k v B' H' (e1.trans e) h
  | true =>
    obtain ⟨x, y, rfl⟩ := isTup2 ht
    have okd : okP (.tuple [x, y]) = (isNmD x && isInD y 2 9) := rfl
    refine s_ifS (b := !okP (.tuple [x, y])) (Dt.eq (Dt.or (a := false) (b := !isNmD x || !isInD y 2 9) (Dt.eq (Dt.not (Dt.tB (De.isTup (.var hv1 rfl) .int))) rfl) fun _ => Dt.or (Dt.not (Dt.tB (De.call (args := fun d => [dat K d]) (res := fun d => dat K (.bool (isNmD d))) x (.one (De.op (r := rIxT K) (.var hv1 rfl) .int (Rv.ixTD rfl))) (fun z hz => sh x [y] rfl z hz)))) fun _ => Dt.not (Dt.tB (De.call (args := fun d => [dat K d]) (res := fun d => dat K (.bool (isInD d 2 9))) y (.one (De.op (r := rIxT K) (.var hv1 rfl) .int (Rv.ixTD rfl))) trivial))) (by rw [okd, Bool.not_and]; rfl)) hB (fun t B1 H1 e1 => ?_) fun f B1 H1 e1 => ?_
    · rw [okAt_bad hd (by simpa using t)] at k
      exact s_ret (De.bl (K := K)) e1.bh fun v B' H' e h => k v B' H' (e1.trans e) h
    · have okt : okP (.tuple [x, y]) = true := by simpa using f
      obtain ⟨z, m, e, _⟩ := okP_form okt
      cases e
      have hw := Mo.mo e1.bb hv
      have hw1 := Mo.mo e1.bb hv1
      cases i with
      | zero =>
        rw [okAt_zero hd, okt] at k
        exact s_ret (De.orV (a := true) (b := true) (De.op (r := rEq) (.cb (.one (.var hw rfl)) rc_lenT) .int Rv.eqI) fun z => nomatch z) e1.bh fun v B' H' e h => k v B' H' (e1.trans e) h
      | succ j =>
        have hp : ds[j]? = some ds[j] := List.getElem?_eq_getElem (by omega)
        obtain ⟨z', m', ep, _⟩ := okP_form (okAt_ok hp (ok j (Nat.lt_succ_self j)))
        rw [okAt_succ hp hd, okt, Bool.true_and, ep] at k
        have lt : ds.take (j + 1) = ds.take j ++ [.tuple [.str z', .int m']] := by rw [List.take_succ, hp, ep]; rfl
        rw [lt] at hw
        refine s_ret (De.eq (De.orV (a := false) (b := decide (z'.cps.toList < z.cps.toList)) (De.eq (De.op (r := rEq) (.cb (.one (.var hw rfl)) rc_lenT) .int Rv.eqI) (by rw [List.length_append]; simp; omega)) fun _ => De.op (De.op (r := rIxT K) (.var hw1 rfl) .int (Rv.ixTD rfl)) (De.op (r := rIxT K) (De.op (r := rIxT K) (.var hw rfl) (De.negI .int) (Rv.ixTD (atI_last _ _))) .int (Rv.ixTD rfl)) Rv.gtS) rfl) e1.bh fun v B' H' e h => k v B' H' (e1.trans e) h
theorem sc_formFault : FnScope ["value", "at", "question"] ["value"] (defScope s_formFault) := ⟨rfl, rfl, rfl, by decide +kernel, rfl, by decide +kernel, by decide +kernel⟩
theorem ok_formFault (D : Def K mg "form_fault" s_formFault ["value"]) (K_Form : CalC P w K mg base "Form" C_Form ["questions"]) (n_isinstance : mg "isinstance" = none) (n_tuple : mg "tuple" = none) (n_len : mg "len" = none) (m_MOST_QUESTIONS : mg "MOST_QUESTIONS" = some (.int 8 t_MOST_QUESTIONS)) (n_enumerate : mg "enumerate" = none) (C_mayFollow : Cal P w K mg base CX0 3 "may_follow" s_mayFollow ["ahead", "value"] (sp_mayFollow K)) (t_Form : IsiC K C_Form) (u_Form : NotC K C_Form) : Cal P w K mg base CX0 4 "form_fault" s_formFault ["value"] (sp_formFault K C_Form) := by
  refine D.ok sc_formFault (fun vs H Q E h => ?_) (fun cdv f A outer s H vs Q E hr h => ?_)
  · exact pf_len h fun _ => rfl
  replace h := pf1 h
  obtain ⟨v, B, ⟨b, d⟩, rfl, hB, hv, sh, k⟩ := h
  refine ⟨_, (pss_cons (ps_if (PW.pt (pw_or (pt_not (pt_val (pe_callB call_isi (by rfl) n_isinstance (by decide +kernel) (pa_cons (pv 0) (pa_cons (pe_glob (by rfl) K_Form.g (show RelV (.ref C_Form) (.ref C_Form) from rfl)) pa_nil))))) (pw_or1 (pt_not (pt_val (pe_callB call_isi (by rfl) n_isinstance (by decide +kernel) (pa_cons (pe_fld (pv 0) rfl) (pa_cons (pe_bltn (by rfl) n_tuple (by decide +kernel) (show RelV (.ty "tuple") (.type "tuple") from rfl)) pa_nil)))))))) (pss_one (ps_ret (pe_un un_neg pe_int))) pss_nil)
    (pss_cons (ps_if (pt_not (pt_chain op_le op_le pe_int (pe_callB call_len (by rfl) n_len (by decide +kernel) (pa_cons (pe_fld (pv 0) rfl) pa_nil)) (pe_glob (by rfl) m_MOST_QUESTIONS (show RelV (.int 8) (.int 8 _) from ⟨_, rfl⟩)))) (pss_one (ps_ret (pe_un un_neg pe_int))) pss_nil)
    (pss_cons (ps_for PassesOwn.never rfl (pi_enumT (by rfl) n_enumerate (pa_cons (pe_fld (pv 0) rfl) pa_nil)) (pg_tup rfl (pgs_cons (pg_name (i := 1) sc_formFault.nd rfl (Or.inl rfl)) (pgs_cons (pg_name (i := 2) sc_formFault.nd rfl (Or.inl rfl)) pgs_nil))) (pss_one (ps_if (pt_not (pt_val (pe_cal C_mayFollow (hr.mono (by decide)) (by rfl) pass0 (pa_cons (pe_slice sl_tupA (pe_fld (pv 0) rfl) po_none (po_some (pv 1))) (pa_cons (pv 2) pa_nil))))) (pss_one (ps_ret (pv 1))) pss_nil)))
    (pss_one (ps_ret pe_non))))), ?_⟩
  have sh : Shorts d := sh
  cases b with
  | false =>
    have hv : dat K d B v := hv
    refine s_ifS (b := true) (Dt.or (a := true) (b := true) (Dt.eq (Dt.not (Dt.tB (isiN u_Form (.var hv rfl)))) rfl) fun z => nomatch z) hB (fun _ B1 H1 e1 => ?_) fun z => nomatch z
    exact s_ret (De.negI (K := K) .int) e1.bh fun v B' H' e h => k v B' H' (e1.trans e) h
  | true =>
    have hv : formD K C_Form d B v := hv
    have k : ∀ (v : V) (B' H' : Hp), Ext B H B' H' → dat K (faultD d) B' v → Q v H' := k
    cases ht : isD "tuple" d with
    | false =>
      have e : faultD d = .int (-1) := by cases d <;> first | rfl | cases ht
      rw [e] at k
      refine s_ifS (b := true) (Dt.or (a := false) (b := true) (Dt.eq (Dt.not (Dt.tB (isiC K_Form.c t_Form (.var hv rfl)))) rfl) fun _ => Dt.eq (Dt.not (Dt.tB (De.isi (fldD K_Form (.var hv rfl)) (by simp)))) (by rw [ht]; rfl)) hB (fun _ B1 H1 e1 => ?_) fun z => nomatch z
      exact s_ret (De.negI (K := K) .int) e1.bh fun v B' H' e h => k v B' H' (e1.trans e) h
    | true =>
      obtain ⟨ds, rfl⟩ : ∃ ds, d = .tuple ds := by cases d <;> first | exact ⟨_, rfl⟩ | cases ht
      refine s_skip (Dt.or (a := false) (Dt.eq (Dt.not (Dt.tB (isiC K_Form.c t_Form (.var hv rfl)))) rfl) fun _ => Dt.eq (Dt.not (Dt.tB (De.isi (fldD K_Form (.var hv rfl)) (by simp)))) rfl) hB fun B1 H1 e1 => ?_
      have hv := Mo.mo e1.bb hv
      have lenE : De (tFld K (tVar 0) "questions") (L2.start ["value", "at", "question"] [v]) B1 (dat K (.tuple ds)) := fldD K_Form (.var hv rfl)
      refine s_ifS (b := !(decide ((1 : Int) ≤ ds.length) && decide ((ds.length : Int) ≤ 8))) (Dt.not (Dt.test (K := K) (De.chain (r := rI0 fun i j => V.bl (decide (i ≤ j))) (r' := rI0 fun i j => V.bl (decide (i ≤ j))) .int (.cb (.one lenE) rc_lenT) Rv.I0b (fun _ => De.int (n := 8)) fun _ => Rv.I0b))) e1.bh (fun t B2 H2 e2 => ?_) fun f B2 H2 e2 => ?_
      · have nl : ¬ (1 ≤ ds.length ∧ ds.length ≤ 8) := by simp at t; omega
        have e : faultD (.tuple ds) = .int (-1) := if_neg nl
        rw [e] at k
        exact s_ret (De.negI (K := K) .int) e2.bh fun v B' H' e h => k v B' H' ((e1.trans e2).trans e) h
      · have hl : 1 ≤ ds.length ∧ ds.length ≤ 8 := by simp at f; omega
        have hv := Mo.mo e2.bb hv
        have fe : ∀ o, faultN ds = o → faultD (.tuple ds) = (match o with | some i => .int (i : Int) | none => .none) := fun o ho => by
          have : faultD (.tuple ds) = (match faultN ds with | some i => .int (i : Int) | none => .none) := if_pos hl
          rw [this, ho]
        dsimp only [tNext]
        refine s_forS (Di.enumTM (K := K) (as := ds) (f := fun d => d) (De.eq (d := .tuple ds) (fldD K_Form (.var (i := 0) hv rfl)) (by rw [List.map_id']))) e2.bh (fun i σ B => ∃ (v1 v2 : Option V), σ = [some v, v1, v2] ∧ ∀ j, j < i → okAt ds j = true) (fun B' s => ⟨none, none, rfl, fun j h => absurd h (Nat.not_lt_zero j)⟩) ?_ ?_
        · rintro B3 H3 e3 i R x σ' Bc Bn Hn hR ⟨v1, v2, rfl, ok⟩ s e hx
          rw [List.getElem?_map] at hR
          obtain ⟨p, hp, rfl⟩ := Option.map_eq_some_iff.mp hR
          rw [List.getElem?_zipIdx] at hp
          obtain ⟨q, hq, rfl⟩ := Option.map_eq_some_iff.mp hp
          obtain ⟨y, z, hy, hz, go⟩ := gTup2 e.bh hx
          refine go _ ?_
          have hy := dat_int hy
          subst hy
          rw [Nat.zero_add]
          have hv := Mo.mo (e3.bb.trans e.bb) hv
          have il : i < ds.length := (List.getElem?_eq_some_iff.mp hq).1
          refine s_if (b := !okAt ds i) (Dt.not (Dt.tB (De.call (args := fun a : List PyData × Nat × PyData => [dat K (.tuple (a.1.take a.2.1)), dat K a.2.2]) (res := fun a => dat K (.bool (okAt a.1 a.2.1))) (ds, i, q) (.cons (De.eq (De.slT (lo := none) (hi := some (i : Int)) (fldD K_Form (.var hv rfl)) .none (.some (K := K) (.var (Dp.int _) rfl))) ?_) (.cons (.var hz rfl) .nil)) ⟨hq, sh ds rfl q (List.mem_of_getElem? hq), ok⟩))) e.bh (fun t B5 H5 e5 => ?_) fun f B5 H5 e5 => ⟨B5, e.trans e5, _, _, rfl, fun j hj => ?_⟩
          · unfold cutA
            rw [HT.sIx_none, HT.sIx_nat, List.drop_zero, Nat.sub_zero, Nat.min_eq_left (Nat.le_of_lt il)]
          · have bad : okAt ds i = false := by simpa using t
            rw [fe _ (fault_at il bad ok)] at k
            exact s_ret (.var (Dp.int (i : Int)) rfl) e5.bh fun v B' H' e6 h => k v B' H' ((((e1.trans e2).trans e3).trans (e.trans e5)).trans e6) h
          · by_cases ji : j = i
            · subst ji
              simpa using f
            · exact ok j (by omega)
        · rintro σ' B' H' e3 ⟨v1, v2, rfl, ok⟩
          rw [List.length_map, List.length_zipIdx] at ok
          rw [fe _ (fault_none ok)] at k
          exact s_ret (De.non (K := K)) e3.bh fun v B' H' e h => k v B' H' (((e1.trans e2).trans e3).trans e) h
theorem sc_isForm : FnScope ["value"] ["value"] (defScope s_isForm) := ⟨rfl, rfl, rfl, by decide +kernel, rfl, by decide +kernel, by decide +kernel⟩
theorem ok_isForm (D : Def K mg "is_form" s_isForm ["value"]) (C_formFault : Cal P w K mg base CX0 4 "form_fault" s_formFault ["value"] (sp_formFault K C_Form)) : Cal P w K mg base CX0 5 "is_form" s_isForm ["value"] (sp_isForm K C_Form) := by
  refine D.ok sc_isForm (fun vs H Q E h => ?_) (fun cdv f A outer s H vs Q E hr h => ?_)
  · exact pf_len h fun _ => rfl
  replace h := pf1 h
  obtain ⟨v, B, ⟨b, d⟩, rfl, hB, hv, sh, k⟩ := h
  refine ⟨_, (pss_one (ps_ret (pe_cmpR op_isN (pe_cal C_formFault (hr.mono (by decide)) (by rfl) pass0 (pa_cons (pv 0) pa_nil)) pe_non (nomark _)))), ?_⟩
  exact s_ret (De.op (De.call (args := fun a : Bool × PyData => [valR K C_Form a.1 a.2]) (res := fun a => dat K (valFault a.1 a.2)) (b, d) (.cons (.var hv rfl) .nil) sh) .non Rv.isNone) hB k
end
end K05

set_option Elab.async false
set_option linter.all false
set_option maxRecDepth 100000
set_option maxHeartbeats 4000000
/-! We1: an own == asked of what is no instance; instances made by keywords alone. -/
namespace Wv
open PySem PySem.Spec PyProof.Rows L2 Wb
section
variable {X : Cx} {n : Nat} {C : Addr} {S : Sp}
def rEqX (K : PySem.W.Frag) (C : Addr) (S : Sp) : R2 := fun x y H Q => ∃ a b dx fs tb, x = .ref a ∧ y = .ref b ∧ H a = some (.ins C dx fs) ∧ TyX K H y tb ∧ PySem.W.notFirst K C tb = true ∧ S [x, y] H (fun v H' => ∃ t, v = .bl t ∧ Q (.bl t) H') E0
theorem op_eqX (c : CalE X.prog X.w X.K X.mg X.base n C S) (hr : Room n X.A) : OpR X (compareOp .Eq) (rEqX X.K C S) := by
  intro pins s σ H x y v u Q I rx ry hq
  obtain ⟨a, b, dx, fs, tb, rfl, rfl, ha, hT, nf, hS⟩ := hq
  obtain ⟨f, fd, F, hs, hf, hb⟩ := c
  cases rx
  obtain ⟨Pq, Z, pq, _⟩ := kit_of I ry hT
  cases ry
  obtain ⟨mA, J, _⟩ := ins_get I.hok ha
  obtain ⟨od, J, _⟩ := J.look
  obtain ⟨m, hF⟩ := I.fr
  show wpAny (model X.prog X.w) X.A (richCompare .Eq (.ref a) (.ref b)) (EP X pins σ Q) X.xe s
  refine PySem.W.cmp_K (op := .Eq) (tb := tb) hr.units0 hF I.ok.mod.kin J (Z.ty _ _ I.kIn pq) nf hs hf ?_
  exact eq_runs F hb hr rfl I hS fun t H' s' g I' => ⟨.bl t, H', I', rfl, g⟩
end
theorem notFirst_tuple {K : PySem.W.Frag} {C : Addr} : PySem.W.notFirst K C (.type "tuple") = true := by
  unfold PySem.W.notFirst PySem.W.subIn
  rfl
section
variable {C : Addr} {B : Hp} {R : Rel} {α : Type} {args : α → List Rel} {pre : α → Prop} {res : α → Rel} {K : PySem.W.Frag} {ds : List PyData}
theorem Rv.eqTup [i : IsIns C R] {t : Bool} (a : α) (hp : pre a) (ha : ∀ B x y, R B x → dat K (.tuple ds) B y → AllR (args a) B [x, y]) (hr : res a = dat K (.bool t)) : Rv (rEqX K C (Pf args pre res)) B R (dat K (.tuple ds)) (dat K (.bool t)) := fun x y B1 H s1 s2 hx hy Q q => by
  obtain ⟨b, dx, fs, rfl, hb⟩ := i.ins hx
  have ty : TyX K H y (.type "tuple") := ty_dat (d := .tuple ds) (dpMono s2 _ _ hy)
  have hy' := hy
  obtain ⟨c, rfl⟩ : ∃ c, y = .ref c := by cases hy'; exact ⟨_, rfl⟩
  refine ⟨b, c, dx, fs, _, rfl, rfl, s2 _ _ hb, ty, notFirst_tuple, B1, a, s2, ha _ _ _ hx hy, hp, fun v B' H' e hv => ?_⟩
  rw [hr] at hv
  have : v = .bl t := dat_bl hv
  exact ⟨t, this, q _ B' H' e (this ▸ hv)⟩
end
section
variable (P : Program) (w : World) (K : PySem.W.Frag) (mg : Str → Option Value) (base : Heap)
/-- .. made by keywords alone, in their order -/
structure CalCK (x : Str) (C : Addr) (fs : List Str) : Prop where
  g : mg x = some (.ref C)
  ini : ∃ (f : Addr) (fd : FuncData), Mk K C f ∧ FnOk P w K mg base CX0 1 f fd ("self" :: fs) (spIns C fs) ∧ KBn K fd ("self" :: fs) 1 fs (fun us ws => us ++ ws) (fun vs zs => vs ++ zs)
end
theorem vals_app : ∀ {vs : List V} {us : List Value} {zs : List V} {ws : List Value}, Vals vs us → Vals zs ws → Vals (vs ++ zs) (us ++ ws)
  | _, _, _, _, .nil, h => h
  | _, _, _, _, .cons r t, h => .cons r (vals_app t h)
theorem kbn_of {K : PySem.W.Frag} {x qual : Str} {st : Stmt} {f : Addr} {fd : FuncData} {ps ks : List Str} (F : Fun K x qual st f fd)
    (h : ∀ (kV doc pm : Value) (an : Option Addr) (cdv ct : Value) (us ws : List Value), us.length = 1 → ws.length = ks.length → bindArgs (PySem.W.fnOf x qual (defArgs st) (defBody st) (defScope st) .none kV doc pm an cdv ct) ⟨us, ks.zip ws⟩ = pure (ps.zip (us ++ ws))) :
    KBn K fd ps 1 ks (fun us ws => us ++ ws) (fun vs zs => vs ++ zs) := by
  obtain ⟨oc, od, kV, doc, pm, an, cdv, ct, osl, rfl, lk, hcd⟩ := F.ex
  exact ⟨fun s us ws _ l1 l2 => .of_eq (h kV doc pm an cdv ct us ws l1 l2), fun r1 r2 => vals_app r1 r2⟩
section
variable {X : Cx} {x : Str} {C : Addr} {fs : List Str} {k : Nat} {p pos : Pos} {kws : List Keyword} {tk : TA}
theorem pe_calCK (c : CalCK X.prog X.w X.K X.mg X.base x C fs) (hr : Room k X.A) (hk : 2 ≤ k) (hg : Gl X x) (hkw : PK X kws tk)
    (hall : (backToKw pos (keywordEach kws X.env)).all (·.1.isSome) = true := by rfl) (hks : (backToKw pos (keywordEach kws X.env)).filterMap (·.1) = fs := by rfl) (hdb : (x == ("__debug__" : Str)) = false := by decide)
    (hpl : ((backTo pos (starEach [] X.env)).any (·.1) || (backToKw pos (keywordEach kws X.env)).any (·.1.isNone)) = false := by rfl) :
    PE X (.Call (.Name x p) [] kws pos) (tMakeK C 0 fs.length (spIns C fs) (fun vs zs => vs ++ zs) E0 tNil tk) := by
  obtain ⟨f, fd, M, F, b⟩ := c.ini
  exact pe_makeK0 M F (hr.mono hk) hg c.g b pass0 hkw hall hks hdb hpl
end
section
variable {σ : L2.St} {B : Hp} {Rs : List Rel}
theorem De.makeK {C : Addr} {fs : List Str} {n : Nat} {ta : TA} [m : MoA Rs] (ha : Da ta σ B Rs) (hl : fs.length = Rs.length) (hn : n = fs.length) : De (tMakeK C 0 n (spIns C fs) (fun vs zs => vs ++ zs) E0 tNil ta) σ B (insR C (fs.zip Rs)) := fun B1 H s1 s2 Q q =>
  ha B1 H s1 s2 _ fun vs B2 H2 e hv => by
    have len := allR_len hv
    refine ⟨rfl, by omega, fun x dx hx hd ne => ?_⟩
    refine ⟨x, dx, vs, rfl, by omega, upd_same, rfl, ?_⟩
    rw [upd_over]
    have e1 : Ext B2 H2 B2 (upd H2 dx (.own x)) := .own e.bh hd
    have hx1 : upd H2 dx (.own x) x = none := by
      rw [upd_ne ne.symm]
      exact hx
    have e2 := Ext.new (o := .ins C dx (fs.zip vs)) e1.bh hx1
    exact q _ _ _ ((e.trans e1).trans e2) ⟨x, dx, _, rfl, upd_same, allF_zip hl (m.mo (new_same (e.bh.free hx)) hv)⟩
end
end Wv

set_option Elab.async false
set_option linter.all false
set_option maxRecDepth 100000
set_option maxHeartbeats 4000000
/-! K05d: == of forms; answers and lots, of any value. -/
namespace K05
open PySem PySem.Spec PyProof.Rows L2 Wb Wv Fm
instance {K : PySem.W.Frag} {C : Addr} {d : PyData} : IsIns C (formD K C d) := by unfold formD; infer_instance
def isRowD (qs : Qs) (lo : Int) (d : PyData) : Bool := match d with
  | .tuple ds => decide (ds.length = qs.length) && (ds.zip qs).all fun p => isInD p.1 lo ((p.2.2 : Int) - 1)
  | _ => false
def partD (zs : List Str) (d : PyData) : Bool := match d with
  | .tuple ds => PyData.eqv (.list ds) (.list ((zs.filter fun z => ds.any fun x => PyData.eqv x (.str z)).map .str))
  | _ => false
abbrev sp_eqForm (K : PySem.W.Frag) (C : Addr) : Sp := Pf (α := PyData × Bool × PyData) (fun a => [formD K C a.1, valR K C a.2.1 a.2.2]) (fun a => SeqAt.shaped a.1 = true ∧ SeqAt.shaped a.2.2 = true) (fun a => dat K (.bool (a.2.1 && PyData.eqv a.1 a.2.2)))
abbrev sp_namesOf (K : PySem.W.Frag) (C : Addr) : Sp := Pf (α := Qs) (fun qs => [formD K C (qsD qs)]) (fun qs => qs.length ≤ 8) (fun qs => dat K (lotD (Fm.names qs)))
abbrev sp_areAnswers (K : PySem.W.Frag) (C : Addr) : Sp := Pf (α := Qs × PyData × Int) (fun a => [formD K C (qsD a.1), dat K a.2.1, dat K (.int a.2.2)]) (fun _ => True) (fun a => dat K (.bool (isRowD a.1 a.2.2 a.2.1)))
abbrev sp_isTruth (K : PySem.W.Frag) (C : Addr) : Sp := Pf (α := Qs × PyData) (fun a => [formD K C (qsD a.1), dat K a.2]) (fun _ => True) (fun a => dat K (.bool (isRowD a.1 0 a.2)))
abbrev sp_isSheet (K : PySem.W.Frag) (C : Addr) : Sp := Pf (α := Qs × PyData) (fun a => [formD K C (qsD a.1), dat K a.2]) (fun _ => True) (fun a => dat K (.bool (isRowD a.1 (-1) a.2)))
abbrev sp_isPartOf (K : PySem.W.Frag) : Sp := Pf (α := PyData × List Str) (fun a => [dat K a.1, dat K (lotD a.2)]) (fun a => SeqAt.shaped a.1 = true ∧ a.2.length ≤ 8 ∧ ∀ z ∈ a.2, Nm z) (fun a => dat K (.bool (partD a.2 a.1)))
abbrev sp_isLot (K : PySem.W.Frag) (C : Addr) : Sp := Pf (α := Qs × PyData) (fun a => [formD K C (qsD a.1), dat K a.2]) (fun a => SeqAt.shaped a.2 = true ∧ Good a.1) (fun a => dat K (.bool (partD (Fm.names a.1) a.2)))
theorem NmL.nm20 {z : Str} (h : NmL 1 8 z) : Nm z := h.nmk.mono (by decide)
theorem shaped_list {ds : List PyData} (h : SeqAt.shaped (.tuple ds) = true) : SeqAt.shaped (.list ds) = true := by
  have l : PyData.canLay0 (.list ds) = PyData.canLay0 (.tuple ds) := by simp only [PyData.canLay0]
  have d : PyData.depth (.list ds) = PyData.depth (.tuple ds) := by simp only [PyData.depth]
  unfold SeqAt.shaped at *
  rw [l, d]
  exact h
theorem isTupN {d : PyData} {n : Nat} (h : isTupD d n = true) : ∃ ds, d = .tuple ds ∧ ds.length = n := by
  unfold isTupD at h
  split at h
  · rename_i ds
    have h := of_decide_eq_true h
    exact ⟨ds, rfl, by omega⟩
  · cases h
theorem isRow_not {qs : Qs} {lo : Int} {d : PyData} (h : isTupD d qs.length = false) : isRowD qs lo d = false := by
  unfold isRowD
  cases d with
  | tuple ds =>
    have : ¬ ((ds.length : Int) = (qs.length : Int)) := of_decide_eq_false h
    have : ¬ (ds.length = qs.length) := by omega
    simp [this]
  | _ => rfl
section
variable {P : Program} {w : World} {K : PySem.W.Frag} {mg : Str → Option Value} {base : Heap} {C_Form C_InvalidForm C_InvalidBook C_InvalidSheets C_BlankError : Addr} {t_MOST_QUESTIONS : Tok}
theorem eq_form {f : Addr} {fd : FuncData} (F : Fun K "__eq__" "Form.__eq__" (inClass (topS 14) 1) f fd) (n_isinstance : mg "isinstance" = none) (K_Form : CalC P w K mg base "Form" C_Form ["questions"]) (t_Form : IsiC K C_Form) (u_Form : NotC K C_Form) : FnOk P w K mg base CX0 1 f fd ["self", "other"] (sp_eqForm K C_Form) := by
  refine F.ok (N := ["self", "other"]) ⟨rfl, rfl, rfl, by decide +kernel, rfl, by decide +kernel, by decide +kernel⟩ (fun vs H Q E h => ?_) (fun cdv A outer s H vs Q E hr h => ?_)
  · exact pf_len h fun _ => rfl
  replace h := pf2 h
  obtain ⟨v, v1, B, ⟨d, b, d2⟩, rfl, hB, hv, hv1, ⟨sh, sh2⟩, k⟩ := h
  refine ⟨_, pss_one (ps_ret (pe_and (pe_callB call_isi (by rfl) n_isinstance (by decide +kernel) (pa_cons (pv 1) (pa_cons (pe_glob (by rfl) K_Form.g (show RelV (.ref C_Form) (.ref C_Form) from rfl)) pa_nil))) (pe_one (pe_cmpR (op_eqD hr.units) (pe_fld (pv 0) rfl) (pe_fld (pv 1) rfl) (nomark _))))), ?_⟩
  cases b with
  | true =>
    have hv1 : formD K C_Form d2 B v1 := hv1
    exact s_ret (De.andV (a := true) (isiC K_Form.c t_Form (.var hv1 rfl)) fun _ => De.op (r := rEqD K) (fldD K_Form (.var hv rfl)) (fldD K_Form (.var hv1 rfl)) (Rv.eqD sh sh2)) hB k
  | false =>
    have hv1 : dat K d2 B v1 := hv1
    exact s_ret (De.andV (a := false) (b := PyData.eqv d d2) (isiN u_Form (.var hv1 rfl)) fun z => nomatch z) hB k
theorem sc_namesOf : FnScope ["form", "question"] ["form"] (defScope s_namesOf) := ⟨rfl, rfl, rfl, by decide +kernel, rfl, by decide +kernel, by decide +kernel⟩
theorem ok_namesOf (D : Def K mg "names_of" s_namesOf ["form"]) (n_tuple : mg "tuple" = none) (K_Form : CalC P w K mg base "Form" C_Form ["questions"]) : Cal P w K mg base CX0 1 "names_of" s_namesOf ["form"] (sp_namesOf K C_Form) := by
  refine D.ok sc_namesOf (fun vs H Q E h => ?_) (fun cdv f A outer s H vs Q E hr h => ?_)
  · exact pf_len h fun _ => rfl
  replace h := pf1 h
  obtain ⟨v, B, qs, rfl, hB, hv, few, k⟩ := h
  refine ⟨_, (pss_one (ps_ret (pe_callTy call_tuple_of (by rfl) n_tuple (by decide +kernel) (pa_cons (pe_lc (own := [("question", 1)]) (g := gName 1) (tt := tYes) rfl sc_namesOf.nd (pi_tup (pe_fld (pv 0) rfl)) (blkOk_by (own := [("question", 1)]) (N := ["form", "question"]) (sc := defScope s_namesOf) (by decide +kernel)) (fun _ _ _ _ _ => (pg_name (i := 1) sc_namesOf.nd rfl (Or.inl rfl))) (fun _ _ _ _ _ => pts_nil) (fun _ _ _ _ _ => (pe_ix (r := rIxT K) ix_tup (pv 1) pe_int (fun _ _ => rfl)))) pa_nil)))), ?_⟩
  exact s_ret (De.tupleL (De.eq (De.lcA (K := K) (as := qs) (r := fun q => dat K (encQ q)) (Di.tupM (f := encQ) (fldD K_Form (.var hv rfl))) (fun q => .str q.1) (by rw [sizeLine_eq]; have : qs.length ≤ 8 := few; omega) fun q x Bn Hn hq sn sh hx => ⟨_, fun Q q => q, rfl, De.op (r := rIxT K) (.var hx rfl) .int (Rv.ixTD rfl)⟩) (e := .list ((Fm.names qs).map .str)) (by unfold Fm.names; rw [List.map_map]; rfl))) hB k
theorem sc_areAnswers : FnScope ["form", "value", "least", "answer", "question"] ["form", "value", "least"] (defScope s_areAnswers) := ⟨rfl, rfl, rfl, by decide +kernel, rfl, by decide +kernel, by decide +kernel⟩
theorem ok_areAnswers (D : Def K mg "are_answers" s_areAnswers ["form", "value", "least"]) (C_isTupleOf : Cal P w K mg base CX0 1 "is_tuple_of" s_isTupleOf ["value", "many"] (sp_isTupleOf K)) (n_len : mg "len" = none) (n_zip : mg "zip" = none) (C_isInt : Cal P w K mg base CX0 1 "is_int" s_isInt ["value"] (sp_isInt K)) (K_Form : CalC P w K mg base "Form" C_Form ["questions"]) : Cal P w K mg base CX0 2 "are_answers" s_areAnswers ["form", "value", "least"] (sp_areAnswers K C_Form) := by
  refine D.ok sc_areAnswers (fun vs H Q E h => ?_) (fun cdv f A outer s H vs Q E hr h => ?_)
  · exact pf_len h fun _ => rfl
  replace h := pf3 h
  obtain ⟨v, v1, v2, B, ⟨qs, d, lo⟩, rfl, hB, hv, hv1, hv2, _, k⟩ := h
  refine ⟨_, (pss_cons (ps_if (pt_not (pt_val (pe_cal C_isTupleOf (hr.mono (by decide)) (by rfl) pass0 (pa_cons (pv 1) (pa_cons (pe_callB call_len (by rfl) n_len (by decide +kernel) (pa_cons (pe_fld (pv 0) rfl) pa_nil)) pa_nil))))) (pss_one (ps_ret pe_bl)) pss_nil)
    (pss_cons (ps_for PassesOwn.never rfl (RZ.pi_zipA (by rfl) n_zip (pa_cons (pv 1) (pa_cons (pe_fld (pv 0) rfl) pa_nil))) (pg_tup rfl (pgs_cons (pg_name (i := 3) sc_areAnswers.nd rfl (Or.inl rfl)) (pgs_cons (pg_name (i := 4) sc_areAnswers.nd rfl (Or.inl rfl)) pgs_nil))) (pss_one (ps_if (PW.pt (pw_or (pt_not (pt_val (pe_cal C_isInt (hr.mono (by decide)) (by rfl) pass0 (pa_cons (pv 3) pa_nil)))) (pw_or1 (pt_not (pt_chain op_le op_lt (pv 2) (pv 3) (pe_ix ix_tup (pv 4) pe_int (fun _ _ => rfl))))))) (pss_one (ps_ret pe_bl)) pss_nil)))
    (pss_one (ps_ret pe_bl)))), ?_⟩
  have hv : formD K C_Form (qsD qs) B v := hv
  have hv1 : dat K d B v1 := hv1
  have hv2 : dat K (.int lo) B v2 := hv2
  have hv2 := dat_int hv2
  subst hv2
  have k : ∀ (v : V) (B' H' : Hp), Ext B H B' H' → dat K (.bool (isRowD qs lo d)) B' v → Q v H' := k
  have lenE : ∀ {B1 : Hp} {σ : L2.St}, formD K C_Form (qsD qs) B1 v → σ[0]? = some (some v) → De (tFld K (tVar 0) "questions") σ B1 (dat K (.tuple (qs.map encQ))) := fun h z => fldD K_Form (.var h z)
  cases ht : isTupD d qs.length with
  | false =>
    refine s_ifS (b := true) (Dt.eq (Dt.not (Dt.tB (De.isTup (n := qs.length) (.var hv1 rfl) (De.eq (De.cb (.one (lenE hv rfl)) rc_lenT) (by rw [List.length_map]))))) (by rw [ht]; rfl)) hB (fun _ B1 H1 e1 => ?_) fun z => nomatch z
    rw [isRow_not ht] at k
    exact s_ret (De.bl (K := K)) e1.bh fun v B' H' e h => k v B' H' (e1.trans e) h
  | true =>
    obtain ⟨ds, rfl, hl⟩ := isTupN ht
    refine s_skip (Dt.eq (Dt.not (Dt.tB (De.isTup (n := qs.length) (.var hv1 rfl) (De.eq (De.cb (.one (lenE hv rfl)) rc_lenT) (by rw [List.length_map]))))) (by rw [ht]; rfl)) hB fun B1 H1 e1 => ?_
    have lz : (ds.zip qs).length = qs.length := by rw [List.length_zip]; omega
    have row : isRowD qs lo (.tuple ds) = (ds.zip qs).all fun p => isInD p.1 lo ((p.2.2 : Int) - 1) := by
      unfold isRowD
      simp [hl]
    rw [row] at k
    refine s_forS (Di.zipTM (K := K) (as := ds) (bs := qs) (f := fun d => d) (g := encQ) (De.eq (d := .tuple ds) (.var (Mo.mo e1.bb hv1) rfl) (by rw [List.map_id'])) (lenE (Mo.mo e1.bb hv) rfl)) e1.bh (fun i σ B => ∃ v3 v4, σ = [some v, some v1, some (.int lo), v3, v4] ∧ ∀ p ∈ (ds.zip qs).take i, isInD p.1 lo ((p.2.2 : Int) - 1) = true) (fun B' s => ⟨none, none, rfl, fun p h => by simp at h⟩) ?_ ?_
    · rintro B2 H2 e2 i R x σ' Bc Bn Hn hR ⟨v3, v4, rfl, ok⟩ s e hx
      rw [List.getElem?_map] at hR
      obtain ⟨⟨y, q⟩, hp, rfl⟩ := Option.map_eq_some_iff.mp hR
      obtain ⟨a, b, ha, hb, go⟩ := gTup2 e.bh hx
      refine go _ ?_
      have ha : dat K y Bn a := ha
      have hb : dat K (encQ q) Bn b := hb
      have test : Dt (tOr (tNot (tB (tCall (sp_isInt K) [] E0 (tCons (tVar 3) tNil)))) (tNot (tTest (tChain (rI0 fun i j => V.bl (decide (i ≤ j))) (rI0 fun i j => V.bl (decide (i < j))) (tVar 2) (tVar 3) (tOp (rIxT K) (tVar 4) (tC (.int 1))))))) [some v, some v1, some (.int lo), some a, some b] Bn (!isInD y lo ((q.2 : Int) - 1)) := by
        cases y with
        | int i =>
          refine Dt.eq (Dt.or (a := false) (Dt.not (Dt.tB (De.isInt (.var ha rfl)))) fun _ => Dt.not (Dt.test (K := K) (De.chain (.var (Dp.int lo) rfl) (.var ha rfl) Rv.I0b (fun _ => De.op (r := rIxT K) (.var hb rfl) .int (Rv.ixTD (d := .int (q.2 : Int)) rfl)) fun _ => Rv.I0b))) ?_
          show (!(decide (lo ≤ i) && decide (i < (q.2 : Int)))) = !(decide (lo ≤ i) && decide (i ≤ (q.2 : Int) - 1))
          rw [show decide (i < (q.2 : Int)) = decide (i ≤ (q.2 : Int) - 1) from decide_eq_decide.mpr (by omega)]
        | _ => exact Dt.or (a := true) (b := true) (Dt.not (Dt.tB (De.isInt (.var ha rfl)))) fun z => nomatch z
      refine s_if test e.bh (fun t B5 H5 e5 => ?_) fun f B5 H5 e5 => ⟨B5, e.trans e5, _, _, rfl, fun p hm => ?_⟩
      · have bad : isInD y lo ((q.2 : Int) - 1) = false := by simpa using t
        have all : ((ds.zip qs).all fun p => isInD p.1 lo ((p.2.2 : Int) - 1)) = false := by
          rw [List.all_eq_false]
          exact ⟨(y, q), List.mem_of_getElem? hp, by rw [bad]; decide⟩
        rw [all] at k
        exact s_ret (De.bl (K := K)) e5.bh fun v B' H' e6 h => k v B' H' (((e1.trans e2).trans (e.trans e5)).trans e6) h
      · rw [take_snoc hp] at hm
        rcases List.mem_append.mp hm with h | h
        · exact ok p h
        · rw [List.mem_singleton.mp h]
          simpa using f
    · rintro σ' B' H' e2 ⟨v3, v4, rfl, ok⟩
      rw [List.length_map, List.take_length] at ok
      rw [List.all_eq_true.mpr ok] at k
      exact s_ret (De.bl (K := K)) e2.bh fun v B' H' e h => k v B' H' ((e1.trans e2).trans e) h
theorem sc_isTruth : FnScope ["form", "value"] ["form", "value"] (defScope s_isTruth) := ⟨rfl, rfl, rfl, by decide +kernel, rfl, by decide +kernel, by decide +kernel⟩
theorem ok_isTruth (D : Def K mg "is_truth" s_isTruth ["form", "value"]) (C_areAnswers : Cal P w K mg base CX0 2 "are_answers" s_areAnswers ["form", "value", "least"] (sp_areAnswers K C_Form)) : Cal P w K mg base CX0 3 "is_truth" s_isTruth ["form", "value"] (sp_isTruth K C_Form) := by
  refine D.ok sc_isTruth (fun vs H Q E h => ?_) (fun cdv f A outer s H vs Q E hr h => ?_)
  · exact pf_len h fun _ => rfl
  replace h := pf2 h
  obtain ⟨v, v1, B, ⟨qs, d⟩, rfl, hB, hv, hv1, _, k⟩ := h
  refine ⟨_, (pss_one (ps_ret (pe_cal C_areAnswers (hr.mono (by decide)) (by rfl) pass0 (pa_cons (pv 0) (pa_cons (pv 1) (pa_cons pe_int pa_nil)))))), ?_⟩
  exact s_ret (De.call (args := fun a : Qs × PyData × Int => [formD K C_Form (qsD a.1), dat K a.2.1, dat K (.int a.2.2)]) (res := fun a => dat K (.bool (isRowD a.1 a.2.2 a.2.1))) (qs, d, 0) (.cons (.var hv rfl) (.cons (.var hv1 rfl) (.cons .int .nil))) trivial) hB k
theorem sc_isSheet : FnScope ["form", "value"] ["form", "value"] (defScope s_isSheet) := ⟨rfl, rfl, rfl, by decide +kernel, rfl, by decide +kernel, by decide +kernel⟩
theorem ok_isSheet (D : Def K mg "is_sheet" s_isSheet ["form", "value"]) (C_areAnswers : Cal P w K mg base CX0 2 "are_answers" s_areAnswers ["form", "value", "least"] (sp_areAnswers K C_Form)) : Cal P w K mg base CX0 3 "is_sheet" s_isSheet ["form", "value"] (sp_isSheet K C_Form) := by
  refine D.ok sc_isSheet (fun vs H Q E h => ?_) (fun cdv f A outer s H vs Q E hr h => ?_)
  · exact pf_len h fun _ => rfl
  replace h := pf2 h
  obtain ⟨v, v1, B, ⟨qs, d⟩, rfl, hB, hv, hv1, _, k⟩ := h
  refine ⟨_, (pss_one (ps_ret (pe_cal C_areAnswers (hr.mono (by decide)) (by rfl) pass0 (pa_cons (pv 0) (pa_cons (pv 1) (pa_cons (pe_un un_neg pe_int) pa_nil)))))), ?_⟩
  exact s_ret (De.call (args := fun a : Qs × PyData × Int => [formD K C_Form (qsD a.1), dat K a.2.1, dat K (.int a.2.2)]) (res := fun a => dat K (.bool (isRowD a.1 a.2.2 a.2.1))) (qs, d, -1) (.cons (.var hv rfl) (.cons (.var hv1 rfl) (.cons (.negI .int) .nil))) trivial) hB k
theorem sc_isPartOf : FnScope ["value", "things", "thing"] ["value", "things"] (defScope s_isPartOf) := ⟨rfl, rfl, rfl, by decide +kernel, rfl, by decide +kernel, by decide +kernel⟩
theorem ok_isPartOf (D : Def K mg "is_part_of" s_isPartOf ["value", "things"]) (n_tuple : mg "tuple" = none) (n_isinstance : mg "isinstance" = none) (n_list : mg "list" = none) : Cal P w K mg base CX0 1 "is_part_of" s_isPartOf ["value", "things"] (sp_isPartOf K) := by
  refine D.ok sc_isPartOf (fun vs H Q E h => ?_) (fun cdv f A outer s H vs Q E hr h => ?_)
  · exact pf_len h fun _ => rfl
  replace h := pf2 h
  obtain ⟨v, v1, B, ⟨d, zs⟩, rfl, hB, hv, hv1, ⟨sh, few, nm⟩, k⟩ := h
  refine ⟨_, (pss_one (ps_ret (pe_and (pe_callB call_isi (by rfl) n_isinstance (by decide +kernel) (pa_cons (pv 0) (pa_cons (pe_bltn (by rfl) n_tuple (by decide +kernel) (show RelV (.ty "tuple") (.type "tuple") from rfl)) pa_nil))) (pe_one (pe_cmpR (op_eqD hr.units) (pe_callTy call_list_of (by rfl) n_list (by decide +kernel) (pa_cons (pv 0) pa_nil)) (pe_lc (own := [("thing", 2)]) (g := gName 2) rfl sc_isPartOf.nd (pi_tup (pv 1)) (blkOk_by (own := [("thing", 2)]) (N := ["value", "things", "thing"]) (sc := defScope s_isPartOf) (by decide +kernel)) (fun _ _ _ _ _ => (pg_name (i := 2) sc_isPartOf.nd rfl (Or.inl rfl))) (fun _ _ _ _ _ => pts_one (pt_cmpR (r := rInT K false) (op_inT hr.u65) (pv 2) (pv 0) rfl)) (fun _ _ _ _ _ => (pv 2))) (nomark _)))))), ?_⟩
  have hv : dat K d B v := hv
  have hv1 : dat K (lotD zs) B v1 := hv1
  have sh : SeqAt.shaped d = true := sh
  have few : zs.length ≤ 8 := few
  have nm : ∀ z ∈ zs, Nm z := nm
  have k : ∀ (v : V) (B' H' : Hp), Ext B H B' H' → dat K (.bool (partD zs d)) B' v → Q v H' := k
  cases ht : isD "tuple" d with
  | false =>
    have e : partD zs d = false := by cases d <;> first | rfl | cases ht
    rw [e] at k
    exact s_ret (De.andV (a := false) (b := false) (De.eq (De.isi (.var hv rfl) (by simp)) (by rw [ht])) fun z => nomatch z) hB k
  | true =>
    obtain ⟨ds, rfl⟩ : ∃ ds, d = .tuple ds := by cases d <;> first | exact ⟨_, rfl⟩ | cases ht
    have k : ∀ (v : V) (B' H' : Hp), Ext B H B' H' → dat K (.bool (PyData.eqv (.list ds) (.list ((zs.filter fun z => ds.any fun x => PyData.eqv x (.str z)).map .str)))) B' v → Q v H' := k
    refine s_ret (De.andV (a := true) (De.isi (.var hv rfl) (by simp)) fun _ => De.op (r := rEqD K) (De.listT (.var hv rfl)) (De.lcD (K := K) (as := zs) (r := fun z => dat K (.str z)) (Di.tupM (.var hv1 rfl)) (fun z => ds.any fun x => PyData.eqv x (.str z)) (fun z => .str z) (by rw [sizeLine_eq]; omega) fun z x Bn Hn hz sn sh2 hx => ⟨_, fun Q q => q, rfl, Dt.test (De.op (r := rInT K false) (.var hx rfl) (.var (Mo.mo sn hv) rfl) (Rv.inT (shaped_str (nm z hz)) sh)), fun _ => .var hx rfl⟩) (Rv.eqD (shaped_list sh) (shaped_strsL fun z hz => nm z (List.mem_filter.mp hz).1))) hB k
theorem sc_isLot : FnScope ["form", "value"] ["form", "value"] (defScope s_isLot) := ⟨rfl, rfl, rfl, by decide +kernel, rfl, by decide +kernel, by decide +kernel⟩
theorem ok_isLot (D : Def K mg "is_lot" s_isLot ["form", "value"]) (C_isPartOf : Cal P w K mg base CX0 1 "is_part_of" s_isPartOf ["value", "things"] (sp_isPartOf K)) (C_namesOf : Cal P w K mg base CX0 1 "names_of" s_namesOf ["form"] (sp_namesOf K C_Form)) : Cal P w K mg base CX0 2 "is_lot" s_isLot ["form", "value"] (sp_isLot K C_Form) := by
  refine D.ok sc_isLot (fun vs H Q E h => ?_) (fun cdv f A outer s H vs Q E hr h => ?_)
  · exact pf_len h fun _ => rfl
  replace h := pf2 h
  obtain ⟨v, v1, B, ⟨qs, d⟩, rfl, hB, hv, hv1, ⟨sh, g⟩, k⟩ := h
  refine ⟨_, (pss_one (ps_ret (pe_cal C_isPartOf (hr.mono (by decide)) (by rfl) pass0 (pa_cons (pv 1) (pa_cons (pe_cal C_namesOf (hr.mono (by decide)) (by rfl) pass0 (pa_cons (pv 0) pa_nil)) pa_nil))))), ?_⟩
  have g : Good qs := g
  exact s_ret (De.call (args := fun a : PyData × List Str => [dat K a.1, dat K (lotD a.2)]) (res := fun a => dat K (.bool (partD a.2 a.1))) (d, Fm.names qs) (.cons (.var hv1 rfl) (.cons (De.call (args := fun qs => [formD K C_Form (qsD qs)]) (res := fun qs => dat K (lotD (Fm.names qs))) qs (.cons (.var hv rfl) .nil) g.few) .nil)) ⟨sh, (by unfold Fm.names; rw [List.length_map]; exact g.few), fun z hz => NmL.nm20 (g.nm z hz)⟩) hB k
end
end K05

set_option Elab.async false
set_option linter.all false
set_option maxRecDepth 100000
set_option maxHeartbeats 4000000
/-! K05p: lots, told of data. -/
namespace K05
open PySem PySem.Spec PyProof.Rows L2 Wb Wv Fm
theorem eqv_str {x : PyData} {z : Str} : PyData.eqv x (.str z) = true ↔ x = .str z := by
  cases x <;> simp [PyData.eqv]
theorem eqvAll_strs : ∀ {ds : List PyData} {zs : List Str}, PyData.eqvAll ds (zs.map .str) = true ↔ ds = zs.map .str
  | [], [] => by simp [PyData.eqvAll]
  | [], z :: zs => by simp [PyData.eqvAll]
  | d :: ds, [] => by simp [PyData.eqvAll]
  | d :: ds, z :: zs => by
    rw [List.map_cons]
    simp only [PyData.eqvAll, Bool.and_eq_true, eqv_str, eqvAll_strs (ds := ds) (zs := zs), List.cons.injEq]
theorem eqv_strs {ds : List PyData} {zs : List Str} : PyData.eqv (.list ds) (.list (zs.map .str)) = true ↔ ds = zs.map .str := by
  simp only [PyData.eqv]
  exact eqvAll_strs
theorem sl_irr (a : Str) : ¬ Sl a a := fun h => List.lt_irrefl _ h
theorem sl_asymm {a b : Str} (h : Sl a b) : ¬ Sl b a := fun g => List.lt_irrefl _ (List.lt_trans h g)
theorem sl_ext : ∀ {a b : List Str}, a.Pairwise Sl → b.Pairwise Sl → (∀ x, x ∈ a ↔ x ∈ b) → a = b
  | [], [], _, _, _ => rfl
  | [], y :: b, _, _, h => absurd ((h y).mpr List.mem_cons_self) (by simp)
  | x :: a, [], _, _, h => absurd ((h x).mp List.mem_cons_self) (by simp)
  | x :: a, y :: b, ha, hb, h => by
    obtain ⟨ha1, ha2⟩ := List.pairwise_cons.mp ha
    obtain ⟨hb1, hb2⟩ := List.pairwise_cons.mp hb
    have e : x = y := by
      rcases List.mem_cons.mp ((h x).mp List.mem_cons_self) with e | m
      · exact e
      · rcases List.mem_cons.mp ((h y).mpr List.mem_cons_self) with e | m2
        · exact e.symm
        · exact absurd (ha1 y m2) (sl_asymm (hb1 x m))
    subst e
    congr 1
    refine sl_ext ha2 hb2 fun z => ?_
    have hz := h z
    rw [List.mem_cons, List.mem_cons] at hz
    constructor
    · intro m
      rcases hz.mp (.inr m) with e | m2
      · subst e
        exact absurd (ha1 z m) (sl_irr z)
      · exact m2
    · intro m
      rcases hz.mpr (.inr m) with e | m2
      · subst e
        exact absurd (hb1 z m) (sl_irr z)
      · exact m2
theorem sl_chain {ws : List Str} (step : ∀ i (h : i + 1 < ws.length), Sl (ws[i]'(by omega)) ws[i + 1]) : ws.Pairwise Sl := by
  rw [List.pairwise_iff_getElem]
  intro i j hi hj ij
  have go : ∀ k, ∀ h : i + k + 1 < ws.length, Sl (ws[i]'hi) (ws[i + k + 1]) := fun k => by
    induction k with
    | zero => exact fun h => step i h
    | succ k ih => exact fun h => List.lt_trans (ih (by omega)) (step (i + k + 1) h)
  have := go (j - i - 1) (by omega)
  have e : i + (j - i - 1) + 1 = j := by omega
  simpa only [e] using this
/-- a thing that is one of the names -/
def okNm (zs : List Str) (x : PyData) : Bool := (zs.map PyData.str).any fun y => PyData.eqv y x
theorem okNm_form {zs : List Str} {x : PyData} (h : okNm zs x = true) : ∃ z, x = .str z ∧ z ∈ zs := by
  unfold okNm at h
  obtain ⟨y, hy, e⟩ := List.any_eq_true.mp h
  obtain ⟨z, hz, rfl⟩ := List.mem_map.mp hy
  cases x <;> simp [PyData.eqv] at e
  subst e
  exact ⟨_, rfl, hz⟩
theorem okNm_of {zs : List Str} {z : Str} (nm : ∀ z ∈ zs, NmL 1 8 z) (h : z ∈ zs) : okNm zs (.str z) = true := by
  unfold okNm
  rw [any_strs, decide_eq_true h]
theorem all_names {zs : List Str} : ∀ {ds : List PyData}, (∀ x ∈ ds, okNm zs x = true) → ∃ ws : List Str, ds = ws.map .str ∧ ∀ w ∈ ws, w ∈ zs
  | [], _ => ⟨[], rfl, fun x h => nomatch h⟩
  | d :: ds, h => by
    obtain ⟨z, rfl, hz⟩ := okNm_form (h d List.mem_cons_self)
    obtain ⟨ws, rfl, hw⟩ := all_names fun x hx => h x (List.mem_cons_of_mem _ hx)
    refine ⟨z :: ws, rfl, fun w hm => ?_⟩
    rcases List.mem_cons.mp hm with rfl | hm
    · exact hz
    · exact hw w hm
theorem part_iff {zs : List Str} {ds : List PyData} : partD zs (.tuple ds) = true ↔ ds = (zs.filter fun z => ds.any fun x => PyData.eqv x (.str z)).map .str := eqv_strs
theorem part_bad {zs : List Str} {ds : List PyData} (nm : ∀ z ∈ zs, NmL 1 8 z) {x : PyData} (hx : x ∈ ds) (bad : okNm zs x = false) : partD zs (.tuple ds) = false := by
  rw [Bool.eq_false_iff]
  intro h
  rw [part_iff] at h
  rw [h] at hx
  obtain ⟨z, hz, rfl⟩ := List.mem_map.mp hx
  rw [okNm_of nm (List.mem_filter.mp hz).1] at bad
  cases bad
theorem part_names {zs ws : List Str} (asc : zs.Pairwise Sl) (sub : ∀ w ∈ ws, w ∈ zs) : partD zs (.tuple (ws.map .str)) = true ↔ ws.Pairwise Sl := by
  rw [part_iff]
  have e : (zs.filter fun z => (ws.map PyData.str).any fun x => PyData.eqv x (.str z)) = zs.filter fun z => decide (z ∈ ws) := by
    congr 1
    funext z
    exact any_strs ws z
  rw [e]
  have inj : ∀ {a b : List Str}, a.map PyData.str = b.map PyData.str → a = b := fun {a b} h => by
    induction a generalizing b with
    | nil => cases b with
      | nil => rfl
      | cons y b => cases h
    | cons x a ih => cases b with
      | nil => cases h
      | cons y b =>
        rw [List.map_cons, List.map_cons] at h
        injection h with h1 h2
        injection h1 with h1
        rw [h1, ih h2]
  constructor
  · intro h
    rw [inj h]
    exact asc.filter _
  · intro h
    congr 1
    refine sl_ext h (asc.filter _) fun x => ?_
    rw [List.mem_filter, decide_eq_true_eq]
    exact ⟨fun m => ⟨sub x m, m⟩, fun m => m.2⟩
theorem filter_nil {α : Type} {p : α → Bool} {l : List α} : l.filter p = [] ↔ ∀ x ∈ l, p x = false := by
  rw [List.filter_eq_nil_iff]
  exact ⟨fun h x hx => by simpa using h x hx, fun h x hx => by simp [h x hx]⟩
/-- places of a row that are out of bounds -/
def rowBad (qs : Qs) (lo : Int) (ds : List PyData) (i : Nat) : Bool := match ds[i]?, qs[i]? with
  | some d, some q => !isInD d lo ((q.2 : Int) - 1)
  | _, _ => false
theorem row_law {qs : Qs} {lo : Int} {ds : List PyData} (hl : ds.length = qs.length) : decide (((List.range ds.length).filter (rowBad qs lo ds)).map (fun i : Nat => PyData.int (i : Int)) = []) = isRowD qs lo (.tuple ds) := by
  unfold isRowD
  dsimp only
  rw [decide_eq_true hl, Bool.true_and, Bool.eq_iff_iff, decide_eq_true_eq, List.map_eq_nil_iff, filter_nil, List.all_eq_true]
  constructor
  · rintro h ⟨d, q⟩ hp
    obtain ⟨i, hi, e⟩ := List.mem_iff_getElem.mp hp
    rw [List.length_zip] at hi
    rw [List.getElem_zip] at e
    have h1 : ds[i]? = some d := by rw [List.getElem?_eq_getElem (by omega)]; exact congrArg some (Prod.mk.inj e).1
    have h2 : qs[i]? = some q := by rw [List.getElem?_eq_getElem (by omega)]; exact congrArg some (Prod.mk.inj e).2
    have := h i (List.mem_range.mpr (by omega))
    unfold rowBad at this
    rw [h1, h2] at this
    simpa using this
  · intro h i hi
    have hi := List.mem_range.mp hi
    have h1 : ds[i]? = some ds[i] := List.getElem?_eq_getElem hi
    have h2 : qs[i]? = some (qs[i]'(by omega)) := List.getElem?_eq_getElem (by omega)
    unfold rowBad
    rw [h1, h2]
    have := h (ds[i], qs[i]'(by omega)) (List.mem_iff_getElem.mpr ⟨i, by rw [List.length_zip]; omega, by rw [List.getElem_zip]⟩)
    simp only [this, Bool.not_true]
end K05

set_option Elab.async false
set_option linter.all false
set_option maxRecDepth 100000
set_option maxHeartbeats 4000000
/-! We7: < and <= of data that are alike. -/
namespace Wv
open PySem PySem.Spec PyProof.Rows L2 Wb
def rLtA (K : PySem.W.Frag) : R2 := fun x y H Q => ∃ d e, Dp K H x d ∧ Dp K H y e ∧ PySem.W.alike d e = true ∧ d ≠ .none ∧ d.depth ≤ 60 ∧ Q (.bl (PySem.W.dataLt d e)) H
def rLeA (K : PySem.W.Frag) : R2 := fun x y H Q => ∃ d e, Dp K H x d ∧ Dp K H y e ∧ PySem.W.alike d e = true ∧ d ≠ .none ∧ d.depth ≤ 60 ∧ Q (.bl (!PySem.W.dataLt e d)) H
section
variable {X : Cx}
theorem op_ltA (hu : X.A.units + 64 < cLine) : OpR X (compareOp .Lt) (rLtA X.K) := by
  intro pins s σ H x y v u Q I rx ry h
  obtain ⟨d, e, hx, hy, al, nn, dep, q⟩ := h
  obtain ⟨as, ra⟩ := Dp.reads I d x v hx rx
  obtain ⟨bs, rb⟩ := Dp.reads I e y u hy ry
  exact PySem.W.lt_data ra rb al nn (by have := Nat.min_le_left d.depth e.depth; omega) ⟨.bl _, H, I, rfl, q⟩
theorem op_leA (hu : X.A.units + 64 < cLine) : OpR X (compareOp .LtE) (rLeA X.K) := by
  intro pins s σ H x y v u Q I rx ry h
  obtain ⟨d, e, hx, hy, al, nn, dep, q⟩ := h
  obtain ⟨as, ra⟩ := Dp.reads I d x v hx rx
  obtain ⟨bs, rb⟩ := Dp.reads I e y u hy ry
  exact PySem.W.le_data ra rb al nn (by have := Nat.min_le_left d.depth e.depth; omega) ⟨.bl _, H, I, rfl, q⟩
end
section
variable {K : PySem.W.Frag} {B : Hp} {d e : PyData}
theorem Rv.ltA (al : PySem.W.alike d e = true) (nn : d ≠ .none) (dep : d.depth ≤ 60) : Rv (rLtA K) B (dat K d) (dat K e) (dat K (.bool (PySem.W.dataLt d e))) := fun x y B1 H _ s2 hx hy Q q =>
  ⟨d, e, dpMono s2 _ _ hx, dpMono s2 _ _ hy, al, nn, dep, q _ B1 H (.refl s2) (Dp.bl _)⟩
theorem Rv.leA (al : PySem.W.alike d e = true) (nn : d ≠ .none) (dep : d.depth ≤ 60) : Rv (rLeA K) B (dat K d) (dat K e) (dat K (.bool (!PySem.W.dataLt e d))) := fun x y B1 H _ s2 hx hy Q q =>
  ⟨d, e, dpMono s2 _ _ hx, dpMono s2 _ _ hy, al, nn, dep, q _ B1 H (.refl s2) (Dp.bl _)⟩
end
end Wv

namespace Wf
/-- how a top and a bottom are brought down -/
theorem frac_val (t b : Int) (hb : b ≠ 0) : ∀ c : Int, c = (if b < 0 then -((Nat.gcd t.natAbs b.natAbs : Nat) : Int) else ((Nat.gcd t.natAbs b.natAbs : Nat) : Int)) →
    c ≠ 0 ∧ t.fdiv c = (Rat.divInt t b).num ∧ b.fdiv c = ((Rat.divInt t b).den : Int) := by
  intro c hc
  have gp : 0 < Nat.gcd t.natAbs b.natAbs := Nat.gcd_pos_of_pos_right _ (Int.natAbs_pos.mpr hb)
  generalize hg : Nat.gcd t.natAbs b.natAbs = g at *
  have dt : (g : Int) ∣ t := Int.natAbs_dvd_natAbs.mp (by rw [Int.natAbs_natCast, ← hg]; exact Nat.gcd_dvd_left _ _)
  have db : (g : Int) ∣ b := Int.natAbs_dvd_natAbs.mp (by rw [Int.natAbs_natCast, ← hg]; exact Nat.gcd_dvd_right _ _)
  have e1 : (Rat.divInt t b).num = b.sign * t / g := by
    rw [Rat.num_divInt]
    have : b.gcd t = g := by rw [← hg, Nat.gcd_comm]; rfl
    rw [this]
  have e2 : ((Rat.divInt t b).den : Int) = (b.natAbs : Int) / (g : Int) := by
    rw [Rat.den_divInt, if_neg hb]
    have : b.gcd t = g := by rw [← hg, Nat.gcd_comm]; rfl
    rw [this, Int.natCast_ediv]
  obtain ⟨x, rfl⟩ := dt
  obtain ⟨y, rfl⟩ := db
  have g0 : (g : Int) ≠ 0 := by omega
  rw [e1, e2]
  by_cases neg : (g : Int) * y < 0
  · rw [if_pos neg] at hc
    subst hc
    have s : ((g : Int) * y).sign = -1 := Int.sign_eq_neg_one_of_neg neg
    have n : (((g : Int) * y).natAbs : Int) = (g : Int) * -y := by
      have := Int.ofNat_natAbs_of_nonpos (Int.le_of_lt neg)
      rw [this, Int.mul_neg]
    refine ⟨by omega, ?_, ?_⟩
    · rw [s]
      have : -1 * ((g : Int) * x) = (g : Int) * -x := by rw [Int.mul_neg]; omega
      rw [this, Int.mul_ediv_cancel_left _ g0]
      exact Int.fdiv_eq_of_eq_mul_right (by omega) (by rw [Int.neg_mul_neg])
    · rw [n, Int.mul_ediv_cancel_left _ g0]
      exact Int.fdiv_eq_of_eq_mul_right (by omega) (by rw [Int.neg_mul_neg])
  · rw [if_neg neg] at hc
    subst hc
    have pos : 0 < (g : Int) * y := by omega
    have s : ((g : Int) * y).sign = 1 := Int.sign_eq_one_of_pos pos
    have n : (((g : Int) * y).natAbs : Int) = (g : Int) * y := Int.natAbs_of_nonneg (Int.le_of_lt pos)
    refine ⟨g0, ?_, ?_⟩
    · rw [s, Int.one_mul, Int.mul_ediv_cancel_left _ g0]
      exact Int.fdiv_eq_of_eq_mul_right g0 rfl
    · rw [n, Int.mul_ediv_cancel_left _ g0]
      exact Int.fdiv_eq_of_eq_mul_right g0 rfl
/-- the same for a bottom above 0, by the other division -/
theorem low_val (t b : Int) (hb : 0 < b) : t / ((Nat.gcd t.natAbs b.natAbs : Nat) : Int) = (Rat.divInt t b).num ∧ b / ((Nat.gcd t.natAbs b.natAbs : Nat) : Int) = ((Rat.divInt t b).den : Int) := by
  obtain ⟨_, h1, h2⟩ := frac_val t b (by omega) _ (if_neg (by omega)).symm
  rw [Int.fdiv_eq_ediv_of_nonneg _ (Int.natCast_nonneg _)] at h1 h2
  exact ⟨h1, h2⟩
theorem add_val (p q : Rat) : Rat.divInt (p.num * q.den + q.num * p.den) (p.den * q.den) = p + q := by
  rw [Rat.add_def', ← Rat.divInt_ofNat, Int.natCast_mul]
theorem sub_val (p q : Rat) : Rat.divInt (p.num * q.den - q.num * p.den) (p.den * q.den) = p - q := by
  rw [Rat.sub_def', ← Rat.divInt_ofNat, Int.natCast_mul]
theorem mul_val (p q : Rat) : Rat.divInt (p.num * q.num) (p.den * q.den) = p * q := by
  rw [Rat.mul_def', ← Rat.divInt_ofNat, Int.natCast_mul]
theorem div_val (p q : Rat) : Rat.divInt (p.num * q.den) (p.den * q.num) = p / q := by
  rw [Rat.div_def, Rat.inv_def, ← Rat.divInt_mul_divInt, Rat.num_divInt_den]
theorem neg_divInt (t b : Int) : Rat.divInt (0 - t) (0 - b) = Rat.divInt t b := by
  rw [Int.zero_sub, Int.zero_sub, Rat.neg_divInt_neg]
/-- how long tops and bottoms are -/
structure Sz (k : Nat) (q : Rat) : Prop where
  top : q.num.natAbs < 2 ^ k
  bot : q.den < 2 ^ k
theorem Sz.mono {j k : Nat} {q : Rat} (h : Sz j q) (l : j ≤ k) : Sz k q :=
  ⟨Nat.lt_of_lt_of_le h.top (Nat.pow_le_pow_right (by decide) l), Nat.lt_of_lt_of_le h.bot (Nat.pow_le_pow_right (by decide) l)⟩
theorem sz_divInt {t b : Int} {k : Nat} (hb : b ≠ 0) (h1 : t.natAbs < 2 ^ k) (h2 : b.natAbs < 2 ^ k) : Sz k (Rat.divInt t b) := by
  have gp : 0 < b.gcd t := Int.gcd_pos_of_ne_zero_left _ hb
  constructor
  · rw [Rat.num_divInt]
    have : (b.sign * t / (b.gcd t : Int)).natAbs ≤ (b.sign * t).natAbs := by
      exact Int.natAbs_ediv_le_natAbs _ _
    rw [Int.natAbs_mul, Int.natAbs_sign_of_ne_zero hb, Nat.one_mul] at this
    omega
  · rw [Rat.den_divInt, if_neg hb]
    exact Nat.lt_of_le_of_lt (Nat.div_le_self _ _) h2
theorem lt_mul {a b j k : Nat} (h1 : a < 2 ^ j) (h2 : b < 2 ^ k) : a * b < 2 ^ (j + k) := by
  rw [Nat.pow_add]
  exact Nat.mul_lt_mul'' h1 h2
theorem Sz.add {j k : Nat} {p q : Rat} (h1 : Sz j p) (h2 : Sz k q) : Sz (j + k + 1) (p + q) := by
  rw [← add_val]
  have a := lt_mul h1.top h2.bot
  have b := lt_mul h2.top h1.bot
  have c := lt_mul h1.bot h2.bot
  have e : 2 ^ (j + k + 1) = 2 ^ (j + k) + 2 ^ (j + k) := by rw [Nat.pow_succ]; omega
  rw [Nat.add_comm k j] at b
  have hd : (p.den : Int) * q.den ≠ 0 := by
    have := p.den_pos; have := q.den_pos
    exact Int.mul_ne_zero (by omega) (by omega)
  refine sz_divInt hd ?_ ?_
  · have := Int.natAbs_add_le (p.num * q.den) (q.num * p.den)
    rw [Int.natAbs_mul, Int.natAbs_mul, Int.natAbs_natCast, Int.natAbs_natCast] at this
    omega
  · rw [Int.natAbs_mul, Int.natAbs_natCast, Int.natAbs_natCast]
    omega
theorem Sz.neg {k : Nat} {p : Rat} (h : Sz k p) : Sz k (-p) := ⟨by rw [Rat.neg_num, Int.natAbs_neg]; exact h.top, h.bot⟩
theorem Sz.sub {j k : Nat} {p q : Rat} (h1 : Sz j p) (h2 : Sz k q) : Sz (j + k + 1) (p - q) := by
  rw [Rat.sub_eq_add_neg]
  exact h1.add h2.neg
theorem Sz.mul {j k : Nat} {p q : Rat} (h1 : Sz j p) (h2 : Sz k q) : Sz (j + k) (p * q) := by
  rw [← mul_val]
  have a := lt_mul h1.top h2.top
  have c := lt_mul h1.bot h2.bot
  have hd : (p.den : Int) * q.den ≠ 0 := by
    have := p.den_pos; have := q.den_pos
    exact Int.mul_ne_zero (by omega) (by omega)
  refine sz_divInt hd ?_ ?_
  · rw [Int.natAbs_mul]; exact a
  · rw [Int.natAbs_mul, Int.natAbs_natCast, Int.natAbs_natCast]; exact c
theorem Sz.div {j k : Nat} {p q : Rat} (h1 : Sz j p) (h2 : Sz k q) (h : q ≠ 0) : Sz (j + k) (p / q) := by
  rw [← div_val]
  have a := lt_mul h1.top h2.bot
  have c := lt_mul h1.bot h2.top
  have hd : (p.den : Int) * q.num ≠ 0 := by
    have := p.den_pos
    exact Int.mul_ne_zero (by omega) (fun e => h (Rat.num_eq_zero.mp e))
  refine sz_divInt hd ?_ ?_
  · rw [Int.natAbs_mul, Int.natAbs_natCast]; exact a
  · rw [Int.natAbs_mul, Int.natAbs_natCast]; exact c
/-- 1, 0, -1 -/
def cmpI (x y : Int) : Int := (if x > y then 1 else 0) - (if x < y then 1 else 0)
def cmpR (p q : Rat) : Int := cmpI (p.num * q.den) (q.num * p.den)
theorem cmpR_eq (p q : Rat) : cmpR p q = if q < p then 1 else if p < q then -1 else 0 := by
  unfold cmpR cmpI
  have h1 : (q < p) ↔ p.num * q.den > q.num * p.den := Rat.lt_iff q p
  have h2 : (p < q) ↔ p.num * q.den < q.num * p.den := Rat.lt_iff p q
  by_cases a : q < p
  · have b := h1.mp a
    rw [if_pos a, if_pos b, if_neg (by omega)]
    rfl
  · have b := fun z => a (h1.mpr z)
    rw [if_neg a, if_neg b]
    by_cases c : p < q
    · rw [if_pos c, if_pos (h2.mp c)]; rfl
    · rw [if_neg c, if_neg fun z => c (h2.mpr z)]; rfl
theorem cmp_add (p q r : Rat) : cmpR (p + r) (q + r) = cmpR p q := by
  rw [cmpR_eq, cmpR_eq]
  have h : ∀ x y : Rat, x + r < y + r ↔ x < y := fun x y => by
    constructor <;> intro z <;> grind
  simp only [h]
theorem cmp_sign (r : Rat) : cmpR r 0 = if 0 < r then 1 else if r < 0 then -1 else 0 := cmpR_eq r 0
theorem cmp_mul (p q r : Rat) : cmpR (p * r) (q * r) = cmpR p q * cmpR r 0 := by
  have key : ∀ x y : Rat, 0 < r → (x * r < y * r ↔ x < y) := fun x y h => ⟨fun z => by
    by_cases c : x < y
    · exact c
    · have : 0 ≤ (x - y) * r := Rat.mul_nonneg (by grind) (by grind)
      grind, fun z => by
    have : 0 < (y - x) * r := Rat.mul_pos (by grind) h
    grind⟩
  have key2 : ∀ x y : Rat, r < 0 → (x * r < y * r ↔ y < x) := fun x y h => ⟨fun z => by
    by_cases c : y < x
    · exact c
    · have : 0 ≤ (y - x) * -r := Rat.mul_nonneg (by grind) (by grind)
      grind, fun z => by
    have : 0 < (x - y) * -r := Rat.mul_pos (by grind) (by grind)
    grind⟩
  rw [cmpR_eq, cmpR_eq, cmp_sign]
  by_cases a : 0 < r
  · simp only [key _ _ a, if_pos a, Int.mul_one]
  · by_cases b : r < 0
    · simp only [key2 _ _ b, if_pos b, if_neg a]
      by_cases c : p < q
      · have : ¬ q < p := by grind
        simp [c, this]
      · by_cases d : q < p
        · simp [c, d]
        · simp [c, d]
    · have : r = 0 := by grind
      subst this
      simp
end Wf

namespace Wf
def sumR : List Rat → Rat
  | [] => 0
  | q :: r => q + sumR r
def prodR : List Rat → Rat
  | [] => 1
  | q :: r => q * prodR r
theorem sumR_snoc (q : Rat) : ∀ l : List Rat, sumR (l ++ [q]) = sumR l + q
  | [] => by show q + 0 = 0 + q; rw [Rat.add_comm]
  | x :: l => by
    show x + sumR (l ++ [q]) = x + sumR l + q
    rw [sumR_snoc q l, Rat.add_assoc]
theorem prodR_snoc (q : Rat) : ∀ l : List Rat, prodR (l ++ [q]) = prodR l * q
  | [] => by show q * 1 = 1 * q; rw [Rat.mul_comm]
  | x :: l => by
    show x * prodR (l ++ [q]) = x * prodR l * q
    rw [prodR_snoc q l, Rat.mul_assoc]
theorem den_ne0 (q : Rat) : (q.den : Int) ≠ 0 := by
  have := q.den_pos
  omega
/-- the parts of a common bottom -/
def sumTop (L : Int) : List Rat → Int
  | [] => 0
  | q :: r => q.num * (L / q.den) + sumTop L r
theorem one_part {L : Int} (h : L ≠ 0) {q : Rat} (d : (q.den : Int) ∣ L) : Rat.divInt (q.num * (L / q.den)) L = q := by
  obtain ⟨m, rfl⟩ := d
  have m0 : m ≠ 0 := fun e => h (by rw [e, Int.mul_zero])
  rw [Int.mul_ediv_cancel_left _ (den_ne0 q), Rat.divInt_mul_right m0, Rat.num_divInt_den]
theorem add_parts {L a b : Int} (h : L ≠ 0) : Rat.divInt (a + b) L = Rat.divInt a L + Rat.divInt b L := by
  rw [Rat.divInt_add_divInt _ _ h h, ← Int.add_mul, Rat.divInt_mul_right h]
theorem sum_parts {L : Int} (h : L ≠ 0) : ∀ l : List Rat, (∀ q ∈ l, (q.den : Int) ∣ L) → Rat.divInt (sumTop L l) L = sumR l
  | [], _ => by show Rat.divInt 0 L = 0; exact Rat.zero_divInt _
  | q :: r, d => by
    show Rat.divInt (q.num * (L / q.den) + sumTop L r) L = q + sumR r
    rw [add_parts h, one_part h (d q List.mem_cons_self), sum_parts h r fun x hx => d x (List.mem_cons_of_mem _ hx)]
theorem sumTop_eq (L : Int) : ∀ l : List Rat, sumTop L l = (l.map fun q => q.num * (L / q.den)).sum
  | [] => rfl
  | q :: r => by
    show q.num * (L / q.den) + sumTop L r = _
    rw [sumTop_eq L r]
    simp
/-- a sum, a product kept as a top and a bottom -/
theorem step_sum {t b : Int} (hb : b ≠ 0) (q : Rat) : Rat.divInt (t * q.den + q.num * b) (b * q.den) = Rat.divInt t b + q := by
  have e : q = Rat.divInt q.num q.den := (Rat.num_divInt_den q).symm
  conv => rhs; rw [e]
  rw [Rat.divInt_add_divInt _ _ hb (den_ne0 q)]
theorem step_prod (t b : Int) (q : Rat) : Rat.divInt (t * q.num) (b * q.den) = Rat.divInt t b * q := by
  have e : q = Rat.divInt q.num q.den := (Rat.num_divInt_den q).symm
  conv => rhs; rw [e]
  rw [Rat.divInt_mul_divInt]
theorem one_le_two_pow (k : Nat) : 1 ≤ 2 ^ k := Nat.one_le_two_pow
theorem lcm_step {L : Nat} {q : Rat} {j k : Nat} (l0 : 0 < L) (hl : L < 2 ^ j) (hq : q.den < 2 ^ k) : 0 < Nat.lcm L q.den ∧ Nat.lcm L q.den < 2 ^ (j + k) ∧ q.den ∣ Nat.lcm L q.den ∧ L ∣ Nat.lcm L q.den := by
  refine ⟨Nat.lcm_pos l0 q.den_pos, ?_, Nat.dvd_lcm_right _ _, Nat.dvd_lcm_left _ _⟩
  have : Nat.lcm L q.den ≤ L * q.den := Nat.div_le_self _ _
  rw [Nat.pow_add]
  exact Nat.lt_of_le_of_lt this (Nat.mul_lt_mul'' hl hq)
/-- Euclid's steps -/
structure Euc (A B : Nat) (k i a b : Nat) : Prop where
  g : Nat.gcd a b = Nat.gcd A B
  first : i = 0 → a = A ∧ b = B
  later : 0 < i → b < a ∧ a * b * 2 ^ (i - 1) < 2 ^ (2 * k)
theorem euc_step {A B k i a b : Nat} (e : Euc A B k i a b) (hb : B < 2 ^ k) (b0 : b ≠ 0) : Euc A B k (i + 1) b (a % b) := by
  have bp : 0 < b := Nat.pos_of_ne_zero b0
  refine ⟨?_, fun z => by omega, fun _ => ⟨Nat.mod_lt _ bp, ?_⟩⟩
  · rw [← e.g, Nat.gcd_comm b, ← Nat.gcd_rec, Nat.gcd_comm]
  · by_cases hi : i = 0
    · obtain ⟨rfl, rfl⟩ := e.first hi
      subst hi
      show b * (a % b) * 2 ^ 0 < _
      have h1 : a % b < 2 ^ k := Nat.lt_trans (Nat.mod_lt _ bp) hb
      rw [Nat.pow_zero, Nat.mul_one, Nat.two_mul, Nat.pow_add]
      exact Nat.mul_lt_mul'' hb h1
    · obtain ⟨h1, h2⟩ := e.later (by omega)
      obtain ⟨j, rfl⟩ : ∃ j, i = j + 1 := ⟨i - 1, by omega⟩
      show b * (a % b) * 2 ^ (j + 1) < _
      have h3 : 2 * (a % b) ≤ a := by
        have := Nat.mod_add_div a b
        have q1 : 1 ≤ a / b := (Nat.le_div_iff_mul_le bp).mpr (by omega)
        have q2 : b * 1 ≤ b * (a / b) := Nat.mul_le_mul_left b q1
        have q3 := Nat.mod_lt a bp
        omega
      have h4 : b * (a % b) * 2 ^ (j + 1) ≤ a * b * 2 ^ j := by
        rw [Nat.pow_succ, Nat.mul_comm (2 ^ j) 2, ← Nat.mul_assoc, Nat.mul_comm a b]
        apply Nat.mul_le_mul_right
        rw [Nat.mul_assoc, Nat.mul_comm (a % b) 2]
        exact Nat.mul_le_mul_left b h3
      exact Nat.lt_of_le_of_lt h4 h2
theorem euc_end {A B k i a b : Nat} (e : Euc A B k i a b) (hi : 2 * k + 1 ≤ i) : b = 0 := by
  obtain ⟨h1, h2⟩ := e.later (by omega)
  by_cases z : b = 0
  · exact z
  · exfalso
    have p : 1 ≤ a * b := Nat.mul_pos (by omega) (by omega)
    have q : 2 ^ (2 * k) ≤ 2 ^ (i - 1) := Nat.pow_le_pow_right (by decide) (by omega)
    have r : 1 * 2 ^ (i - 1) ≤ a * b * 2 ^ (i - 1) := Nat.mul_le_mul_right _ p
    omega
theorem euc_done {A B k i a : Nat} (e : Euc A B k i a 0) : a = Nat.gcd A B := by
  rw [← e.g, Nat.gcd_zero_right]
end Wf

set_option Elab.async false
set_option linter.all false
set_option maxRecDepth 100000
set_option maxHeartbeats 4000000
/-! Fq: fractions as data, what is worked out of them. -/
theorem L2.Room.u1 {k : Nat} {A : PySem.Around} (h : L2.Room k A) : A.units + 1 < PySem.cLine := by
  have := h.units
  omega
namespace Fq
open PySem PySem.Spec PyProof.Rows L2 Wb Wv Wf
/-- a fraction as data -/
def frD (q : Rat) : PyData := .tuple [.int q.num, .int (q.den : Int)]
theorem frD_eqv (p q : Rat) : PyData.eqv (frD p) (frD q) = decide (p = q) := by
  unfold frD
  simp only [PyData.eqv, PyData.eqvAll, Bool.and_true]
  by_cases h : p = q
  · subst h
    simp
  · rw [decide_eq_false h]
    by_cases a : p.num = q.num
    · have b : ¬ p.den = q.den := fun z => h (Rat.ext a z)
      have b' : ¬ (p.den : Int) = q.den := fun z => b (by omega)
      simp [a, b']
    · simp [a]
theorem frD_shaped (q : Rat) : SeqAt.shaped (frD q) = true := by
  show (PyData.canLay0 (frD q) && decide (PyData.depth (frD q) ≤ 64)) = true
  unfold frD
  simp [PyData.canLay0, PyData.canLayAll0, PyData.depth, PyData.depthAll]
theorem denA (q : Rat) : ((q.den : Int)).natAbs = q.den := Int.natAbs_natCast _
theorem frD_tb {q : Rat} {n : Nat} (h : Sz n q) (hn : n ≤ 1900) : Tb 1 2 (frD q) := by
  have up : 2 ^ n ≤ 2 ^ 1900 := Nat.pow_le_pow_right (by decide) hn
  have h1 := h.top
  have h2 := h.bot
  have h3 : ((q.den : Int)).natAbs < 2 ^ 1900 := by rw [denA]; omega
  exact (TbAll.cons (tb_int (by omega)) (.cons (tb_int h3) .nil)).tuple
theorem den_ne (q : Rat) : (q.den : Int) ≠ 0 := by
  have := q.den_pos
  omega
theorem dens_ne (p q : Rat) : (p.den : Int) * q.den ≠ 0 := Int.mul_ne_zero (den_ne p) (den_ne q)
theorem den_pos (q : Rat) : (0 : Int) < q.den := by
  have := q.den_pos
  omega
theorem dens_pos (p q : Rat) : (0 : Int) < p.den * q.den := Int.mul_pos (den_pos p) (den_pos q)
theorem lt_mulI {i j : Int} {a b : Nat} (ha : i.natAbs < 2 ^ a) (hb : j.natAbs < 2 ^ b) : (i * j).natAbs < 2 ^ (a + b) := wide_lt ha hb
theorem sz_den {k : Nat} {q : Rat} (h : Sz k q) : ((q.den : Int)).natAbs < 2 ^ k := by
  rw [denA]
  exact h.bot
theorem mulOk {i j : Int} (h1 : i.natAbs < 2 ^ 3000) (h2 : j.natAbs < 2 ^ 3000) : CMulW i j := wide_mul h1 h2 (by decide) (by decide) (by decide)
theorem dens_lt {p q : Rat} (h1 : Sz 3000 p) (h2 : Sz 3000 q) : ((p.den : Int) * q.den).natAbs < 2 ^ 7000 := Nat.lt_of_lt_of_le (lt_mulI (sz_den h1) (sz_den h2)) (Nat.pow_le_pow_right (by decide) (by decide))
theorem tops_lt {p q : Rat} (h1 : Sz 3000 p) (h2 : Sz 3000 q) : (p.num * q.num).natAbs < 2 ^ 7000 := Nat.lt_of_lt_of_le (lt_mulI h1.top h2.top) (Nat.pow_le_pow_right (by decide) (by decide))
theorem cross_lt {p q : Rat} (h1 : Sz 3000 p) (h2 : Sz 3000 q) : (p.num * q.den + q.num * p.den).natAbs < 2 ^ 7000 := by
  have a := lt_mulI h1.top (sz_den h2)
  have b := lt_mulI h2.top (sz_den h1)
  have c : 2 ^ (3000 + 3000) + 2 ^ (3000 + 3000) ≤ 2 ^ 7000 := by
    rw [← Nat.two_mul, ← Nat.pow_succ']
    exact Nat.pow_le_pow_right (by decide) (by decide)
  exact Nat.lt_of_le_of_lt (Int.natAbs_add_le _ _) (Nat.lt_of_lt_of_le (Nat.add_lt_add a b) c)
theorem cross_lt' {p q : Rat} (h1 : Sz 3000 p) (h2 : Sz 3000 q) : (p.num * q.den - q.num * p.den).natAbs < 2 ^ 7000 := by
  have a := lt_mulI h1.top (sz_den h2)
  have b := lt_mulI h2.top (sz_den h1)
  have c : 2 ^ (3000 + 3000) + 2 ^ (3000 + 3000) ≤ 2 ^ 7000 := by
    rw [← Nat.two_mul, ← Nat.pow_succ']
    exact Nat.pow_le_pow_right (by decide) (by decide)
  have d := Int.natAbs_sub_le (p.num * q.den) (q.num * p.den)
  exact Nat.lt_of_le_of_lt d (Nat.lt_of_lt_of_le (Nat.add_lt_add a b) c)
/-! ### promises -/
/-- fraction(top, bottom) -/
def spFracD (K : PySem.W.Frag) (CS : Addr) : Sp := fun vs H Q E => ∃ (B : Hp) (t b : Int), vs = [.int t, .int b] ∧ Same B H ∧ b.natAbs < 2 ^ 7000 ∧ (b ≠ 0 → ∀ v B' H', Ext B H B' H' → dat K (frD (Rat.divInt t b)) B' v → Q v H') ∧
  (b = 0 → ∀ dx, H dx = none → E (.ref CS) (some dx) (upd H dx (.xd [("word", .str "bottom")])))
abbrev spLowD (K : PySem.W.Frag) : Sp := Pf (α := Int × Int) (fun a => [dat K (.int a.1), dat K (.int a.2)]) (fun a => 0 < a.2 ∧ a.2.natAbs < 2 ^ 7000) (fun a => dat K (frD (Rat.divInt a.1 a.2)))
abbrev spGcdD (K : PySem.W.Frag) : Sp := Pf (α := Nat × Nat) (fun a => [dat K (.int a.1), dat K (.int a.2)]) (fun _ => True) (fun a => dat K (.int (Nat.gcd a.1 a.2 : Nat)))
abbrev spWholeD (K : PySem.W.Frag) : Sp := Pf (α := Int) (fun a => [dat K (.int a)]) (fun _ => True) (fun a => dat K (frD (a : Rat)))
abbrev spBinD (K : PySem.W.Frag) (f : Rat → Rat → Rat) : Sp := Pf (α := Rat × Rat) (fun a => [dat K (frD a.1), dat K (frD a.2)]) (fun a => Sz 3000 a.1 ∧ Sz 3000 a.2) (fun a => dat K (frD (f a.1 a.2)))
section
variable {K : PySem.W.Frag} {σ : L2.St} {B B' : Hp} {ta tb te : TE} {p q : Rat} {E : XK} {CS : Addr}
theorem De.num (h : De te σ B (dat K (frD q))) : De (tOp (rIxT K) te (tC (.int 0))) σ B (dat K (.int q.num)) := .op h .int (Rv.ixTD rfl)
theorem De.den (h : De te σ B (dat K (frD q))) : De (tOp (rIxT K) te (tC (.int 1))) σ B (dat K (.int (q.den : Int))) := .op h .int (Rv.ixTD rfl)
theorem De.frac {t b : Int} {tr : TA} (h : Da tr σ B [dat K (.int t), dat K (.int b)]) (b0 : b ≠ 0) (lb : b.natAbs < 2 ^ 7000) : De (tCall (fun vs H Q _ => spFracD K CS vs H Q fun _ _ _ => False) [] E tr) σ B (dat K (frD (Rat.divInt t b))) := fun B1 H s1 s2 Q k =>
  h B1 H s1 s2 _ fun vs B2 H2 e hv => by
    obtain ⟨x, r, rfl, hx, y, r', rfl, hy, hr⟩ := hv
    have hr : r' = [] := hr
    subst hr
    have hx := dat_int hx
    subst hx
    have hy := dat_int hy
    subst hy
    exact ⟨B2, t, b, rfl, e.bh, lb, fun _ v B' H' e' hv => k v B' H' (e.trans e') hv, fun z => absurd z b0⟩
theorem De.low {t b : Int} {tr : TA} (h : Da tr σ B [dat K (.int t), dat K (.int b)]) (b0 : 0 < b) (lb : b.natAbs < 2 ^ 7000) : De (tCall (spLowD K) [] E tr) σ B (dat K (frD (Rat.divInt t b))) := De.call (t, b) h ⟨b0, lb⟩
theorem De.bin {f : Rat → Rat → Rat} {tr : TA} (h : Da tr σ B [dat K (frD p), dat K (frD q)]) (zp : Sz 3000 p) (zq : Sz 3000 q) : De (tCall (spBinD K f) [] E tr) σ B (dat K (frD (f p q))) := De.call (p, q) h ⟨zp, zq⟩
theorem De.tupI {i j : Int} {tr : TA} (h : Da tr σ B [dat K (.int i), dat K (.int j)]) : De (tTup tr) σ B (dat K (.tuple [.int i, .int j])) := De.tupD (ds := [.int i, .int j]) h (by show 2 ≤ sizeLine; decide)
theorem De.cross {ta tb tc td : TE} (ha : De ta σ B (dat K (frD p))) (hb : De tb σ B (dat K (frD q))) (hc : De tc σ B (dat K (frD q))) (hd : De td σ B (dat K (frD p))) (zp : Sz 3000 p) (zq : Sz 3000 q) :
    De (tOp (rI0 fun i j => .int (i + j)) (tOp (rI CMulW fun i j => .int (i * j)) (tOp (rIxT K) ta (tC (.int 0))) (tOp (rIxT K) tb (tC (.int 1)))) (tOp (rI CMulW fun i j => .int (i * j)) (tOp (rIxT K) tc (tC (.int 0))) (tOp (rIxT K) td (tC (.int 1))))) σ B (dat K (.int (p.num * q.den + q.num * p.den))) :=
  .op (.op (De.num ha) (De.den hb) (Rv.I (mulOk zp.top (sz_den zq)))) (.op (De.num hc) (De.den hd) (Rv.I (mulOk zq.top (sz_den zp)))) Rv.I0
theorem De.tops {ta tb : TE} (ha : De ta σ B (dat K (frD p))) (hb : De tb σ B (dat K (frD q))) (zp : Sz 3000 p) (zq : Sz 3000 q) :
    De (tOp (rI CMulW fun i j => .int (i * j)) (tOp (rIxT K) ta (tC (.int 0))) (tOp (rIxT K) tb (tC (.int 0)))) σ B (dat K (.int (p.num * q.num))) := .op (De.num ha) (De.num hb) (Rv.I (mulOk zp.top zq.top))
theorem De.dens {ta tb : TE} (ha : De ta σ B (dat K (frD p))) (hb : De tb σ B (dat K (frD q))) (zp : Sz 3000 p) (zq : Sz 3000 q) :
    De (tOp (rI CMulW fun i j => .int (i * j)) (tOp (rIxT K) ta (tC (.int 1))) (tOp (rIxT K) tb (tC (.int 1)))) σ B (dat K (.int (p.den * q.den))) := .op (De.den ha) (De.den hb) (Rv.I (mulOk (sz_den zp) (sz_den zq)))
theorem den1 (n : Int) : frD (n : Rat) = .tuple [.int n, .int 1] := rfl
theorem De.cstT {a : Addr} {i j : Int} (h : ∀ H, SqT K H a [.int i, .int j]) : De (tC (.ref a)) σ B (dat K (.tuple [.int i, .int j])) := .cst fun B => .tup (h B) (.cons (.int _) (.cons (.int _) .nil))
theorem gcd_pos {t b : Int} (hb : 0 < b) : 0 < Nat.gcd t.natAbs b.natAbs := Nat.gcd_pos_of_pos_right _ (by omega)
theorem dats_ints : ∀ {ns : List Int} {xs : List V}, AllR (ns.map fun n => dat K (.int n)) B xs → xs = ns.map V.int
  | [], xs, h => h
  | n :: ns, xs, ⟨v, u, e, h, t⟩ => by
    rw [e, dat_int h, dats_ints t]
    rfl
theorem rc_sum {ns : List Int} : Rc (rSum K) B [dat K (.list (ns.map .int))] (dat K (.int ns.sum)) := fun vs B1 H _ s2 hv Q q => by
  obtain ⟨v, r, rfl, h, h2⟩ := hv
  have h2 : r = [] := h2
  subst h2
  obtain ⟨a, xs, rfl, hs, hR⟩ := dat_lstR h
  rw [List.map_map] at hR
  have e := dats_ints (K := K) (ns := ns) hR
  subst e
  exact ⟨a, ns, rfl, s2.seq hs, q _ B1 H (.refl s2) (.int _)⟩
theorem De.gcd {t b : Int} {tr : TA} (h : Da tr σ B [dat K (.int t), dat K (.int b)]) : De (tCB rGcd tr) σ B (dat K (.int ((Nat.gcd t.natAbs b.natAbs : Nat) : Int))) := .cb h fun vs B1 H _ s2 hv Q k => by
  obtain ⟨x, r, rfl, hx, y, r', rfl, hy, hr⟩ := hv
  have hr : r' = [] := hr
  subst hr
  exact ⟨t, b, by rw [dat_int hx, dat_int hy], k _ B1 H (.refl s2) (.int _)⟩
theorem De.abs {i : Int} (h : De te σ B (dat K (.int i))) : De (tCB (fun xs H Q => ∃ i, xs = [.int i] ∧ Q (.int (if i < 0 then -i else i)) H) (tCons te tNil)) σ B (dat K (.int (i.natAbs : Nat))) := .cb (.one h) fun vs B1 H _ s2 hv Q k => by
  obtain ⟨x, r, rfl, hx, hr⟩ := hv
  have hr : r = [] := hr
  subst hr
  refine ⟨i, by rw [dat_int hx], k _ B1 H (.refl s2) ?_⟩
  have : (if i < 0 then -i else i) = ((i.natAbs : Nat) : Int) := by split <;> omega
  rw [this]
  exact .int _
theorem kw2s {R R1 : Rel} {vs : List V} (h : AllR [R, R1] B vs) : AllR [R, R1] B (kwV [0, 1] vs) := by
  obtain ⟨x, r, rfl, hx, y, r', rfl, hy, hr⟩ := h
  have hr : r' = [] := hr
  subst hr
  exact ⟨x, _, rfl, hx, y, _, rfl, hy, rfl⟩
theorem low_eq {t b : Int} (hb : 0 < b) : t / ((Nat.gcd t.natAbs b.natAbs : Nat) : Int) = (Rat.divInt t b).num ∧ b / ((Nat.gcd t.natAbs b.natAbs : Nat) : Int) = ((Rat.divInt t b).den : Int) := low_val t b hb
end
end Fq

set_option Elab.async false
set_option linter.all false
set_option maxRecDepth 100000
set_option maxHeartbeats 4000000
/-! Fb: fractions compared, added up. -/
namespace Fq
open PySem PySem.Spec PyProof.Rows L2 Wb Wv Wf
abbrev rInt1 : List V → Hp → VK → Prop := fun xs H Q => (∃ i, xs = [.int i] ∧ Q (.int i) H) ∨ ∃ k, xs = [.bl k] ∧ Q (.int (if k then 1 else 0)) H
abbrev spCmpD (K : PySem.W.Frag) : Sp := Pf (α := (Int × Int) × (Int × Int)) (fun a => [dat K (.tuple [.int a.1.1, .int a.1.2]), dat K (.tuple [.int a.2.1, .int a.2.2])]) (fun a => a.1.1.natAbs < 2 ^ 3000 ∧ a.1.2.natAbs < 2 ^ 3000 ∧ a.2.1.natAbs < 2 ^ 3000 ∧ a.2.2.natAbs < 2 ^ 3000) (fun a => dat K (.int (cmpI (a.1.1 * a.2.2) (a.2.1 * a.1.2))))
abbrev spSignD (K : PySem.W.Frag) : Sp := Pf (α := Int × Int) (fun a => [dat K (.tuple [.int a.1, .int a.2])]) (fun a => a.1.natAbs < 2 ^ 3000 ∧ a.2.natAbs < 2 ^ 3000) (fun a => dat K (.int (cmpI a.1 0)))
abbrev spTotalD (K : PySem.W.Frag) : Sp := Pf (α := List Rat) (fun qs => [dat K (.list (qs.map frD))]) (fun qs => ∃ k, 1 ≤ k ∧ k ≤ 3000 ∧ qs.length * k ≤ 6000 ∧ ∀ q ∈ qs, Sz k q) (fun qs => dat K (frD (sumR qs)))
section
variable {K : PySem.W.Frag} {σ : L2.St} {B B' : Hp} {ta tb te : TE} {p q : Rat} {E : XK}
theorem De.intB {b : Bool} (h : De te σ B (dat K (.bool b))) : De (tCB rInt1 (tCons te tNil)) σ B (dat K (.int (if b then 1 else 0))) := fun B1 H s1 s2 Q q => h B1 H s1 s2 _ fun v B2 H2 e hv => .inr ⟨b, by rw [dat_bl hv], q _ B2 H2 e (.int _)⟩
theorem De.intI {i : Int} (h : De te σ B (dat K (.int i))) : De (tCB rInt1 (tCons te tNil)) σ B (dat K (.int i)) := fun B1 H s1 s2 Q q => h B1 H s1 s2 _ fun v B2 H2 e hv => .inl ⟨i, by rw [dat_int hv], q _ B2 H2 e (.int _)⟩
theorem De.lcm {a b : Nat} {tr : TA} (h : Da tr σ B [dat K (.int a), dat K (.int b)]) (ha : a < 2 ^ 9000) (hb : b < 2 ^ 9000) : De (tCB rLcm tr) σ B (dat K (.int ((Nat.lcm a b : Nat) : Int))) := fun B1 H s1 s2 Q q => h B1 H s1 s2 _ fun vs B2 H2 e hv => by
  obtain ⟨x, r, rfl, hx, y, r', rfl, hy, hr⟩ := hv
  have hr : r' = [] := hr
  subst hr
  have hx := dat_int hx
  have hy := dat_int hy
  subst hx hy
  exact ⟨a, b, rfl, by simpa using ha, by simpa using hb, q _ B2 H2 e (.int _)⟩
theorem De.cmp {a b c d : Int} {tr : TA} (h : Da tr σ B [dat K (.tuple [.int a, .int b]), dat K (.tuple [.int c, .int d])]) (ha : a.natAbs < 2 ^ 3000) (hb : b.natAbs < 2 ^ 3000) (hc : c.natAbs < 2 ^ 3000) (hd : d.natAbs < 2 ^ 3000) : De (tCall (spCmpD K) [] E tr) σ B (dat K (.int (cmpI (a * d) (c * b)))) := De.call (args := fun a : (Int × Int) × (Int × Int) => [dat K (.tuple [.int a.1.1, .int a.1.2]), dat K (.tuple [.int a.2.1, .int a.2.2])]) (res := fun a => dat K (.int (cmpI (a.1.1 * a.2.2) (a.2.1 * a.1.2)))) ((a, b), (c, d)) h ⟨ha, hb, hc, hd⟩
theorem De.sign {a b : Int} (h : De te σ B (dat K (.tuple [.int a, .int b]))) (ha : a.natAbs < 2 ^ 3000) (hb : b.natAbs < 2 ^ 3000) : De (tCall (spSignD K) [] E (tCons te tNil)) σ B (dat K (.int (cmpI a 0))) := De.call (args := fun a : Int × Int => [dat K (.tuple [.int a.1, .int a.2])]) (res := fun a => dat K (.int (cmpI a.1 0))) (a, b) (.cons h .nil) ⟨ha, hb⟩
theorem De.total {qs : List Rat} {k : Nat} (h : De te σ B (dat K (.list (qs.map frD)))) (k1 : 1 ≤ k) (k3 : k ≤ 3000) (hk : qs.length * k ≤ 6000) (sz : ∀ q ∈ qs, Sz k q) : De (tCall (spTotalD K) [] E (tCons te tNil)) σ B (dat K (frD (sumR qs))) := De.call (args := fun qs : List Rat => [dat K (.list (qs.map frD))]) (res := fun qs => dat K (frD (sumR qs))) qs (.cons h .nil) ⟨k, k1, k3, hk, sz⟩
end
end Fq

set_option Elab.async false
set_option linter.all false
set_option maxRecDepth 100000
set_option maxHeartbeats 1000000
/-! K05e: fractions, of any value; shares. -/
namespace K05
open PySem PySem.Spec PyProof.Rows L2 Wb Wv Fm Wf Fq
def frFault (d : PyData) : PyData := match d with
  | .tuple [.int a, .int b] => if b ≤ 0 then .int 1 else if 1 < (Nat.gcd a.natAbs b.natAbs : Int) then .int 0 else .none
  | _ => .int (-1)
abbrev sp_fractionFault (K : PySem.W.Frag) : Sp := Pf (α := PyData) (fun d => [dat K d]) (fun _ => True) (fun d => dat K (frFault d))
abbrev sp_isFraction (K : PySem.W.Frag) : Sp := Pf (α := PyData) (fun d => [dat K d]) (fun _ => True) (fun d => dat K (.bool (isNoneD (frFault d))))
abbrev sp_compared := spCmpD
abbrev sp_signOf := spSignD
abbrev sp_totalOf := spTotalD
theorem frFault_not {d : PyData} (h : isTupD d 2 = false) : frFault d = .int (-1) := by
  unfold frFault
  split
  · cases h
  · rfl
section
variable {P : Program} {w : World} {K : PySem.W.Frag} {mg : Str → Option Value} {base : Heap} {C_Form C_Book C_Sheets C_InvalidForm C_InvalidBook C_InvalidSheets C_InvalidSize C_BlankError a_ZERO a_ONE : Addr} {t_MOST_QUESTIONS : Tok}
theorem sc_fractionFault : FnScope ["value"] ["value"] (defScope s_fractionFault) := ⟨rfl, rfl, rfl, by decide +kernel, rfl, by decide +kernel, by decide +kernel⟩
theorem ok_fractionFault (D : Def K mg "fraction_fault" s_fractionFault ["value"]) (C_isTupleOf : Cal P w K mg base CX0 1 "is_tuple_of" s_isTupleOf ["value", "many"] (sp_isTupleOf K)) (C_isInt : Cal P w K mg base CX0 1 "is_int" s_isInt ["value"] (sp_isInt K)) (m_gcd : mg "gcd" = some (.builtin "math.gcd")) : Cal P w K mg base CX0 2 "fraction_fault" s_fractionFault ["value"] (sp_fractionFault K) := by
  refine D.ok sc_fractionFault (fun vs H Q E h => ?_) (fun cdv f A outer s H vs Q E hr h => ?_)
  · exact pf_len h fun _ => rfl
  replace h := pf1 h
  obtain ⟨v, B, d, rfl, hB, hv, _, k⟩ := h
  refine ⟨_, (pss_cons (ps_if (PW.pt (pw_or (pt_not (pt_val (pe_cal C_isTupleOf (hr.mono (by decide)) (by rfl) pass0 (pa_cons (pv 0) (pa_cons pe_int pa_nil))))) (pw_or (pt_not (pt_val (pe_cal C_isInt (hr.mono (by decide)) (by rfl) pass0 (pa_cons (pe_ix ix_tup (pv 0) pe_int (fun _ _ => rfl)) pa_nil)))) (pw_or1 (pt_not (pt_val (pe_cal C_isInt (hr.mono (by decide)) (by rfl) pass0 (pa_cons (pe_ix ix_tup (pv 0) pe_int (fun _ _ => rfl)) pa_nil)))))))) (pss_one (ps_ret (pe_un un_neg pe_int))) pss_nil)
    (pss_cons (ps_if (pt_cmpR op_le (pe_ix ix_tup (pv 0) pe_int (fun _ _ => rfl)) pe_int (nomark _)) (pss_one (ps_ret pe_int)) pss_nil)
    (pss_cons (ps_if (pt_cmpR op_gt (pe_callBfun cr_gcd rfl m_gcd (pa_cons (pe_ix ix_tup (pv 0) pe_int (fun _ _ => rfl)) (pa_cons (pe_ix ix_tup (pv 0) pe_int (fun _ _ => rfl)) pa_nil))) pe_int (nomark _)) (pss_one (ps_ret pe_int)) pss_nil)
    (pss_one (ps_ret pe_non))))), ?_⟩
  have hv : dat K d B v := hv
  have k : ∀ (v : V) (B' H' : Hp), Ext B H B' H' → dat K (frFault d) B' v → Q v H' := k
  cases ht : isTupD d 2 with
  | false =>
    rw [frFault_not ht] at k
    refine s_ifS (b := true) (Dt.or (a := true) (b := true) (Dt.eq (Dt.not (Dt.tB (De.isTup (.var hv rfl) .int))) (by rw [ht]; rfl)) fun z => nomatch z) hB (fun _ B1 H1 e1 => ?_) fun z => nomatch z
    exact s_ret (De.negI (K := K) .int) e1.bh fun v B' H' e h => k v B' H' (e1.trans e) h
  | true =>
    obtain ⟨x, y, rfl⟩ := isTup2 ht
    have ex : ∀ {B2 : Hp}, Same B B2 → De (tOp (rIxT K) (tVar 0) (tC (.int 0))) [some v] B2 (dat K x) := fun s => De.op (r := rIxT K) (.var (Mo.mo s hv) rfl) .int (Rv.ixTD rfl)
    have ey : ∀ {B2 : Hp}, Same B B2 → De (tOp (rIxT K) (tVar 0) (tC (.int 1))) [some v] B2 (dat K y) := fun s => De.op (r := rIxT K) (.var (Mo.mo s hv) rfl) .int (Rv.ixTD rfl)
    refine s_ifS (b := !isIntD x || !isIntD y) (Dt.or (a := false) (Dt.eq (Dt.not (Dt.tB (De.isTup (.var hv rfl) .int))) rfl) fun _ => Dt.or (Dt.not (Dt.tB (De.isInt (ex (Same.refl _))))) fun _ => Dt.not (Dt.tB (De.isInt (ey (Same.refl _))))) hB (fun t B1 H1 e1 => ?_) fun f B1 H1 e1 => ?_
    · have e : frFault (.tuple [x, y]) = .int (-1) := by cases x <;> cases y <;> first | rfl | cases t
      rw [e] at k
      exact s_ret (De.negI (K := K) .int) e1.bh fun v B' H' e h => k v B' H' (e1.trans e) h
    · obtain ⟨a, b, rfl, rfl⟩ : ∃ a b, x = .int a ∧ y = .int b := by cases x <;> cases y <;> first | exact ⟨_, _, rfl, rfl⟩ | cases f
      have ke : frFault (.tuple [.int a, .int b]) = if b ≤ 0 then .int 1 else if 1 < (Nat.gcd a.natAbs b.natAbs : Int) then .int 0 else .none := rfl
      rw [ke] at k
      dsimp only [tNext]
      refine s_ifS (b := decide (b ≤ 0)) (Dt.test (K := K) (De.op (ey e1.bb) (De.int (n := 0)) Rv.I0b)) e1.bh (fun t B2 H2 e2 => ?_) fun f B2 H2 e2 => ?_
      · rw [if_pos (of_decide_eq_true t)] at k
        exact s_ret (De.int (K := K) (n := 1)) e2.bh fun v B' H' e h => k v B' H' ((e1.trans e2).trans e) h
      · rw [if_neg (of_decide_eq_false f)] at k
        have s2 := e1.bb.trans e2.bb
        dsimp only [tNext]
        refine s_ifS (b := decide (1 < (Nat.gcd a.natAbs b.natAbs : Int))) (Dt.test (K := K) (De.op (De.gcd (.cons (ex s2) (.cons (ey s2) .nil))) (De.int (n := 1)) Rv.I0b)) e2.bh (fun t B3 H3 e3 => ?_) fun f B3 H3 e3 => ?_
        · rw [if_pos (of_decide_eq_true t)] at k
          exact s_ret (De.int (K := K) (n := 0)) e3.bh fun v B' H' e h => k v B' H' (((e1.trans e2).trans e3).trans e) h
        · rw [if_neg (of_decide_eq_false f)] at k
          dsimp only [tNext]
          exact s_ret (De.non (K := K)) e3.bh fun v B' H' e h => k v B' H' (((e1.trans e2).trans e3).trans e) h
theorem sc_isFraction : FnScope ["value"] ["value"] (defScope s_isFraction) := ⟨rfl, rfl, rfl, by decide +kernel, rfl, by decide +kernel, by decide +kernel⟩
theorem ok_isFraction (D : Def K mg "is_fraction" s_isFraction ["value"]) (C_fractionFault : Cal P w K mg base CX0 2 "fraction_fault" s_fractionFault ["value"] (sp_fractionFault K)) : Cal P w K mg base CX0 3 "is_fraction" s_isFraction ["value"] (sp_isFraction K) := by
  refine D.ok sc_isFraction (fun vs H Q E h => ?_) (fun cdv f A outer s H vs Q E hr h => ?_)
  · exact pf_len h fun _ => rfl
  replace h := pf1 h
  obtain ⟨v, B, d, rfl, hB, hv, _, k⟩ := h
  refine ⟨_, (pss_one (ps_ret (pe_cmpR op_isN (pe_cal C_fractionFault (hr.mono (by decide)) (by rfl) pass0 (pa_cons (pv 0) pa_nil)) pe_non (nomark _)))), ?_⟩
  exact s_ret (De.op (De.call (args := fun d => [dat K d]) (res := fun d => dat K (frFault d)) d (.cons (.var hv rfl) .nil) trivial) .non Rv.isNone) hB k
theorem sc_fraction : FnScope ["top", "bottom", "common"] ["top", "bottom"] (defScope s_fraction) := ⟨rfl, rfl, rfl, by decide +kernel, rfl, by decide +kernel, by decide +kernel⟩
theorem ok_fraction (D : Def K mg "fraction" s_fraction ["top", "bottom"]) (Z_InvalidSize : Err P w K mg base "InvalidSize" "word" C_InvalidSize (topE C_BlankError)) (m_gcd : mg "gcd" = some (.builtin "math.gcd")) : Cal P w K mg base (L2.CX P w) 3 "fraction" s_fraction ["top", "bottom"] (spFracD K C_InvalidSize) := by
  refine D.okX sc_fraction (fun vs H Q E h => ?_) (fun cdv f A outer s H vs Q E hr h => ?_)
  · obtain ⟨B, t, b, rfl, _⟩ := h
    rfl
  obtain ⟨B, t, b, rfl, hB, lb, q1, q2⟩ := h
  refine ⟨_, (pss_cons (ps_if (pt_cmpR op_eq (pv 1) pe_int (nomark _)) (pss_one (ps_raise rfl (takes_of rfl rfl rfl rfl) (pmk_E Z_InvalidSize hr (by decide) rfl (pa_cons pe_str pa_nil)))) pss_nil)
    (pss_cons (ps_set (i := 2) sc_fraction.nd rfl (Or.inl rfl) (pe_callBfun cr_gcd rfl m_gcd (pa_cons (pv 0) (pa_cons (pv 1) pa_nil))))
    (pss_cons (ps_if (pt_cmpR op_lt (pv 1) pe_int (nomark _)) (pss_one (ps_set (i := 2) sc_fraction.nd rfl (Or.inl rfl) (pe_un un_neg (pv 2)))) pss_nil)
    (pss_one (ps_ret (pe_tup (pa_cons (pe_op op_fdivS (pv 0) (pv 2)) (pa_cons (pe_op op_fdivS (pv 1) (pv 2)) pa_nil)))))))), ?_⟩
  refine ⟨_, rfl, rfl, _, rfl, ?_⟩
  refine ite2 (fun h => ?_) (fun h => ?_)
  · have e : b = 0 := V.int.inj (of_decide_eq_true h)
    exact ⟨.str "bottom", rfl, q2 e⟩
  have nz : b ≠ 0 := fun e => h (decide_eq_true (by rw [e]))
  have k := q1 nz
  clear h q2 q1
  have gl : ((Nat.gcd t.natAbs b.natAbs : Nat) : Int).natAbs < 2 ^ 7000 := by
    rw [Int.natAbs_natCast]
    exact Nat.lt_of_le_of_lt (Nat.gcd_le_right _ (Int.natAbs_pos.mpr nz)) lb
  have fin : ∀ c : Int, c = (if b < 0 then -((Nat.gcd t.natAbs b.natAbs : Nat) : Int) else ((Nat.gcd t.natAbs b.natAbs : Nat) : Int)) → CDivS t c ∧ CDivS b c ∧ t.fdiv c = (Rat.divInt t b).num ∧ b.fdiv c = ((Rat.divInt t b).den : Int) := by
    intro c hc
    obtain ⟨c0, e1, e2⟩ := frac_val t b nz c hc
    have lg : c.natAbs.log2 < 9000 := by
      have : c.natAbs = ((Nat.gcd t.natAbs b.natAbs : Nat) : Int).natAbs := by
        rw [hc]
        split
        · rw [Int.natAbs_neg]
        · rfl
      rw [this]
      exact Nat.lt_trans (log_le gl (by decide)) (by decide)
    exact ⟨⟨c0, lg⟩, ⟨c0, lg⟩, e1, e2⟩
  refine s_set (De.gcd (K := K) (.cons (.var (Dp.int t) rfl) (.cons (.var (Dp.int b) rfl) .nil))) hB fun v B1 H1 e1 hv => ?_
  have hv := dat_int hv
  subst hv
  refine seqI (t1 := tIfS _ _ _) (fun σ' J => ∃ c : Int, σ' = [some (.int t), some (.int b), some (.int c)] ∧ J = H1 ∧ c = (if b < 0 then -((Nat.gcd t.natAbs b.natAbs : Nat) : Int) else ((Nat.gcd t.natAbs b.natAbs : Nat) : Int))) ?_ ?_
  · rintro σ' J ⟨c, rfl, rfl, hc⟩
    obtain ⟨d1, d2, f1, f2⟩ := fin c hc
    refine s_ret (De.eq (De.tupI (K := K) (.cons (.op (.var (Dp.int _) rfl) (.var (Dp.int _) rfl) (Rv.I d1)) (.cons (.op (.var (Dp.int _) rfl) (.var (Dp.int _) rfl) (Rv.I d2)) .nil))) (e := frD (Rat.divInt t b)) ?_) e1.bh fun v B2 H2 e2 hv => k v B2 H2 (e1.trans e2) hv
    show PyData.tuple [.int (t.fdiv c), .int (b.fdiv c)] = _
    rw [f1, f2]
    rfl
  · intro Z hZ
    refine ⟨_, rfl, _, _, rfl, rfl, _, rfl, ?_⟩
    refine ite2 (fun h => ?_) (fun h => ?_)
    · have e : b < 0 := of_decide_eq_true h
      refine ⟨_, rfl, _, rfl, ?_⟩
      exact hZ _ _ ⟨_, rfl, rfl, (if_pos e).symm⟩
    · have e : ¬ b < 0 := fun z => h (decide_eq_true z)
      exact hZ _ _ ⟨_, rfl, rfl, (if_neg e).symm⟩
theorem sc_compared : FnScope ["one", "other", "ahead", "behind"] ["one", "other"] (defScope s_compared) := ⟨rfl, rfl, rfl, by decide +kernel, rfl, by decide +kernel, by decide +kernel⟩
theorem ok_compared (D : Def K mg "compared" s_compared ["one", "other"]) (n_int : mg "int" = none) : Cal P w K mg base CX0 1 "compared" s_compared ["one", "other"] (sp_compared K) := by
  refine D.ok sc_compared (fun vs H Q E h => ?_) (fun cdv f A outer s H vs Q E hr h => ?_)
  · exact pf_len h fun _ => rfl
  replace h := pf2 h
  obtain ⟨v, v1, B, ⟨⟨a, b⟩, ⟨c, d⟩⟩, rfl, hB, hv, hv1, ⟨ha, hb, hc, hd⟩, k⟩ := h
  refine ⟨_, (pss_cons (ps_par (i := 2) (j := 3) rfl sc_compared.nd rfl rfl (by decide) rfl rfl (pa_cons (pe_op op_mulW (pe_ix ix_tup (pv 0) pe_int (fun _ _ => rfl)) (pe_ix ix_tup (pv 1) pe_int (fun _ _ => rfl))) (pa_cons (pe_op op_mulW (pe_ix ix_tup (pv 1) pe_int (fun _ _ => rfl)) (pe_ix ix_tup (pv 0) pe_int (fun _ _ => rfl))) pa_nil)) (by rfl))
    (pss_one (ps_ret (pe_op op_sub (pe_callTy call_int1 (by rfl) n_int (by decide +kernel) (pa_cons (pe_cmpR op_gt (pv 2) (pv 3) (nomark _)) pa_nil)) (pe_callTy call_int1 (by rfl) n_int (by decide +kernel) (pa_cons (pe_cmpR op_lt (pv 2) (pv 3) (nomark _)) pa_nil)))))), ?_⟩
  have hv : dat K (.tuple [.int a, .int b]) B v := hv
  have hv1 : dat K (.tuple [.int c, .int d]) B v1 := hv1
  have k : ∀ (v : V) (B' H' : Hp), Ext B H B' H' → dat K (.int (cmpI (a * d) (c * b))) B' v → Q v H' := k
  refine s_par (R := dat K (.int (a * d))) (S := dat K (.int (c * b))) (.cons (De.op (De.op (r := rIxT K) (.var hv rfl) .int (Rv.ixTD (d := .int a) rfl)) (De.op (r := rIxT K) (.var hv1 rfl) .int (Rv.ixTD (d := .int d) rfl)) (Rv.I (mulOk ha hd))) (.cons (De.op (De.op (r := rIxT K) (.var hv1 rfl) .int (Rv.ixTD (d := .int c) rfl)) (De.op (r := rIxT K) (.var hv rfl) .int (Rv.ixTD (d := .int b) rfl)) (Rv.I (mulOk hc hb))) .nil)) hB fun u w B1 H1 e1 hu hw => ?_
  refine s_ret (De.eq (De.op (De.intB (De.op (r := rI0 fun i j => V.bl (decide (j < i))) (.var hu rfl) (.var hw rfl) Rv.I0b)) (De.intB (De.op (r := rI0 fun i j => V.bl (decide (i < j))) (.var hu rfl) (.var hw rfl) Rv.I0b)) Rv.I0) ?_) e1.bh fun v B' H' e h => k v B' H' (e1.trans e) h
  unfold cmpI
  simp only [decide_eq_true_eq, gt_iff_lt]
theorem sc_signOf : FnScope ["one"] ["one"] (defScope s_signOf) := ⟨rfl, rfl, rfl, by decide +kernel, rfl, by decide +kernel, by decide +kernel⟩
theorem ok_signOf (D : Def K mg "sign_of" s_signOf ["one"]) (C_compared : Cal P w K mg base CX0 1 "compared" s_compared ["one", "other"] (sp_compared K)) (m_ZERO : mg "ZERO" = some (.ref a_ZERO)) (c_ZERO : ∀ H, SqT K H a_ZERO [.int 0, .int 1]) : Cal P w K mg base CX0 2 "sign_of" s_signOf ["one"] (sp_signOf K) := by
  refine D.ok sc_signOf (fun vs H Q E h => ?_) (fun cdv f A outer s H vs Q E hr h => ?_)
  · exact pf_len h fun _ => rfl
  replace h := pf1 h
  obtain ⟨v, B, ⟨a, b⟩, rfl, hB, hv, ⟨ha, hb⟩, k⟩ := h
  refine ⟨_, (pss_one (ps_ret (pe_cal C_compared (hr.mono (by decide)) (by rfl) pass0 (pa_cons (pv 0) (pa_cons (pe_glob (by rfl) m_ZERO (show RelV (.ref a_ZERO) (.ref a_ZERO) from rfl)) pa_nil))))), ?_⟩
  refine s_ret (De.eq (De.cmp (c := 0) (d := 1) (.cons (.var hv rfl) (.cons (De.cstT c_ZERO) .nil)) ha hb (by decide +kernel) (by decide +kernel)) ?_) hB k
  rw [Int.mul_one, Int.zero_mul]
theorem sc_totalOf : FnScope ["some", "bottom", "one"] ["some"] (defScope s_totalOf) := ⟨rfl, rfl, rfl, by decide +kernel, rfl, by decide +kernel, by decide +kernel⟩
theorem ok_totalOf (D : Def K mg "total_of" s_totalOf ["some"]) (m_lcm : mg "lcm" = some (.builtin "math.lcm")) (C_fraction : Cal P w K mg base (L2.CX P w) 3 "fraction" s_fraction ["top", "bottom"] (spFracD K C_InvalidSize)) (n_sum : mg "sum" = none) : Cal P w K mg base CX0 4 "total_of" s_totalOf ["some"] (sp_totalOf K) := by
  refine D.ok sc_totalOf (fun vs H Q E h => ?_) (fun cdv f A outer s H vs Q E hr h => ?_)
  · exact pf_len h fun _ => rfl
  replace h := pf1 h
  obtain ⟨v, B, qs, rfl, hB, hv, ⟨m, m1, m3, hm, sz⟩, k⟩ := h
  refine ⟨_, (pss_cons (ps_set (i := 1) sc_totalOf.nd rfl (Or.inr rfl) pe_int)
    (pss_cons (ps_for PassesOwn.never rfl (pi_list (pv 0)) (pg_name (i := 2) sc_totalOf.nd rfl (Or.inl rfl)) (pss_one (ps_set (i := 1) sc_totalOf.nd rfl (Or.inr rfl) (pe_callBfun cr_lcm rfl m_lcm (pa_cons (pv 1) (pa_cons (pe_ix ix_tup (pv 2) pe_int (fun _ _ => rfl)) pa_nil))))))
    (pss_one (ps_ret (pe_cal C_fraction.quiet (hr.mono (by decide)) (by rfl) pass0 (pa_cons (pe_callB (cr_sum rfl) (by rfl) n_sum (by decide +kernel) (pa_cons (pe_lc (own := [("one", 2)]) (g := gName 2) (tt := tYes) rfl sc_totalOf.nd (pi_list (pv 0)) (blkOk_by (own := [("one", 2)]) (N := ["some", "bottom", "one"]) (sc := defScope s_totalOf) (by decide +kernel)) (fun _ _ _ _ _ => (pg_name (i := 2) sc_totalOf.nd rfl (Or.inl rfl))) (fun _ _ _ _ _ => pts_nil) (fun _ _ _ _ _ => (pe_op op_mulW (pe_ix (r := rIxT K) ix_tup (pv 2) pe_int (fun _ _ => rfl)) (pe_op op_fdivW (pv 1) (pe_ix (r := rIxT K) ix_tup (pv 2) pe_int (fun _ _ => rfl)))))) pa_nil)) (pa_cons (pv 1) pa_nil))))))), ?_⟩
  have line := sizeLine_eq
  have hv : dat K (.list (qs.map frD)) B v := hv
  have sz : ∀ q ∈ qs, Sz m q := sz
  have hm : qs.length * m ≤ 6000 := hm
  have few : qs.length ≤ 6000 := by have : qs.length * 1 ≤ qs.length * m := Nat.mul_le_mul_left _ m1; omega
  have up : ∀ {n}, n ≤ 9000 → 2 ^ n ≤ 2 ^ 9000 := fun h => Nat.pow_le_pow_right (by decide) h
  refine s_set (De.int (K := K) (n := 1)) hB fun v1 B1 H1 e1 h1 => ?_
  have h1 := dat_int h1
  subst h1
  refine s_forS (Di.listM (K := K) (as := qs) (f := frD) (.var (Mo.mo e1.bb hv) rfl)) e1.bh (fun i σ B => ∃ (v2 : Option V) (L : Nat), σ = [some v, some (.int (L : Int)), v2] ∧ 0 < L ∧ L < 2 ^ (1 + i * m) ∧ ∀ q ∈ qs.take i, q.den ∣ L) (fun B' s => ⟨none, 1, rfl, by decide, by simp, fun q h => by simp at h⟩) ?_ ?_
  · rintro B2 H2 e2 i R x σ' Bc Bn Hn hR ⟨v2, L, rfl, l0, l1, dv⟩ s e hx
    rw [List.getElem?_map] at hR
    obtain ⟨q, hq, rfl⟩ := Option.map_eq_some_iff.mp hR
    have il : i < qs.length := (List.getElem?_eq_some_iff.mp hq).1
    have sq := sz q (List.mem_of_getElem? hq)
    obtain ⟨n0, n1, n2, n3⟩ := lcm_step l0 l1 sq.bot
    have ib : (i + 1) * m ≤ qs.length * m := Nat.mul_le_mul_right _ il
    rw [Nat.add_mul, Nat.one_mul] at ib
    have hx : dat K (frD q) Bn x := hx
    change tAsg _ _ _ [some v, some (.int (L : Int)), some x] Hn
    refine s_setE (De.lcm (K := K) (.cons (.var (Dp.int (L : Int)) rfl) (.cons (De.den (.var hx rfl)) .nil)) (Nat.lt_of_lt_of_le l1 (up (by omega))) (Nat.lt_of_lt_of_le sq.bot (up (by omega)))) e.bh fun u B3 H3 e3 h3 => ?_
    have h3 := dat_int h3
    subst h3
    refine ⟨B3, e.trans e3, _, Nat.lcm L q.den, rfl, n0, by rw [show 1 + (i + 1) * m = 1 + i * m + m by rw [Nat.add_mul]; omega]; exact n1, fun r hr => ?_⟩
    rw [take_snoc hq] at hr
    rcases List.mem_append.mp hr with h | h
    · exact Nat.dvd_trans (dv r h) n3
    · rw [List.mem_singleton.mp h]
      exact n2
  · rintro σ' B' H' e2 ⟨v2, L, rfl, l0, l1, dv⟩
    rw [List.length_map] at l1
    rw [List.length_map, List.take_length] at dv
    have lp : (0 : Int) < (L : Int) := by omega
    have ln : (L : Int) ≠ 0 := by omega
    have l9 : (L : Int).natAbs < 2 ^ 7000 := by
      rw [Int.natAbs_natCast]
      exact Nat.lt_of_lt_of_le l1 (Nat.pow_le_pow_right (by decide) (by omega))
    have hv := Mo.mo (e1.bb.trans e2.bb) hv
    refine s_ret (De.eq (De.frac (K := K) (t := (qs.map fun q => q.num * ((L : Int) / q.den)).sum) (b := (L : Int)) (.cons (.cb (.one (De.eq (De.lcA (K := K) (as := qs) (r := fun q => dat K (frD q)) (Di.listM (.var hv rfl)) (fun q => .int (q.num * ((L : Int) / q.den))) (by omega) fun q x Bn Hn hq sn sh hx => ⟨[some v, some (.int (L : Int)), some x], fun Q q => q, rfl, ?_⟩) (by rw [show (qs.map fun q => PyData.int (q.num * ((L : Int) / q.den))) = (qs.map fun q => q.num * ((L : Int) / q.den)).map .int by rw [List.map_map]; rfl]))) rc_sum) (.cons (.var (Dp.int (L : Int)) rfl) .nil)) ln l9) ?_) e2.bh fun v B H e h => k v B H ((e1.trans e2).trans e) h
    · have sq := sz q hq
      have q2 : (L : Int) / (q.den : Int) = ((L / q.den : Nat) : Int) := by rw [Int.natCast_ediv]
      have b1 : ((L : Int) / (q.den : Int)).natAbs < 2 ^ 7000 := by
        rw [q2, Int.natAbs_natCast]
        rw [Int.natAbs_natCast] at l9
        exact Nat.lt_of_le_of_lt (Nat.div_le_self _ _) l9
      refine De.op (De.num (.var hx rfl)) (De.op (.var (Dp.int (L : Int)) rfl) (De.den (.var hx rfl)) (Rv.I (wide_div (b := 3000) (den_pos q) (by rw [Int.natAbs_natCast]; exact Nat.lt_of_lt_of_le sq.bot (Nat.pow_le_pow_right (by decide) m3)) (by decide) (by decide)))) (Rv.I (wide_mul (a := 3000) (b := 7000) (Nat.lt_of_lt_of_le sq.top (Nat.pow_le_pow_right (by decide) m3)) b1 (by decide) (by decide) (by decide)))
    · rw [← sumTop_eq, sum_parts ln qs fun q hq => Int.natCast_dvd_natCast.mpr (dv q hq)]
end
end K05

set_option Elab.async false
set_option linter.all false
set_option maxRecDepth 100000
set_option maxHeartbeats 4000000
/-! We2: str of what is no list; written lists of drawn things, raw; hidden lists looked at while a deal is drawn from. -/
namespace Wv
open PySem PySem.Spec PyProof.Rows L2 Wb
section
variable {X : Cx}
abbrev rStrA : List V → Hp → VK → Prop := fun xs H Q => (∃ a, xs = [.str a] ∧ Q (.str a) H) ∨ (∃ i, xs = [.int i] ∧ i.natAbs.log2 < 1920 ∧ Q (.str (toString i)) H) ∨ (∃ b : Bool, xs = [.bl b] ∧ Q (.str (if b then "True" else "False")) H) ∨ (xs = [.non] ∧ Q (.str "None") H)
theorem call_strA : CallR X (.type "str") rStrA := by
  intro pins s σ H xs us Q I r h
  rcases h with ⟨a, rfl, q⟩ | ⟨i, rfl, hz, q⟩ | ⟨b, rfl, q⟩ | ⟨rfl, q⟩
  · obtain ⟨u, rfl, t, rfl⟩ := vals1 r
    exact PySem.P.str_of_str ⟨.str a, H, I, ⟨t, rfl⟩, q⟩
  · exact call_str_int pins s σ H _ us Q I r ⟨i, rfl, hz, q⟩
  · obtain ⟨u, rfl, r1⟩ := vals1 r
    cases r1
    exact PySem.P.str_of_bool ⟨.str _, H, I.tok _, ⟨_, rfl⟩, q⟩
  · obtain ⟨u, rfl, r1⟩ := vals1 r
    cases r1
    exact PySem.P.str_of_none ⟨.str _, H, I.tok _, ⟨_, rfl⟩, q⟩
end
section
variable {K : PySem.W.Frag} {σ : L2.St} {d c M : Addr} {B H : Hp} {te tr : TE} {ta : TA} {S : Rel} {E : XK} {i j n : Nat} {Q : VK} {P : PyData → Prop} {xs : List V}
theorem all_ds : ∀ {xs : List V}, (∀ v ∈ xs, datP K P B v) → ∃ ds : List PyData, AllR (ds.map (dat K)) B xs ∧ ds.length = xs.length ∧ ∀ x ∈ ds, P x
  | [], _ => ⟨[], rfl, rfl, fun x h => nomatch h⟩
  | x :: xs, h => by
    obtain ⟨d, hp, hd⟩ := h x List.mem_cons_self
    obtain ⟨ds, h1, h2, h3⟩ := all_ds fun v hv => h v (List.mem_cons_of_mem _ hv)
    refine ⟨d :: ds, ⟨x, xs, rfl, hd, h1⟩, by simp [h2], fun y hy => ?_⟩
    rcases List.mem_cons.mp hy with rfl | hy
    · exact hp
    · exact h3 y hy
theorem ds_all : ∀ {ds : List PyData} {xs : List V}, AllR (ds.map (dat K)) B xs → (∀ x ∈ ds, P x) → ∀ v ∈ xs, datP K P B v
  | [], _, h, _, v, hv => by
    have h : _ = [] := h
    subst h
    cases hv
  | d :: ds, _, ⟨x, r, e, h1, h2⟩, hp, v, hv => by
    subst e
    rcases List.mem_cons.mp hv with rfl | hv
    · exact ⟨d, hp d List.mem_cons_self, h1⟩
    · exact ds_all h2 (fun x hx => hp x (List.mem_cons_of_mem _ hx)) v hv
/-- some of a written list, whose items were evaluated one by one -/
theorem fin_pick {vs : List V} {B1 H1 : Hp} (L : Dl B1 H1 d c) (l0 : 0 < vs.length) (l1 : vs.length ≤ 1000) (hs : ∀ v ∈ vs, S B1 v) (k : ∀ v B' H', ExtD d c B1 H1 B' H' → S B1 v → Q v H') :
    vs.length ≤ sizeLine ∧ ∀ p, H1 p = none → spOf K ([.ref d, .ref p] ++ []) (upd H1 p (.lst vs)) Q E := by
  refine ⟨by rw [sizeLine_eq]; omega, fun p hp => ?_⟩
  have e : ExtD d c B1 H1 (upd B1 p (.lst vs)) (upd H1 p (.lst vs)) := .of L (Ext.new L.bh hp)
  refine ⟨d, c, .ref p, rfl, e.deal, .inl ⟨p, vs, rfl, e.sub.seq (SqL.of upd_same), fun z => by rw [z] at l0; simp at l0, l1, fun v H3 hv D3 S3 => ?_⟩⟩
  exact k v _ H3 (.trans L e (.draw e.dl D3 S3)) (hs v hv)
theorem ixNn {n r : Nat} (h : r < n) : ixN n (r : Int) = some r := by
  unfold ixN
  rw [if_pos (by omega), if_pos (by omega)]
  simp
theorem atIn {xs : List V} {r : Nat} {v : V} (h : xs[r]? = some v) : atI xs (r : Int) = some v := by
  unfold atI
  rw [ixNn (List.getElem?_eq_some_iff.mp h).1]
  exact h
/-- a def of the deal and of an item of a hidden list -/
theorem c_defAt {α : Type} {args : α → List Rel} {pre : α → Prop} {res : α → Rel} {r : Nat} {v : V} (a : α) (L : Dl B H d c) (hd : σ[i]? = some (some (.ref d))) (hm : σ[j]? = some (some (.ref M))) (hn : σ[n]? = some (some (.int (r : Int)))) (m : Ml d c B H M xs) (hx : xs[r]? = some v)
    (ha : AllR (args a) B [v]) (hp : pre a) (k : ∀ u B' H', ExtD d c B H B' H' → res a B' u → Q u H') : tCall (DPf args pre res) [] E (tCons (tVar i) (tCons (tOp (rIxL K) (tVar j) (tVar n)) tNil)) σ H Q :=
  ⟨.ref d, hd, .ref M, hm, .int r, hn, M, xs, r, v, rfl, rfl, SqL.of m.at_, atIn hx, d, c, B, a, [v], rfl, L, ha, hp, k⟩
/-- .. an item of it drawn -/
theorem c_ixAny {xs : List V} (L : Dl B H d c) (hd : σ[i]? = some (some (.ref d))) (hm : σ[j]? = some (some (.ref M))) (m : Ml d c B H M xs) (pos : 0 < xs.length) (few : xs.length ≤ 1000) (k : ∀ (r : Nat) (v : V) H', xs[r]? = some v → ExtD d c B H B H' → Q v H') :
    tOp (rIxL K) (tVar j) (tCall spAny [] E (tCons (tVar i) (tCons (tCB (rLen K) (tCons (tVar j) tNil)) tNil))) σ H Q :=
  ⟨.ref M, hm, c_anyLen (K := K) L hd hm m pos few fun r H' hr e => by
    have m' := m.ext e
    have hx : xs[r]? = some xs[r] := List.getElem?_eq_getElem hr
    exact ⟨M, xs, r, xs[r], rfl, rfl, SqL.of m'.at_, atIn hx, k r _ H' hx e⟩⟩
theorem c_lcL {g : TG} {tt : TT} {vs : List Nat} (h : te σ H fun x H1 => ∃ a, x = .ref a ∧ (∃ xs, SqL K H1 a xs) ∧ tLc (fun _ H R => R (Itl K a) H) g tt tr vs σ H1 Q) : tLc (iList K te) g tt tr vs σ H Q := h
theorem s_ifB {tt : TT} {t rest : TS} {D : Ends} {b : Bool} (Post : L2.St → Hp → Prop) (h : Dt tt σ B b) (hB : Same B H) (k1 : b = true → ∀ B' H', Ext B H B' H' → ∀ Z : L2.St → Hp → Prop, (∀ σ2 H2, Post σ2 H2 → Z σ2 H2) → t { D with nx := Z } σ H')
    (k2 : b = false → ∀ B' H', Ext B H B' H' → Post σ H') (k : ∀ σ2 H2, Post σ2 H2 → rest D σ2 H2) : tSeq (tIfS tt t tNext) rest D σ H := s_ifS h hB (fun t B' H' e => k1 t B' H' e (rest D) k) fun f B' H' e => k _ _ (k2 f B' H' e)
theorem De.strI {m : Int} (h : De te σ B (dat K (.int m))) (b : m.natAbs.log2 < 1920) : De (tCB (fun xs H Q => ∃ i, xs = [.int i] ∧ i.natAbs.log2 < 1920 ∧ Q (.str (toString i)) H) (tCons te tNil)) σ B (dat K (.str (Str.ofString (toString m)))) := fun B1 H s1 s2 Q q => h B1 H s1 s2 _ fun v B2 H2 e hv => by
  have hv := dat_int hv
  subst hv
  exact ⟨m, rfl, b, q _ B2 H2 e (Dp.str _)⟩
theorem Dl.look (L : Dl B H d c) (m : Ml d c B H M xs) : Dl (upd B M (.lst xs)) H d c := ⟨L.deal, fun b o h => by
  by_cases n : b = M
  · subst n
    rw [upd_same] at h
    rw [off_at m.nd m.nc, m.at_]
    exact h
  · rw [upd_ne n] at h
    exact L.sub _ _ h⟩
theorem Ml.lookedD {B2 H2 : Hp} (L : Dl B H d c) (e : ExtD d c (upd B M (.lst xs)) H B2 H2) : ExtD d c B H B H2 := ⟨e.deal, e.oo, Same.refl _, L.sub.trans e.oo, fun _ _ h => h⟩
def leafD (d : PyData) : Bool := match d with
  | .none => true
  | .bool _ => true
  | .int _ => true
  | .str _ => true
  | _ => false
theorem dat_leaf {d : PyData} {B B' : Hp} {v : V} (h : leafD d = true) (hv : dat K d B v) : dat K d B' v := by
  cases hv with
  | non => exact Dp.non
  | bl b => exact Dp.bl b
  | int i => exact Dp.int i
  | str z => exact Dp.str z
  | lst _ _ => cases h
  | tup _ _ => cases h
theorem s_forR {g : TG} {ts rest : TS} {D : Ends} (h : te σ H fun v H1 => ∃ k : Int, [v] = [.int k] ∧ -(2 ^ 62) ≤ k ∧ k < 2 ^ 62 ∧ tSeq (tFor (fun _ H R => R (Itr 0 k.toNat) H) g ts) rest D σ H1) : tSeq (tFor (iRng1 (tCons te tNil)) g ts) rest D σ H := h
theorem c_insW {P : V → Hp → Prop} (L : Dl B H d c) (hd : σ[i]? = some (some (.ref d))) (hm : σ[j]? = some (some (.ref M))) (m : Ml d c B H M xs) (few : xs.length ≤ 1000)
    (h : ∀ (r : Int) H1, 0 ≤ r → r < 1002 → ExtD d c B H B H1 → Ml d c B H1 M xs → te σ H1 fun v H2 => rIns (.ref M) [.int r, v] H2 Q) :
    tBM K "list" rIns (tVar j) (tCons (tCall spAny [] E (tCons (tVar i) (tCons (tOp (rI0 fun i j => V.int (i + j)) (tCB (rLen K) (tCons (tVar j) tNil)) (tC (.int 1))) tNil))) (tCons te tNil)) σ H Q :=
  ⟨.ref M, hm, .inl ⟨rfl, xs, SqL.of m.at_⟩, .ref d, hd, .ref M, hm, .ref M, xs.length, rfl, .inl ⟨xs, SqL.of m.at_, rfl⟩, _, _, rfl, rfl, d, c, (xs.length : Int) + 1, rfl, L.deal, by omega, by omega, fun r H2 r0 r1 D2 S2 => by
    have e : ExtD d c B H B H2 := .draw L D2 S2
    exact h r H2 r0 (by omega) e (m.ext e)⟩
theorem s_un2 {rest : TS} {D : Ends} {R S : Rel} (h : De te σ B (tupR K [R, S])) (hB : Same B H) (k : ∀ x y B' H', Ext B H B' H' → R B' x → S B' y → rest D ((σ.set i (some x)).set j (some y)) H') : tSeq (tAsg te (gTup K 2 (gCons (gName i) (gCons (gName j) gNil)))) rest D σ H :=
  h B H (Same.refl _) hB _ fun v B' H' e hv => by
    obtain ⟨x, y, hx, hy, go⟩ := gTup2 (σ1 := σ) (i := i) (j := j) e.bh hv
    exact go _ (k x y B' H' e hx hy)
theorem s_un2E {D : Ends} {R S : Rel} (h : De te σ B (tupR K [R, S])) (hB : Same B H) (k : ∀ x y B' H', Ext B H B' H' → R B' x → S B' y → D.nx ((σ.set i (some x)).set j (some y)) H') : tAsg te (gTup K 2 (gCons (gName i) (gCons (gName j) gNil))) D σ H :=
  h B H (Same.refl _) hB _ fun v B' H' e hv => by
    obtain ⟨x, y, hx, hy, go⟩ := gTup2 (σ1 := σ) (i := i) (j := j) e.bh hv
    exact go _ (k x y B' H' e hx hy)
theorem s_ifW0 {tt : TT} {t rest : TS} {D : Ends} (Post : L2.St → Hp → Prop) (L : Dl B H d c) (h : Dtw tt σ d c B) (k1 : ∀ B' H', ExtD d c B H B' H' → ∀ Z : L2.St → Hp → Prop, (∀ σ2 H2, Post σ2 H2 → Z σ2 H2) → t { D with nx := Z } σ H')
    (k2 : ∀ B' H', ExtD d c B H B' H' → Post σ H') (k : ∀ σ2 H2, Post σ2 H2 → rest D σ2 H2) : tSeq (tIfS tt t tNext) rest D σ H := s_ifW L h (fun B' H' e => k1 B' H' e (rest D) k) fun B' H' e => k _ _ (k2 B' H' e)
end
end Wv

set_option Elab.async false
set_option linter.all false
set_option maxRecDepth 100000
set_option maxHeartbeats 1000000
/-! K05s: what is drawn is bounded. -/
namespace K05
open PySem PySem.Spec PyProof.Rows L2 Wb Wv Fm
/-- data of so many bits, storeys and so much weight -/
inductive Sm (b : Nat) : Nat → Nat → PyData → Prop
  | none {k W : Nat} : Sm b k W .none
  | bool {k W : Nat} (c : Bool) : Sm b k W (.bool c)
  | int {k W : Nat} {i : Int} (h : i.natAbs < 2 ^ b) : Sm b k W (.int i)
  | str {k W : Nat} {z : Str} (h : Nmk W z) : Sm b k W (.str z)
  | list {k W V : Nat} {ds : List PyData} (h : ∀ x ∈ ds, Sm b k W x) (hl : ds.length * (W + 1) ≤ V) : Sm b (k + 1) V (.list ds)
  | tuple {k W V : Nat} {ds : List PyData} (h : ∀ x ∈ ds, Sm b k W x) (hl : ds.length * (W + 1) ≤ V) : Sm b (k + 1) V (.tuple ds)
theorem Sm.mono {b k W : Nat} {d : PyData} (h : Sm b k W d) : ∀ {b' k' W' : Nat}, b ≤ b' → k ≤ k' → W ≤ W' → Sm b' k' W' d := by
  induction h with
  | none => exact fun _ _ _ => .none
  | bool b => exact fun _ _ _ => .bool b
  | int h => exact fun hb _ _ => .int (Nat.lt_of_lt_of_le h (Nat.pow_le_pow_right (by decide) hb))
  | str h => exact fun _ _ hw => .str (h.mono hw)
  | list h hl ih =>
    intro b' k' W' hb hk hw
    obtain ⟨j, rfl⟩ : ∃ j, k' = j + 1 := ⟨k' - 1, by omega⟩
    exact .list (fun x hx => ih x hx hb (by omega) (Nat.le_refl _)) (Nat.le_trans hl hw)
  | tuple h hl ih =>
    intro b' k' W' hb hk hw
    obtain ⟨j, rfl⟩ : ∃ j, k' = j + 1 := ⟨k' - 1, by omega⟩
    exact .tuple (fun x hx => ih x hx hb (by omega) (Nat.le_refl _)) (Nat.le_trans hl hw)
/-- short leaves -/
structure Tc (n W : Nat) (e : PyData) : Prop where
  tb : Tb n W e
  leaf : e.leavesShort 100 = true
theorem leaves_all {L : Nat} : ∀ {ds : List PyData}, (∀ x ∈ ds, x.leavesShort L = true) → PyData.leavesShortAll L ds = true
  | [], _ => by simp [PyData.leavesShortAll]
  | x :: ds, h => by simp only [PyData.leavesShortAll, h x List.mem_cons_self, leaves_all fun y hy => h y (List.mem_cons_of_mem _ hy), Bool.and_self]
theorem Sm.tc {b k W : Nat} {d : PyData} (h : Sm b k W d) (hb : b ≤ 90) : Tc k W d := by
  induction h with
  | none => exact ⟨tb_none.more (Nat.zero_le _) (Nat.zero_le _), by decide +kernel⟩
  | bool c => exact ⟨(tb_bool c).more (Nat.zero_le _) (Nat.zero_le _), by cases c <;> decide +kernel⟩
  | @int k W i h =>
    refine ⟨(tb_int (Nat.lt_of_lt_of_le h (Nat.pow_le_pow_right (by decide) (by omega)))).more (Nat.zero_le _) (Nat.zero_le _), ?_⟩
    simp only [PyData.leavesShort, decide_eq_true_eq]
    have l : i.natAbs.log2 < 90 := log_le (Nat.lt_of_lt_of_le h (Nat.pow_le_pow_right (by decide) hb)) (by decide)
    have := int_text_length_le (a := i) (by decide) l
    show (Str.ofString (toString i)).length ≤ 100
    have e : (Str.ofString (toString i)).length = (toString i).length := by
      rw [Str.ofString_eq_toList]
      simp [Str.length]
      exact String.length_toList
    rw [e]
    omega
  | str h => exact ⟨(tb_str (fun a ha => Nat.lt_of_lt_of_le (h.2 a ha) (by decide)) h.1).more (Nat.zero_le _) (Nat.le_refl _), by
      simp only [PyData.leavesShort, List.all_eq_true, decide_eq_true_eq]
      exact fun a ha => Nat.lt_of_lt_of_le (h.2 a ha) (by decide)⟩
  | list h hl ih => exact ⟨((TbAll.of fun x hx => (ih x hx).tb).list).more (Nat.le_refl _) hl, by simp only [PyData.leavesShort]; exact leaves_all fun x hx => (ih x hx).leaf⟩
  | tuple h hl ih => exact ⟨((TbAll.of fun x hx => (ih x hx).tb).tuple).more (Nat.le_refl _) hl, by simp only [PyData.leavesShort]; exact leaves_all fun x hx => (ih x hx).leaf⟩
theorem Sm.tb {b k W : Nat} {d : PyData} (h : Sm b k W d) (hb : b ≤ 90) : Tb k W d := (h.tc hb).tb
theorem lay_all : ∀ {ds : List PyData}, (∀ x ∈ ds, PyData.canLay0 x = true) → PyData.canLayAll0 ds = true
  | [], _ => rfl
  | x :: ds, h => by simp only [PyData.canLayAll0, h x List.mem_cons_self, lay_all fun y hy => h y (List.mem_cons_of_mem _ hy), Bool.and_self]
theorem strok {W : Nat} {z : Str} (h : Nmk W z) : PyData.strOk z = true := by
  unfold PyData.strOk
  rw [← Array.all_toList, List.all_eq_true]
  intro c hc
  have := h.2 c hc
  simp only [decide_eq_true_eq]
  omega
theorem Sm.lay {b k W : Nat} {d : PyData} (h : Sm b k W d) : PyData.canLay0 d = true := by
  induction h with
  | none => rfl
  | bool b => rfl
  | int h => rfl
  | str h => simp only [PyData.canLay0, strok h]
  | list h hl ih => simp only [PyData.canLay0, lay_all ih]
  | tuple h hl ih => simp only [PyData.canLay0, lay_all ih]
theorem depth_all {k : Nat} : ∀ {ds : List PyData}, (∀ x ∈ ds, x.depth ≤ k) → PyData.depthAll ds ≤ k
  | [], _ => Nat.zero_le _
  | x :: ds, h => by
    simp only [PyData.depthAll]
    exact Nat.max_le.mpr ⟨h x List.mem_cons_self, depth_all fun y hy => h y (List.mem_cons_of_mem _ hy)⟩
theorem Sm.deep {b k W : Nat} {d : PyData} (h : Sm b k W d) : d.depth ≤ k := by
  induction h with
  | none => simp [PyData.depth]
  | bool b => simp [PyData.depth]
  | int h => simp [PyData.depth]
  | str h => simp [PyData.depth]
  | list h hl ih => simp only [PyData.depth]; have := depth_all ih; omega
  | tuple h hl ih => simp only [PyData.depth]; have := depth_all ih; omega
theorem Sm.shaped {b k W : Nat} {d : PyData} (h : Sm b k W d) (hk : k ≤ 60 := by decide) : SeqAt.shaped d = true := by
  unfold SeqAt.shaped
  rw [h.lay, Bool.true_and]
  exact decide_eq_true (Nat.le_trans h.deep (by omega))
theorem Sm.shw {b k W : Nat} {d : PyData} (h : Sm b k W d) (hb : b ≤ 90 := by decide) (hk : k ≤ 60 := by decide) (hw : W ≤ 100000 := by decide) : Shw d := by
  have t := h.tc hb
  refine ⟨t.tb.shows, t.tb.noDict, Nat.le_trans t.tb.deep hk, ?_⟩
  have q := PyData.shown_le_bulk 100 (by decide) d t.leaf
  have l := t.tb.light
  rw [sizeLine_eq]
  omega
theorem Sm.strInv {b k W : Nat} {z : Str} (h : Sm b k W (.str z)) : Nmk W z := by
  cases h with
  | str h => exact h
theorem Sm.intInv {b k W : Nat} {i : Int} (h : Sm b k W (.int i)) : i.natAbs < 2 ^ b := by
  cases h with
  | int h => exact h
theorem Sm.tupInv {b k V : Nat} {ds : List PyData} (h : Sm b k V (.tuple ds)) : ∃ j W, k = j + 1 ∧ (∀ x ∈ ds, Sm b j W x) ∧ ds.length * (W + 1) ≤ V := by
  cases h with
  | tuple h hl => exact ⟨_, _, rfl, h, hl⟩
theorem Sm.elem {b k V : Nat} {ds : List PyData} {x : PyData} (h : Sm b k V (.tuple ds)) (hx : x ∈ ds) : Sm b k V x := by
  obtain ⟨j, W, rfl, h, hl⟩ := h.tupInv
  have p1 : 1 * (W + 1) ≤ ds.length * (W + 1) := Nat.mul_le_mul_right _ (List.length_pos_of_mem hx)
  exact (h x hx).mono (Nat.le_refl _) (by omega) (by omega)
theorem Sm.shorts {b k W : Nat} {d : PyData} (h : Sm b k W d) (hw : W ≤ 100000 := by decide) : Shorts d := by
  intro ds e x hx y l e2 z ez
  subst e
  subst e2
  subst ez
  have := ((h.elem hx).elem (x := .str z) List.mem_cons_self).strInv.1
  rw [sizeLine_eq]
  omega
theorem Sm.count {b k V : Nat} {ds : List PyData} (h : Sm b k V (.tuple ds)) : ds.length ≤ V := by
  obtain ⟨j, W, _, _, hl⟩ := h.tupInv
  have : ds.length * 1 ≤ ds.length * (W + 1) := Nat.mul_le_mul_left _ (by omega)
  omega
theorem sm_list {b k W : Nat} {ds : List PyData} (h : ∀ x ∈ ds, Sm b k W x) (n : Nat) (hn : ds.length ≤ n) (V : Nat) (hV : n * (W + 1) ≤ V) : Sm b (k + 1) V (.list ds) := .list h (Nat.le_trans (Nat.mul_le_mul_right _ hn) hV)
theorem sm_tuple {b k W : Nat} {ds : List PyData} (h : ∀ x ∈ ds, Sm b k W x) (n : Nat) (hn : ds.length ≤ n) (V : Nat) (hV : n * (W + 1) ≤ V) : Sm b (k + 1) V (.tuple ds) := .tuple h (Nat.le_trans (Nat.mul_le_mul_right _ hn) hV)
theorem mem1 {α : Type} {P : α → Prop} {a : α} (h : P a) : ∀ x ∈ [a], P x := fun x hx => by
  rw [List.mem_singleton.mp hx]
  exact h
theorem mem2 {α : Type} {P : α → Prop} {a c : α} (h : P a) (h2 : P c) : ∀ x ∈ [a, c], P x := fun x hx => by
  rcases List.mem_cons.mp hx with rfl | hx
  · exact h
  · exact mem1 h2 x hx
theorem mem3 {α : Type} {P : α → Prop} {a c d : α} (h : P a) (h2 : P c) (h3 : P d) : ∀ x ∈ [a, c, d], P x := fun x hx => by
  rcases List.mem_cons.mp hx with rfl | hx
  · exact h
  · exact mem2 h2 h3 x hx
theorem eqv_nil : ∀ ds : List PyData, PyData.eqv (.list ds) (.list []) = decide (ds = []) := by
  intro ds
  cases ds <;> simp [PyData.eqv, PyData.eqvAll]
theorem eqv_nilT : ∀ ds : List PyData, PyData.eqv (.tuple ds) (.tuple []) = decide (ds = []) := by
  intro ds
  cases ds <;> simp [PyData.eqv, PyData.eqvAll]
theorem dat_lst {K : PySem.W.Frag} {B : Hp} {ds : List PyData} {p : Addr} {xs : List V} (hs : SqL K B p xs) (h : AllR (ds.map (dat K)) B xs) : dat K (.list ds) B (.ref p) := lstR_dat ⟨p, xs, rfl, hs, h⟩
theorem bool_or_not {a b : Bool} : (!a || !b) = !(a && b) := by cases a <;> cases b <;> rfl
end K05

set_option Elab.async false
set_option linter.all false
set_option maxRecDepth 100000
set_option maxHeartbeats 1000000
/-! We3: < of tuples of ints. -/
namespace Wv
open PySem PySem.Spec PyProof.Rows L2 Wb
theorem lexLt_eq : ∀ a b : List Int, HT.lexLt a b = decide (a < b)
  | [], [] => by simp [HT.lexLt]
  | [], y :: b => by simp [HT.lexLt]
  | x :: a, [] => by simp [HT.lexLt]
  | x :: a, y :: b => by
    have ih := lexLt_eq a b
    simp only [HT.lexLt, ih]
    rw [Bool.eq_iff_iff, decide_eq_true_eq, List.cons_lt_cons_iff]
    by_cases h : x = y
    · subst h
      simp
    · simp [h]
section
variable {K : PySem.W.Frag} {B : Hp}
theorem Rv.ltT {a b : List Int} : Rv (rLtT K) B (dat K (.tuple (a.map .int))) (dat K (.tuple (b.map .int))) (dat K (.bool (decide (a < b)))) := fun x y B1 H _ s2 hx hy Q q => by
  cases hx with
  | tup hs hd =>
    cases hy with
    | tup hs2 hd2 =>
      refine ⟨_, _, a, b, rfl, rfl, ints_vals hd ▸ seqT s2 hs, ints_vals hd2 ▸ seqT s2 hs2, ?_⟩
      rw [lexLt_eq]
      exact q _ B1 H (.refl s2) (.bl _)
end
end Wv

set_option Elab.async false
set_option linter.all false
set_option maxRecDepth 100000
set_option maxHeartbeats 1000000
/-! We4: t[::-1] of a tuple. -/
namespace Wv
open PySem PySem.Spec PySem.Calls PyProof.Rows L2 Wb
open HT in
theorem adj_rev (n : Nat) : Builtin.Slice.sliceAdjust none none (-1) (n : Int) = ((n : Int) - 1, -1) := by
  unfold Builtin.Slice.sliceAdjust
  rfl
theorem plc_rev (n : Nat) : Builtin.Slice.slicePlaces ((n : Int) - 1) (-1) (-1) = n := by
  unfold Builtin.Slice.slicePlaces
  have h : ¬ ((-1 : Int) > 0) := by omega
  rw [if_neg h]
  by_cases z : (n : Int) - 1 > -1
  · rw [if_pos z, show (-(-1 : Int)) = 1 by decide, Int.ediv_one]
    omega
  · rw [if_neg z]
    omega
theorem fm_congr {α β : Type} {f g : α → Option β} : ∀ {l : List α}, (∀ x ∈ l, f x = g x) → l.filterMap f = l.filterMap g
  | [], _ => rfl
  | x :: l, h => by
    rw [List.filterMap_cons, List.filterMap_cons, h x List.mem_cons_self, fm_congr fun y hy => h y (List.mem_cons_of_mem _ hy)]
theorem pick_rev (xs : Array Value) : ((List.range xs.size).filterMap fun (m : Nat) => xs[(((xs.size : Int) - 1) + (m : Int) * (-1)).toNat]?).toArray = xs.toList.reverse.toArray := by
  congr 1
  have e : (List.range xs.size).filterMap (fun (m : Nat) => xs[(((xs.size : Int) - 1) + (m : Int) * (-1)).toNat]?) = (List.range xs.size).filterMap (fun m => xs.toList.reverse[m]?) := by
    refine fm_congr fun m hm => ?_
    have hm := List.mem_range.mp hm
    have i : (((xs.size : Int) - 1) + (m : Int) * (-1)).toNat = xs.size - 1 - m := by omega
    rw [i, List.getElem?_reverse (by rw [Array.length_toList]; exact hm), Array.length_toList, Array.getElem?_toList]
  rw [e]
  have l : xs.size = xs.toList.reverse.length := by rw [List.length_reverse, Array.length_toList]
  rw [l]
  generalize xs.toList.reverse = ys
  apply List.ext_getElem?
  intro i
  have : (List.range ys.length).filterMap (fun m => ys[m]?) = ys := by
    induction ys with
    | nil => rfl
    | cons y ys ih =>
      rw [List.length_cons, List.range_succ_eq_map, List.filterMap_cons]
      simp only [List.getElem?_cons_zero, List.filterMap_map]
      congr 1
  rw [this]
section
variable {prog : Program} {w : World} {A : Around} {E : Value → Shared → Prop} {s : Shared}
theorem app_rev {sl : Addr} {vl vu vs : Value} {n : Nat} {Q : Int × Int × Nat → Shared → Prop} (hs : s.heap.IsSliceOf sl vl vu vs) (pl : IsPart vl none) (pu : IsPart vu none) (ps : IsPart vs (some (-1))) (h : Q ((n : Int) - 1, -1, n) s) :
    wpAny (model prog w) A (Builtin.Slice.sliceApplied (.ref sl) (pure (n : Int))) Q E s := by
  obtain ⟨os, hos, _, hds⟩ := id hs
  unfold Builtin.Slice.sliceApplied
  unfold Builtin.Slice.sliceFields
  refine wpAny_bind (wpAny_bind (wpAny_field hos hds (x := vl) rfl ?_))
  refine wpAny_bind (wpAny_field hos hds (x := vu) rfl ?_)
  refine wpAny_bind (wpAny_field hos hds (x := vs) rfl ?_)
  refine wpAny_pure (wpAny_bind (HT.slicePart_ ps ?_))
  show wpAny _ _ (if ((-1 : Int) == 0) = true then _ else _) _ _ s
  rw [if_neg (by decide)]
  refine wpAny_bind (HT.slicePart_ pl ?_)
  refine wpAny_bind (HT.slicePart_ pu (wpAny_bind (wpAny_pure ?_)))
  show wpAny _ _ (match Builtin.Slice.sliceAdjust none none (-1) (n : Int) with | (lo, hi) => pure (lo, (-1 : Int), Builtin.Slice.slicePlaces lo hi (-1))) _ _ s
  rw [adj_rev n]
  show wpAny _ _ (pure ((n : Int) - 1, (-1 : Int), Builtin.Slice.slicePlaces ((n : Int) - 1) (-1) (-1))) _ _ s
  rw [plc_rev]
  exact wpAny_pure h
theorem item_rev {t sl : Addr} {items : Array Value} {vl vu vs : Value} {Q : Value → Shared → Prop} (ht : IsTup s.heap t items) (hs : s.heap.IsSliceOf sl vl vu vs) (pl : IsPart vl none) (pu : IsPart vu none) (ps : IsPart vs (some (-1)))
    (h : Q (.ref s.heap.objs.size) { s with heap := s.heap.push { cls := .type "tuple", data := .seq items.toList.reverse.toArray } }) (hsz : items.size ≤ sizeLine) : wpAny (model prog w) A (getItem (.ref t) (.ref sl)) Q E s := by
  have fit : sizeOk (.seq items.toList.reverse.toArray) := by
    show items.toList.reverse.toArray.size ≤ sizeLine
    rw [List.size_toArray, List.length_reverse, Array.length_toList]
    exact hsz
  obtain ⟨os, hos, hcs, _⟩ := id hs
  have hTs : s.TypeIs (.ref sl) "slice" := ⟨os, hos, hcs⟩
  unfold getItem
  (try with_reducible refine wpAny_holding ?_)
  (first | refine wpAny_bind (wpAny_pure ?_) | skip)
  refine (wpAny_bind (wpAny_sequenceKey ht.typeIs (by decide) ?_))
  refine wpAny_bind (wpAny_callSpecial?_slot (name := Str.ofString "__getitem__") ht.typeIs PyProof.Rows.slot_tuple_getitem (wpAny_call_entry PyProof.Rows.slot_tuple_getitem ht.typeIs entry_tuple_getitem ?_ (args_tuple_getitem _ _)))
  show wpAny _ _ (Builtin.Tuple.tupleItemsOf (Value.ref t) >>= _) _ _ _
  refine wpAny_bind (tupleItemsOf_ ht (wpAny_bind (wpAny_typeOf hTs ?_)))
  rw [if_pos (by decide)]
  refine wpAny_bind (app_rev hs pl pu ps ?_)
  have no : ¬ ((((items.size : Int) - 1) == 0 && (-1 : Int) == 1 && items.size == items.size) = true) := by simp
  show wpAny _ _ (if ((((items.size : Int) - 1) == 0 && (-1 : Int) == 1 && items.size == items.size) = true) then _ else _) _ _ s
  rw [if_neg no, pick_rev]
  first
    | exact (wpAny_bind (m := Builtin.Tuple.tupleExact _) (wpAny_newObj_type (wpAny_pure ⟨_, rfl, wpAny_pure h⟩) fit))
    | exact (wpAny_bind (m := Builtin.Tuple.tupleExact _) (wpAny_newObj_type (wpAny_bind (wpAny_pure (wpAny_pure ⟨_, rfl, wpAny_pure h⟩))) fit))
end
def tRevT (K : PySem.W.Frag) (te : TE) : TE := fun σ H Q => te σ H fun x H1 => ∃ a xs, x = .ref a ∧ SqT K H1 a xs ∧ ∀ p, H1 p = none → Q (.ref p) (upd H1 p (.tup xs.reverse))
section
variable {X : Cx}
theorem pe_revT {e : Expr} {te : TE} {k : Nat} {p1 p2 p3 pos : Pos} (he : PE X e te) : PE X (.Subscript e (.Slice none none (some (.UnaryOp .USub (.Constant (.int 1) k p1) p2)) p3) pos) (tRevT X.K te) := by
  refine ⟨fun pins s σ H Q I h => ?_⟩
  refine Subscript_ (thn (he.run pins s σ H _ I h) fun v s1 ⟨x, H1, I1, r1, a, xs, ex, hx, q⟩ => ?_)
  subst ex
  cases r1
  have st : PO X (some (.UnaryOp .USub (.Constant (.int 1) k p1) p2)) (tPart (tUn (rU fun i => .int (-i)) (tC (.int 1)))) := (po_some (pe_un un_neg pe_int))
  refine wpAny_Slice (thn (po_none.run pins s1 σ H1 (fun o H2 => o = none ∧ H2 = H1) I1 ⟨rfl, rfl⟩) fun vl s2 z2 => ?_)
  obtain ⟨l, H2, I2, pl, el, e2⟩ := z2
  subst el e2
  refine thn (po_none.run pins s2 σ H2 (fun o H3 => o = none ∧ H3 = H2) I2 ⟨rfl, rfl⟩) fun vu s3 z3 => ?_
  obtain ⟨u, H3, I3, pu, eu, e3⟩ := z3
  subst eu e3
  refine thn (st.run pins s3 σ H3 (fun o H4 => o = some (-1) ∧ H4 = H3) I3 ⟨1, rfl, -1, rfl, rfl, rfl⟩) fun vs s4 z4 => ?_
  obtain ⟨o, H4, I4, ps, eo, e4⟩ := z4
  subst eo e4
  have I5 : Inv X pins σ H4 { s4 with heap := s4.heap.push { cls := .type "slice", data := .fields #[vl, vu, vs] } } := (I4.kept (t' := s4.toks) fun b ob q => Heap.get?_push_of_some _ q)
  obtain ⟨its, r, ht, hz⟩ := I5.tuple hx
  have hl := r.length
  show (wpAny (model X.prog X.w) X.A (subscriptTail e (.Slice none none (some (.UnaryOp .USub (.Constant (.int 1) k p1) p2)) p3) (.ref a) (.ref s4.heap.objs.size)) (EP X pins σ Q) X.xe { s4 with heap := s4.heap.push { cls := .type "slice", data := .fields #[vl, vu, vs] } })
  refine tail_any (ops := [.ref a, .ref s4.heap.objs.size]) ht.typeIs (PyProof.Rows.slot_tuple_getitem.lookup) ?_ (by with_unfolding_all rfl)
  refine item_rev ht (Heap.IsSliceOf.new _ vl vu vs) pl pu ps ?_ (by rw [List.size_toArray]; omega)
  refine ⟨.ref _, _, I5.laid (t' := s4.toks) (o := .tup xs.reverse) (fun b ob q => Heap.get?_push_of_some _ q) (Nat.le_refl _) ?_, rfl, (q _ (I5.hok.fresh (Nat.le_refl _)))⟩
  exact ⟨by rw [List.length_reverse]; exact hz, _, r.reverse, IsTup.new _ _⟩
end
section
variable {K : PySem.W.Frag} {σ : L2.St} {B : Hp} {te : TE}
theorem De.revT {ds : List PyData} (h : De te σ B (dat K (.tuple ds))) : De (tRevT K te) σ B (dat K (.tuple ds.reverse)) := fun B1 H s1 s2 Q q => h B1 H s1 s2 _ fun v B2 H2 e hv => by
  have hv' := hv
  obtain ⟨a, xs, rfl, hs, hR⟩ := dat_tupR hv'
  refine ⟨a, xs, rfl, seqT e.bh hs, fun p hp => q _ (upd B2 p (.tup xs.reverse)) _ (e.trans (Ext.new e.bh hp)) ?_⟩
  have rv : ∀ {ds : List PyData} {xs : List V}, DpAll K B2 xs ds → DpAll K B2 xs.reverse ds.reverse := fun h => by
    induction h using DpAll.rec (motive_1 := fun _ _ _ => True) with
    | non => trivial
    | bl => trivial
    | int => trivial
    | str => trivial
    | lst => trivial
    | tup => trivial
    | nil => exact .nil
    | cons h t _ ih =>
      rw [List.reverse_cons, List.reverse_cons]
      exact dpAll_app ih (.cons h .nil)
  exact .tup (SqT.of upd_same) (dpMonoAll (new_same (e.bh.free hp)) _ _ (rv (allR_dp hR)))
end
end Wv

set_option Elab.async false
set_option linter.all false
set_option maxRecDepth 100000
set_option maxHeartbeats 1000000
/-! We5: an own == asked of any data; of an instance or of data; two fields by keywords, turned round. -/
namespace Wv
open PySem PySem.Spec PyProof.Rows L2 Wb
section
variable {X : Cx} {n : Nat} {C : Addr} {S : Sp}
theorem eq_runsY {A : Around} {pins : List (Addr × Obj)} {σ : L2.St} {H : Hp} {s : Shared} {a f : Addr} {y : V} {u : Value} {fd : FuncData} {G : Bool → Hp → Prop} {R : Value → Shared → Prop} (F : FnOk X.prog X.w X.K X.mg X.base CX0 n f fd ["self", "other"] S) (hb : Binds X.K fd ["self", "other"] []) (hr : Room n A) (hfr : A.frames = X.A.frames) (I : Inv X pins σ H s) (ry : RelV y u)
    (hs : S [.ref a, y] H (fun v H' => ∃ t, v = .bl t ∧ G t H') E0) (k : ∀ t H' s', G t H' → Inv X pins σ H' s' → R (.bool t) s') : wpAny (model X.prog X.w) A (call (.ref f) [.ref a, u]) R X.xe s := by
  have e0 : Env0 X.prog X.w X.K X.mg X.base A X.stack s H := by
    have e := I.env0
    exact ⟨by rw [hfr]; exact e.frames, e.mod, e.bs, e.bsz, e.funs, e.frf, e.hok, e.bare⟩
  have hl := F.len _ _ _ _ hs
  have r2 : Vals [V.ref a, y] [Value.ref a, u] := .cons rfl (.cons ry .nil)
  refine wpAny_call (codeAny_mono (F.run A X.stack s H ⟨[.ref a, u], []⟩ [.ref a, u] [.ref a, y] _ E0 hr e0 (by
    have := hb s [.ref a, u] I.kIn (by simpa using hl)
    simpa using this) r2 hs) fun r s' hq => ?_)
  cases r with
  | error e => exact pass0 (X := X) pins σ H s e s' I hq
  | ok fl =>
    cases fl with
    | ret w =>
      obtain ⟨z, H', I', rz, t, ez, g⟩ := I.after hq
      subst ez
      cases rz
      exact k t H' s' g I'
    | next => exact False.elim hq
    | brk => exact False.elim hq
    | cont => exact False.elim hq
def rEqY (K : PySem.W.Frag) (C : Addr) (S : Sp) : R2 := fun x y H Q => ∃ a dx fs tb, x = .ref a ∧ H a = some (.ins C dx fs) ∧ TyX K H y tb ∧ PySem.W.notFirst K C tb = true ∧ S [x, y] H (fun v H' => ∃ t, v = .bl t ∧ Q (.bl t) H') E0
theorem op_eqY (c : CalE X.prog X.w X.K X.mg X.base n C S) (hr : Room n X.A) : OpR X (compareOp .Eq) (rEqY X.K C S) := by
  intro pins s σ H x y v u Q I rx ry hq
  obtain ⟨a, dx, fs, tb, rfl, ha, hT, nf, hS⟩ := hq
  obtain ⟨f, fd, F, hs, hf, hb⟩ := c
  cases rx
  obtain ⟨Pq, Z, pq, _⟩ := kit_of I ry hT
  obtain ⟨mA, J, _⟩ := ins_get I.hok ha
  obtain ⟨od, J, _⟩ := J.look
  obtain ⟨m, hF⟩ := I.fr
  show wpAny (model X.prog X.w) X.A (richCompare .Eq (.ref a) u) (EP X pins σ Q) X.xe s
  refine PySem.W.cmp_K (op := .Eq) (tb := tb) hr.units0 hF I.ok.mod.kin J (Z.ty _ _ I.kIn pq) nf hs hf ?_
  exact eq_runsY F hb hr rfl I ry hS fun t H' s' g I' => ⟨.bl t, H', I', rfl, g⟩
/-- of an instance, or of data -/
def rEqM (K : PySem.W.Frag) (C : Addr) (S : Sp) : R2 := fun x y H Q => rEqI C S x y H Q ∨ rEqY K C S x y H Q ∨ rEqD K x y H Q
theorem op_eqM (c : CalE X.prog X.w X.K X.mg X.base n C S) (hr : Room n X.A) (hu : X.A.units + 64 < cLine) : OpR X (compareOp .Eq) (rEqM X.K C S) := by
  intro pins s σ H x y v u Q I rx ry hq
  rcases hq with h | h | h
  · exact op_eqC c hr pins s σ H x y v u Q I rx ry h
  · exact op_eqY c hr pins s σ H x y v u Q I rx ry h
  · exact op_eqD hu pins s σ H x y v u Q I rx ry h
end
theorem notFirst_data {K : PySem.W.Frag} {C : Addr} : ∀ t ∈ ["NoneType", "bool", "int", "str", "list", "tuple", "dict"], PySem.W.notFirst K C (.type t) = true := by
  intro t ht
  unfold PySem.W.notFirst PySem.W.subIn
  simp only [List.mem_cons, List.not_mem_nil, or_false] at ht
  rcases ht with rfl | rfl | rfl | rfl | rfl | rfl | rfl <;> rfl
section
variable {C : Addr} {B : Hp} {R R' : Rel} {α : Type} {args : α → List Rel} {pre : α → Prop} {res : α → Rel} {K : PySem.W.Frag} {d : PyData}
theorem Rv.eqDatY [i : IsIns C R] {t : Bool} (a : α) (hp : pre a) (ha : ∀ B x y, R B x → dat K d B y → AllR (args a) B [x, y]) (hr : res a = dat K (.bool t)) : Rv (rEqY K C (Pf args pre res)) B R (dat K d) (dat K (.bool t)) := fun x y B1 H s1 s2 hx hy Q q => by
  obtain ⟨b, dx, fs, rfl, hb⟩ := i.ins hx
  have ty : TyX K H y (.type (tyN d)) := ty_dat (dpMono s2 _ _ hy)
  refine ⟨b, dx, fs, _, rfl, s2 _ _ hb, ty, notFirst_data _ (tyN_mem d), B1, a, s2, ha _ _ _ hx hy, hp, fun v B' H' e hv => ?_⟩
  rw [hr] at hv
  have : v = .bl t := dat_bl hv
  exact ⟨t, this, q _ B' H' e (this ▸ hv)⟩
theorem Rv.orL {r1 r2 : R2} {T : Rel} (h : Rv r1 B R R' T) : Rv (fun x y H Q => r1 x y H Q ∨ r2 x y H Q) B R R' T := fun x y B1 H s1 s2 hx hy Q q => .inl (h x y B1 H s1 s2 hx hy Q q)
theorem Rv.orR {r1 r2 : R2} {T : Rel} (h : Rv r2 B R R' T) : Rv (fun x y H Q => r1 x y H Q ∨ r2 x y H Q) B R R' T := fun x y B1 H s1 s2 hx hy Q q => .inr (h x y B1 H s1 s2 hx hy Q q)
end
section
variable (P : Program) (w : World) (K : PySem.W.Frag) (mg : Str → Option Value) (base : Heap)
/-- .. made by keywords alone, turned round -/
structure CalCR (x : Str) (C : Addr) (f1 f2 : Str) : Prop where
  g : mg x = some (.ref C)
  ini : ∃ (f : Addr) (fd : FuncData), Mk K C f ∧ FnOk P w K mg base CX0 1 f fd ("self" :: [f1, f2]) (spIns C [f1, f2]) ∧ KBn K fd ("self" :: [f1, f2]) 1 [f2, f1] (fun us ws => us ++ ws.reverse) (fun vs zs => vs ++ zs.reverse)
end
theorem vals_rev : ∀ {vs : List V} {us : List Value}, Vals vs us → Vals vs.reverse us.reverse
  | _, _, .nil => .nil
  | _, _, .cons r t => by
    rw [List.reverse_cons, List.reverse_cons]
    exact vals_app (vals_rev t) (.cons r .nil)
theorem kbr_of {K : PySem.W.Frag} {x qual : Str} {st : Stmt} {f : Addr} {fd : FuncData} {ps ks : List Str} (F : Fun K x qual st f fd)
    (h : ∀ (kV doc pm : Value) (an : Option Addr) (cdv ct : Value) (us ws : List Value), us.length = 1 → ws.length = ks.length → bindArgs (PySem.W.fnOf x qual (defArgs st) (defBody st) (defScope st) .none kV doc pm an cdv ct) ⟨us, ks.zip ws⟩ = pure (ps.zip (us ++ ws.reverse))) :
    KBn K fd ps 1 ks (fun us ws => us ++ ws.reverse) (fun vs zs => vs ++ zs.reverse) := by
  obtain ⟨oc, od, kV, doc, pm, an, cdv, ct, osl, rfl, lk, hcd⟩ := F.ex
  exact ⟨fun s us ws _ l1 l2 => .of_eq (h kV doc pm an cdv ct us ws l1 l2), fun r1 r2 => vals_app r1 (vals_rev r2)⟩
section
variable {X : Cx} {x : Str} {C : Addr} {f1 f2 : Str} {k : Nat} {p pos : Pos} {kws : List Keyword} {tk : TA}
theorem pe_calCR (c : CalCR X.prog X.w X.K X.mg X.base x C f1 f2) (hr : Room k X.A) (hk : 2 ≤ k) (hg : Gl X x) (hkw : PK X kws tk)
    (hall : (backToKw pos (keywordEach kws X.env)).all (·.1.isSome) = true := by rfl) (hks : (backToKw pos (keywordEach kws X.env)).filterMap (·.1) = [f2, f1] := by rfl) (hdb : (x == ("__debug__" : Str)) = false := by decide)
    (hpl : ((backTo pos (starEach [] X.env)).any (·.1) || (backToKw pos (keywordEach kws X.env)).any (·.1.isNone)) = false := by rfl) :
    PE X (.Call (.Name x p) [] kws pos) (tMakeK C 0 [f2, f1].length (spIns C [f1, f2]) (fun vs zs => vs ++ zs.reverse) E0 tNil tk) := by
  obtain ⟨f, fd, M, F, b⟩ := c.ini
  exact pe_makeK0 M F (hr.mono hk) hg c.g b pass0 hkw hall hks hdb hpl
end
section
variable {σ : L2.St} {B : Hp} {R1 R2 : Rel}
theorem De.makeR {C : Addr} {f1 f2 : Str} {ta : TA} [m : MoA [R2, R1]] [m2 : MoA [R1, R2]] (ha : Da ta σ B [R2, R1]) : De (tMakeK C 0 2 (spIns C [f1, f2]) (fun vs zs => vs ++ zs.reverse) E0 tNil ta) σ B (insR C [(f1, R1), (f2, R2)]) := fun B1 H s1 s2 Q q =>
  ha B1 H s1 s2 _ fun vs B2 H2 e hv => by
    obtain ⟨u2, r, rfl, h2, u1, r', rfl, h1, hr⟩ := hv
    have hr : r' = [] := hr
    subst hr
    refine ⟨rfl, rfl, fun x dx hx hd ne => ?_⟩
    refine ⟨x, dx, [u1, u2], rfl, rfl, upd_same, rfl, ?_⟩
    rw [upd_over]
    have e1 : Ext B2 H2 B2 (upd H2 dx (.own x)) := .own e.bh hd
    have hx1 : upd H2 dx (.own x) x = none := by
      rw [upd_ne ne.symm]
      exact hx
    have e2 := Ext.new (o := .ins C dx ([f1, f2].zip [u1, u2])) e1.bh hx1
    exact q _ _ _ ((e.trans e1).trans e2) ⟨x, dx, _, rfl, upd_same, allF_zip (fs := [f1, f2]) (Rs := [R1, R2]) rfl (m2.mo (new_same (e.bh.free hx)) ⟨u1, [u2], rfl, h1, u2, [], rfl, h2, rfl⟩)⟩
end
end Wv

set_option Elab.async false
set_option linter.all false
set_option maxRecDepth 100000
set_option maxHeartbeats 1000000
/-! K05f: shares, books, tables of sheets, of any value. -/
namespace K05
open PySem PySem.Spec PyProof.Rows L2 Wb Wv Fm Wf Fq
/-- whether the i-th stands rightly: of its kind, above the one ahead -/
def okA (p : PyData → Bool) (lt : PyData → PyData → Bool) (ds : List PyData) (i : Nat) : Bool := match ds[i]? with
  | some d => p d && (decide (i = 0) || (match ds[i - 1]? with | some q => lt q d | none => false))
  | none => false
theorem okA_zero {p : PyData → Bool} {lt : PyData → PyData → Bool} {ds : List PyData} {d : PyData} (hd : ds[0]? = some d) : okA p lt ds 0 = p d := by
  unfold okA
  rw [hd]
  simp
theorem okA_succ {p : PyData → Bool} {lt : PyData → PyData → Bool} {ds : List PyData} {i : Nat} {q d : PyData} (hq : ds[i]? = some q) (hd : ds[i + 1]? = some d) : okA p lt ds (i + 1) = (p d && lt q d) := by
  unfold okA
  rw [hd, Nat.add_sub_cancel, hq]
  simp
theorem okA_bad {p : PyData → Bool} {lt : PyData → PyData → Bool} {ds : List PyData} {i : Nat} {d : PyData} (hd : ds[i]? = some d) (h : p d = false) : okA p lt ds i = false := by
  unfold okA
  rw [hd]
  simp [h]
theorem okA_ok {p : PyData → Bool} {lt : PyData → PyData → Bool} {ds : List PyData} {i : Nat} {d : PyData} (hd : ds[i]? = some d) (h : okA p lt ds i = true) : p d = true := by
  unfold okA at h
  rw [hd] at h
  exact (Bool.and_eq_true _ _ ▸ h).1
def faultA (p : PyData → Bool) (lt : PyData → PyData → Bool) (ds : List PyData) : Option Nat := (List.range ds.length).find? fun i => !okA p lt ds i
theorem faultA_at {p : PyData → Bool} {lt : PyData → PyData → Bool} {ds : List PyData} {i : Nat} (h : i < ds.length) (bad : okA p lt ds i = false) (l : ∀ j, j < i → okA p lt ds j = true) : faultA p lt ds = some i := find_first h (by rw [bad]; rfl) fun j hj => by rw [l j hj]; rfl
theorem faultA_none {p : PyData → Bool} {lt : PyData → PyData → Bool} {ds : List PyData} (all : ∀ j, j < ds.length → okA p lt ds j = true) : faultA p lt ds = none := by
  unfold faultA
  rw [List.find?_eq_none]
  intro j hj
  rw [all j (List.mem_range.mp hj)]
  decide
theorem isTup3 {d : PyData} (h : isTupD d 3 = true) : ∃ x y z, d = .tuple [x, y, z] := by
  obtain ⟨ds, rfl, l⟩ := isTupN (n := 3) h
  match ds, l with
  | [x, y, z], _ => exact ⟨x, y, z, rfl⟩
def qOf (d : PyData) : Str × Nat := match d with
  | .tuple [.str z, .int i] => (z, i.toNat)
  | _ => (⟨#[]⟩, 0)
def qsOf (d : PyData) : Qs := match d with
  | .tuple ds => ds.map qOf
  | _ => []
theorem qsOf_D (qs : Qs) : qsOf (qsD qs) = qs := by
  show (qs.map encQ).map qOf = qs
  rw [List.map_map]
  have : (qOf ∘ encQ) = id := by
    funext q
    show (q.1, (q.2 : Int).toNat) = q
    rw [Int.toNat_natCast]
  rw [this, List.map_id]

def posFr (d : PyData) : Bool := match d with
  | .tuple [.int a, .int b] => decide (0 < a) && (decide (0 < b) && decide (Nat.gcd a.natAbs b.natAbs = 1))
  | _ => false
def ratOf (d : PyData) : Rat := match d with
  | .tuple [.int a, .int b] => Rat.divInt a b
  | _ => 0
theorem posFr_form {d : PyData} (h : posFr d = true) : ∃ a b : Int, d = .tuple [.int a, .int b] ∧ 0 < a ∧ 0 < b ∧ Nat.gcd a.natAbs b.natAbs = 1 := by
  unfold posFr at h
  split at h
  · rename_i a b
    rw [Bool.and_eq_true, Bool.and_eq_true, decide_eq_true_eq, decide_eq_true_eq, decide_eq_true_eq] at h
    exact ⟨a, b, rfl, h.1, h.2.1, h.2.2⟩
  · cases h
theorem low_frD {a b : Int} (hb : 0 < b) (g : Nat.gcd a.natAbs b.natAbs = 1) : (PyData.tuple [.int a, .int b]) = frD (Rat.divInt a b) := by
  obtain ⟨h1, h2⟩ := low_val a b hb
  rw [g] at h1 h2
  have e1 : a / ((1 : Nat) : Int) = a := by simp
  have e2 : b / ((1 : Nat) : Int) = b := by simp
  rw [e1] at h1
  rw [e2] at h2
  unfold frD
  rw [← h1, ← h2]
theorem posFr_frD {d : PyData} (h : posFr d = true) : d = frD (ratOf d) := by
  obtain ⟨a, b, rfl, _, hb, g⟩ := posFr_form h
  exact low_frD hb g
theorem posFr_sz {b k W : Nat} {d : PyData} (h : posFr d = true) (s : Sm b k W d) : Sz b (ratOf d) := by
  obtain ⟨x, y, rfl, _, hy, _⟩ := posFr_form h
  have s1 := (s.elem (x := .int x) (by simp)).intInv
  have s2 := (s.elem (x := .int y) (by simp)).intInv
  exact sz_divInt (by omega) s1 s2
/-- the key and the share of a row -/
def keyOf (d : PyData) : PyData := match d with
  | .tuple ds => .tuple ds.dropLast
  | _ => .none
def lastOf (d : PyData) : PyData := match d with
  | .tuple ds => ds.getLast?.getD .none
  | _ => .none
theorem keyOf_cat (ks : List PyData) (x : PyData) : keyOf (.tuple (ks ++ [x])) = .tuple ks := by
  show PyData.tuple (ks ++ [x]).dropLast = _
  rw [List.dropLast_concat]
theorem lastOf_cat (ks : List PyData) (x : PyData) : lastOf (.tuple (ks ++ [x])) = x := by
  show (ks ++ [x]).getLast?.getD .none = x
  simp
def ltK (a b : PyData) : Bool := PySem.W.dataLt (keyOf a) (keyOf b)
def sharesFault (p : PyData → Bool) (ds : List PyData) : PyData := match faultA p ltK ds with
  | some i => .int (i : Int)
  | none => if sumR (ds.map fun d => ratOf (lastOf d)) = 1 then .none else .int (ds.length : Int)
structure SharesOk (p : PyData → Bool) (ds : List PyData) : Prop where
  few : ds.length ≤ 40
  form : ∀ d ∈ ds, p d = true → ∃ ks x, d = .tuple (ks ++ [x]) ∧ posFr x = true ∧ Sz 100 (ratOf x) ∧ (PyData.tuple ks).depth ≤ 60
  al : ∀ d ∈ ds, ∀ e ∈ ds, p d = true → p e = true → PySem.W.alike (keyOf d) (keyOf e) = true
def tripleB (qs : Qs) (d : PyData) : Bool := match d with
  | .tuple [l, t, s] => partD (Fm.names qs) l && (isRowD qs 0 t && posFr s)
  | _ => false
def pairB (qs : Qs) (d : PyData) : Bool := match d with
  | .tuple [l, s] => isRowD qs (-1) l && posFr s
  | _ => false
def keyB (way : Bool) (qs : Qs) (d : PyData) : Bool := if way then pairB qs d else tripleB qs d
def rowsFault (way : Bool) (qs : Qs) (r : PyData) : PyData := match r with
  | .tuple ds => sharesFault (keyB way qs) ds
  | _ => .int (-1)
/-- a Book or a Sheets of a form (or of anything) and of rows, or any data -/
inductive SV where
  | ins (way b : Bool) (f r : PyData)
  | dat (d : PyData)
abbrev bkR (K : PySem.W.Frag) (CF C : Addr) (b : Bool) (f r : PyData) : Rel := insR C [("form", valR K CF b f), ("shares", Wv.dat K r)]
def svR (K : PySem.W.Frag) (CF CB CS : Addr) (t : SV) : Rel := match t with
  | .ins way b f r => bkR K CF (if way then CS else CB) b f r
  | .dat d => Wv.dat K d
instance {K : PySem.W.Frag} {CF CB CS : Addr} {t : SV} : Mo (svR K CF CB CS t) := by
  cases t with
  | ins way b f r => exact inferInstanceAs (Mo (insR (if way then CS else CB) [("form", valR K CF b f), ("shares", dat K r)]))
  | dat d => exact inferInstanceAs (Mo (dat K d))
def svFault (way : Bool) (t : SV) : PyData := match t with
  | .ins w b f r => if (w == way) = true then (if isNoneD (valFault b f) = true then rowsFault way (qsOf f) r else .int (-1)) else .int (-1)
  | .dat _ => .int (-1)
def rOk (r : PyData) : Prop := (∃ b k W, b ≤ 100 ∧ k ≤ 50 ∧ W ≤ 100000 ∧ Sm b k W r) ∧ ∀ ds, r = .tuple ds → ds.length ≤ 40
def svOk (t : SV) : Prop := match t with
  | .ins _ _ f r => Shorts f ∧ rOk r
  | .dat _ => True
theorem sharesFault_kinds (p : PyData → Bool) (ds : List PyData) : sharesFault p ds = .none ∨ ∃ i, sharesFault p ds = .int i := by
  unfold sharesFault
  split
  · exact .inr ⟨_, rfl⟩
  · split
    · exact .inl rfl
    · exact .inr ⟨_, rfl⟩
theorem svFault_kinds (way : Bool) (t : SV) : svFault way t = .none ∨ ∃ i, svFault way t = .int i := by
  cases t with
  | ins w b f r =>
    unfold svFault
    dsimp only
    split
    · split
      · cases r with
        | tuple ds => exact sharesFault_kinds _ _
        | _ => exact .inr ⟨_, rfl⟩
      · exact .inr ⟨_, rfl⟩
    · exact .inr ⟨_, rfl⟩
  | dat d => exact .inr ⟨_, rfl⟩
theorem alike_rowD : ∀ a b : List Int, PySem.W.alikeAll (a.map .int) (b.map .int) = true
  | [], _ => by simp [PySem.W.alikeAll]
  | _ :: _, [] => by simp [PySem.W.alikeAll]
  | x :: a, y :: b => by simp only [List.map_cons, PySem.W.alikeAll, PySem.W.alike, alike_rowD a b, Bool.and_self]
def intOf (d : PyData) : Int := match d with
  | .int i => i
  | _ => 0
theorem ints_form : ∀ {ds : List PyData}, (∀ x ∈ ds, ∃ i, x = .int i) → ds = (ds.map intOf).map .int
  | [], _ => rfl
  | x :: ds, h => by
    obtain ⟨i, rfl⟩ := h x List.mem_cons_self
    rw [List.map_cons, List.map_cons, ← ints_form fun y hy => h y (List.mem_cons_of_mem _ hy)]
    rfl
theorem inD_int {d : PyData} {lo hi : Int} (h : isInD d lo hi = true) : ∃ i, d = .int i := by
  cases d with
  | int i => exact ⟨i, rfl⟩
  | _ => cases h
theorem isRow_form {qs : Qs} {lo : Int} {d : PyData} (h : isRowD qs lo d = true) : ∃ is : List Int, d = .tuple (is.map .int) := by
  cases d with
  | tuple ds =>
    refine ⟨ds.map intOf, ?_⟩
    rw [← ints_form fun x hx => ?_]
    unfold isRowD at h
    rw [Bool.and_eq_true, decide_eq_true_eq, List.all_eq_true] at h
    obtain ⟨i, hi, rfl⟩ := List.mem_iff_getElem.mp hx
    exact inD_int (h.2 (ds[i], qs[i]'(by omega)) (List.mem_iff_getElem.mpr ⟨i, by rw [List.length_zip]; omega, by rw [List.getElem_zip]⟩))
  | _ => cases h
theorem part_form {zs : List Str} {d : PyData} (h : partD zs d = true) : ∃ ws : List Str, d = .tuple (ws.map .str) := by
  cases d with
  | tuple ds => exact ⟨_, congrArg PyData.tuple (part_iff.mp h)⟩
  | _ => cases h
theorem depth_ints (l : List Int) : PyData.depthAll (l.map PyData.int) = 0 := Fm.depth_ints l
/-- what a right row looks like -/
theorem keyB_form {way : Bool} {qs : Qs} {d : PyData} (h : keyB way qs d = true) : ∃ ks x, d = .tuple (ks ++ [x]) ∧ posFr x = true ∧ (PyData.tuple ks).depth ≤ 2 ∧ ((way = true ∧ ∃ is : List Int, ks = [.tuple (is.map .int)]) ∨ (way = false ∧ ∃ (ws : List Str) (is : List Int), ks = [.tuple (ws.map .str), .tuple (is.map .int)])) := by
  cases way with
  | true =>
    replace h : pairB qs d = true := h
    unfold pairB at h
    split at h
    · rename_i l s
      rw [Bool.and_eq_true] at h
      obtain ⟨is, rfl⟩ := isRow_form h.1
      refine ⟨[.tuple (is.map .int)], s, rfl, h.2, ?_, .inl ⟨rfl, is, rfl⟩⟩
      simp [PyData.depth, PyData.depthAll, Fm.depth_ints]
    · cases h
  | false =>
    replace h : tripleB qs d = true := h
    unfold tripleB at h
    split at h
    · rename_i l t s
      rw [Bool.and_eq_true, Bool.and_eq_true] at h
      obtain ⟨ws, rfl⟩ := part_form h.1
      obtain ⟨is, rfl⟩ := isRow_form h.2.1
      refine ⟨[.tuple (ws.map .str), .tuple (is.map .int)], s, rfl, h.2.2, ?_, .inr ⟨rfl, ws, is, rfl⟩⟩
      simp [PyData.depth, PyData.depthAll, Fm.depth_ints, Fm.depth_strs]
    · cases h
theorem keyB_alike {way : Bool} {qs : Qs} {d e : PyData} (h : keyB way qs d = true) (h2 : keyB way qs e = true) : PySem.W.alike (keyOf d) (keyOf e) = true := by
  obtain ⟨ks, x, rfl, _, _, c⟩ := keyB_form h
  obtain ⟨ks', x', rfl, _, _, c'⟩ := keyB_form h2
  rw [keyOf_cat, keyOf_cat]
  rcases c with ⟨w, is, rfl⟩ | ⟨w, ws, is, rfl⟩
  · rcases c' with ⟨_, is', rfl⟩ | ⟨w', _⟩
    · simp only [PySem.W.alike, PySem.W.alikeAll, alike_rowD, Bool.and_self]
    · rw [w] at w'
      cases w'
  · rcases c' with ⟨w', _⟩ | ⟨_, ws', is', rfl⟩
    · rw [w] at w'
      cases w'
    · simp only [PySem.W.alike, PySem.W.alikeAll, alike_rowD, Fm.alike_strs, Bool.and_self]
theorem keyB_ok {way : Bool} {qs : Qs} {ds : List PyData} (h : rOk (.tuple ds)) : SharesOk (keyB way qs) ds := by
  obtain ⟨⟨b, k, W, hb, hk, hW, sm⟩, few⟩ := h
  refine ⟨few ds rfl, fun d hd h => ?_, fun d _ e _ h h2 => keyB_alike h h2⟩
  obtain ⟨ks, x, rfl, px, dk, _⟩ := keyB_form h
  have sx : Sm b k W x := (sm.elem hd).elem (by simp)
  exact ⟨ks, x, rfl, px, (posFr_sz px sx).mono hb, by omega⟩
abbrev sp_isTriple (K : PySem.W.Frag) (C : Addr) : Sp := Pf (α := Qs × PyData) (fun a => [formD K C (qsD a.1), dat K a.2]) (fun a => Good a.1 ∧ ∃ b k W, b ≤ 100 ∧ k ≤ 50 ∧ Sm b k W a.2) (fun a => dat K (.bool (tripleB a.1 a.2)))
abbrev sp_isSheetShare (K : PySem.W.Frag) (C : Addr) : Sp := Pf (α := Qs × PyData) (fun a => [formD K C (qsD a.1), dat K a.2]) (fun a => ∃ b k W, b ≤ 100 ∧ k ≤ 50 ∧ Sm b k W a.2) (fun a => dat K (.bool (pairB a.1 a.2)))
abbrev sp_sharesFault (K : PySem.W.Frag) : Sp := Pf (α := (PyData → Bool) × List PyData) (fun a => [dat K (.tuple a.2), dat K (.list (a.2.map fun d => .bool (a.1 d)))]) (fun a => SharesOk a.1 a.2) (fun a => dat K (sharesFault a.1 a.2))
abbrev sp_bookFault (K : PySem.W.Frag) (CF CB CS : Addr) : Sp := Pf (α := SV) (fun t => [svR K CF CB CS t]) (fun t => svOk t) (fun t => dat K (svFault false t))
abbrev sp_sheetsFault (K : PySem.W.Frag) (CF CB CS : Addr) : Sp := Pf (α := SV) (fun t => [svR K CF CB CS t]) (fun t => svOk t) (fun t => dat K (svFault true t))
abbrev sp_isBook (K : PySem.W.Frag) (CF CB CS : Addr) : Sp := Pf (α := SV) (fun t => [svR K CF CB CS t]) (fun t => svOk t) (fun t => dat K (.bool (isNoneD (svFault false t))))
abbrev sp_isSheets (K : PySem.W.Frag) (CF CB CS : Addr) : Sp := Pf (α := SV) (fun t => [svR K CF CB CS t]) (fun t => svOk t) (fun t => dat K (.bool (isNoneD (svFault true t))))
def sp_needSV (way : Bool) (K : PySem.W.Frag) (CF CB CS CI : Addr) : Sp := fun vs H Q E => ∃ (x : V) (B : Hp) (t : SV), vs = [x] ∧ Same B H ∧ svR K CF CB CS t B x ∧ svOk t ∧ (svFault way t = .none → ∀ v B' H', Ext B H B' H' → dat K .none B' v → Q v H') ∧
  ∀ i, svFault way t = .int i → ∀ B' H' dx, Ext B H B' H' → H' dx = none → E (.ref CI) (some dx) (upd H' dx (.xd [("at", .int i)]))
abbrev sp_needBook := sp_needSV false
abbrev sp_needSheets := sp_needSV true
theorem isiO {K : PySem.W.Frag} {σ : L2.St} {B : Hp} {te : TE} {C C' : Addr} {fs : List (Str × Rel)} (c : Cls K C') (t : IsiC K C') (n : PySem.W.kitOne K (.ref C') (.ref C) = some false) (h : De te σ B (insR C' fs)) : De (tCB (rIsi K) (tCons te (tCons (tC (.ref C)) tNil))) σ B (dat K (.bool false)) := fun B1 H s1 s2 Q q => h B1 H s1 s2 _ fun v B2 H2 e hv => by
  obtain ⟨a, dx, us, rfl, ha, _⟩ := hv
  exact ⟨_, _, .ref C', .ref C, false, rfl, .own C, .base (.ins (e.bh _ _ ha) c t.ha t.hn t.ht (mro_obj c)), n, q _ B2 H2 e (.bl false)⟩
section
variable {P : Program} {w : World} {K : PySem.W.Frag} {mg : Str → Option Value} {base : Heap} {C_Form C_Book C_Sheets C_InvalidForm C_InvalidBook C_InvalidSheets C_InvalidSize C_BlankError a_ZERO a_ONE : Addr} {t_MOST_QUESTIONS : Tok}
theorem De.posS {σ : L2.St} {B : Hp} {te : TE} {E E2 : XK} {s : PyData} {b k W : Nat} (h : De te σ B (dat K s)) (hb : b ≤ 100) (sm : Sm b k W s) : De (tAndV (tCall (sp_isFraction K) [] E (tCons te tNil)) (tOp (rI0 fun i j => V.bl (decide (j < i))) (tCall (spSignD K) [] E2 (tCons te tNil)) (tC (.int 0)))) σ B (dat K (.bool (posFr s))) := by
  have fr : De (tCall (sp_isFraction K) [] E (tCons te tNil)) σ B (dat K (.bool (isNoneD (frFault s)))) := De.call (args := fun d => [dat K d]) (res := fun d => dat K (.bool (isNoneD (frFault d)))) s (.one h) trivial
  cases hf : isNoneD (frFault s) with
  | false =>
    have e : posFr s = false := by
      rw [Bool.eq_false_iff]
      intro z
      obtain ⟨x, y, rfl, hx, hy, g⟩ := posFr_form z
      have : frFault (.tuple [.int x, .int y]) = .none := by
        show (if y ≤ 0 then PyData.int 1 else if 1 < (Nat.gcd x.natAbs y.natAbs : Int) then .int 0 else .none) = .none
        rw [if_neg (by omega), if_neg (by rw [g]; decide)]
      rw [this] at hf
      cases hf
    rw [hf] at fr
    rw [e]
    exact De.andV (a := false) (b := false) fr fun z => nomatch z
  | true =>
    rw [hf] at fr
    obtain ⟨x, y, rfl, hy, g⟩ : ∃ x y : Int, s = .tuple [.int x, .int y] ∧ 0 < y ∧ Nat.gcd x.natAbs y.natAbs = 1 := by
      unfold frFault at hf
      split at hf
      · rename_i x y
        refine ⟨x, y, rfl, ?_⟩
        by_cases h1 : y ≤ 0
        · rw [if_pos h1] at hf
          cases hf
        · rw [if_neg h1] at hf
          by_cases h2 : 1 < (Nat.gcd x.natAbs y.natAbs : Int)
          · rw [if_pos h2] at hf
            cases hf
          · have := Nat.gcd_pos_of_pos_right x.natAbs (n := y.natAbs) (by omega)
            exact ⟨by omega, by omega⟩
      · cases hf
    have s1 := (sm.elem (x := .int x) (by simp)).intInv
    have s2 := (sm.elem (x := .int y) (by simp)).intInv
    have up : 2 ^ b ≤ 2 ^ 3000 := Nat.pow_le_pow_right (by decide) (by omega)
    refine De.eq (De.andV (a := true) fr fun _ => De.op (De.sign h (by omega) (by omega)) (De.int (n := 0)) Rv.I0b) ?_
    have : posFr (.tuple [.int x, .int y]) = decide (0 < x) := by
      show (decide (0 < x) && (decide (0 < y) && decide (Nat.gcd x.natAbs y.natAbs = 1))) = _
      rw [decide_eq_true hy, decide_eq_true g, Bool.and_self, Bool.and_true]
    rw [this, Bool.true_and]
    congr 1
    unfold cmpI
    by_cases hx : 0 < x
    · rw [if_pos hx, if_neg (by omega), decide_eq_true hx]
      rfl
    · rw [if_neg hx, decide_eq_false hx]
      by_cases hx2 : x < 0
      · rw [if_pos hx2]
        rfl
      · rw [if_neg hx2]
        rfl
theorem De.row {σ : L2.St} {B : Hp} {te tf : TE} {E : XK} {qs : Qs} {d : PyData} (h : De te σ B (formD K C_Form (qsD qs))) (h2 : De tf σ B (dat K d)) : De (tCall (sp_isTruth K C_Form) [] E (tCons te (tCons tf tNil))) σ B (dat K (.bool (isRowD qs 0 d))) := De.call (args := fun a : Qs × PyData => [formD K C_Form (qsD a.1), dat K a.2]) (res := fun a => dat K (.bool (isRowD a.1 0 a.2))) (qs, d) (.cons h (.cons h2 .nil)) trivial
theorem De.sheet {σ : L2.St} {B : Hp} {te tf : TE} {E : XK} {qs : Qs} {d : PyData} (h : De te σ B (formD K C_Form (qsD qs))) (h2 : De tf σ B (dat K d)) : De (tCall (sp_isSheet K C_Form) [] E (tCons te (tCons tf tNil))) σ B (dat K (.bool (isRowD qs (-1) d))) := De.call (args := fun a : Qs × PyData => [formD K C_Form (qsD a.1), dat K a.2]) (res := fun a => dat K (.bool (isRowD a.1 (-1) a.2))) (qs, d) (.cons h (.cons h2 .nil)) trivial
theorem De.lot {σ : L2.St} {B : Hp} {te tf : TE} {E : XK} {qs : Qs} {d : PyData} (h : De te σ B (formD K C_Form (qsD qs))) (h2 : De tf σ B (dat K d)) (sh : SeqAt.shaped d = true) (g : Good qs) : De (tCall (sp_isLot K C_Form) [] E (tCons te (tCons tf tNil))) σ B (dat K (.bool (partD (Fm.names qs) d))) := De.call (args := fun a : Qs × PyData => [formD K C_Form (qsD a.1), dat K a.2]) (res := fun a => dat K (.bool (partD (Fm.names a.1) a.2))) (qs, d) (.cons h (.cons h2 .nil)) ⟨sh, g⟩
theorem sc_isTriple : FnScope ["form", "value"] ["form", "value"] (defScope s_isTriple) := ⟨rfl, rfl, rfl, by decide +kernel, rfl, by decide +kernel, by decide +kernel⟩
theorem ok_isTriple (D : Def K mg "is_triple" s_isTriple ["form", "value"]) (C_isTupleOf : Cal P w K mg base CX0 1 "is_tuple_of" s_isTupleOf ["value", "many"] (sp_isTupleOf K)) (C_isLot : Cal P w K mg base CX0 2 "is_lot" s_isLot ["form", "value"] (sp_isLot K C_Form)) (C_isTruth : Cal P w K mg base CX0 3 "is_truth" s_isTruth ["form", "value"] (sp_isTruth K C_Form)) (C_isFraction : Cal P w K mg base CX0 3 "is_fraction" s_isFraction ["value"] (sp_isFraction K)) (C_signOf : Cal P w K mg base CX0 2 "sign_of" s_signOf ["one"] (sp_signOf K)) : Cal P w K mg base CX0 4 "is_triple" s_isTriple ["form", "value"] (sp_isTriple K C_Form) := by
  refine D.ok sc_isTriple (fun vs H Q E h => ?_) (fun cdv f A outer s H vs Q E hr h => ?_)
  · exact pf_len h fun _ => rfl
  replace h := pf2 h
  obtain ⟨v, v1, B, ⟨qs, d⟩, rfl, hB, hv, hv1, ⟨g, b, kk, W, hb, hk, sm⟩, k⟩ := h
  refine ⟨_, (pss_cons (ps_if (PW.pt (pw_or (pt_not (pt_val (pe_cal C_isTupleOf (hr.mono (by decide)) (by rfl) pass0 (pa_cons (pv 1) (pa_cons pe_int pa_nil))))) (pw_or (pt_not (pt_val (pe_cal C_isLot (hr.mono (by decide)) (by rfl) pass0 (pa_cons (pv 0) (pa_cons (pe_ix ix_tup (pv 1) pe_int (fun _ _ => rfl)) pa_nil))))) (pw_or1 (pt_not (pt_val (pe_cal C_isTruth (hr.mono (by decide)) (by rfl) pass0 (pa_cons (pv 0) (pa_cons (pe_ix ix_tup (pv 1) pe_int (fun _ _ => rfl)) pa_nil))))))))) (pss_one (ps_ret pe_bl)) pss_nil)
    (pss_one (ps_ret (pe_and (pe_cal C_isFraction (hr.mono (by decide)) (by rfl) pass0 (pa_cons (pe_ix ix_tup (pv 1) pe_int (fun _ _ => rfl)) pa_nil)) (pe_one (pe_cmpR op_gt (pe_cal C_signOf (hr.mono (by decide)) (by rfl) pass0 (pa_cons (pe_ix ix_tup (pv 1) pe_int (fun _ _ => rfl)) pa_nil)) pe_int (nomark _))))))), ?_⟩
  have hv : formD K C_Form (qsD qs) B v := hv
  have hv1 : dat K d B v1 := hv1
  have g : Good qs := g
  have sm : Sm b kk W d := sm
  have k : ∀ (v : V) (B' H' : Hp), Ext B H B' H' → dat K (.bool (tripleB qs d)) B' v → Q v H' := k
  cases ht : isTupD d 3 with
  | false =>
    have e : tripleB qs d = false := by
      unfold tripleB
      split
      · cases ht
      · rfl
    rw [e] at k
    refine s_ifS (b := true) (Dt.or (a := true) (b := true) (Dt.eq (Dt.not (Dt.tB (De.isTup (.var hv1 rfl) (De.int (n := 3))))) (by rw [ht]; rfl)) fun z => nomatch z) hB (fun _ B1 H1 e1 => ?_) fun z => nomatch z
    exact s_ret (De.bl (K := K)) e1.bh fun v B' H' e h => k v B' H' (e1.trans e) h
  | true =>
    obtain ⟨l, t, s, rfl⟩ := isTup3 ht
    have sl : Sm b kk W l := sm.elem (by simp)
    have ss : Sm b kk W s := sm.elem (by simp)
    have te : tripleB qs (.tuple [l, t, s]) = (partD (Fm.names qs) l && (isRowD qs 0 t && posFr s)) := rfl
    rw [te] at k
    refine s_ifS (b := !(partD (Fm.names qs) l && isRowD qs 0 t)) (Dt.or (a := false) (Dt.eq (Dt.not (Dt.tB (De.isTup (.var hv1 rfl) (De.int (n := 3))))) rfl) fun _ => Dt.eq (Dt.or (Dt.not (Dt.tB (De.lot (.var hv rfl) (De.op (r := rIxT K) (.var hv1 rfl) .int (Rv.ixTD (d := l) rfl)) (sl.shaped (by omega)) g))) fun _ => Dt.not (Dt.tB (De.row (.var hv rfl) (De.op (r := rIxT K) (.var hv1 rfl) .int (Rv.ixTD (d := t) rfl))))) bool_or_not) hB (fun t1 B1 H1 e1 => ?_) fun f1 B1 H1 e1 => ?_
    · have e : (partD (Fm.names qs) l && (isRowD qs 0 t && posFr s)) = false := by
        rw [← Bool.and_assoc, show (partD (Fm.names qs) l && isRowD qs 0 t) = false by simpa only [Bool.not_eq_true'] using t1]
        rfl
      rw [e] at k
      exact s_ret (De.bl (K := K)) e1.bh fun v B' H' e h => k v B' H' (e1.trans e) h
    · rw [← Bool.and_assoc, show (partD (Fm.names qs) l && isRowD qs 0 t) = true by simpa only [Bool.not_eq_false'] using f1, Bool.true_and] at k
      exact s_ret (De.posS (De.op (r := rIxT K) (.var (Mo.mo e1.bb hv1) rfl) .int (Rv.ixTD (d := s) rfl)) hb ss) e1.bh fun v B' H' e h => k v B' H' (e1.trans e) h
theorem sc_isSheetShare : FnScope ["form", "value"] ["form", "value"] (defScope s_isSheetShare) := ⟨rfl, rfl, rfl, by decide +kernel, rfl, by decide +kernel, by decide +kernel⟩
theorem ok_isSheetShare (D : Def K mg "is_sheet_share" s_isSheetShare ["form", "value"]) (C_isTupleOf : Cal P w K mg base CX0 1 "is_tuple_of" s_isTupleOf ["value", "many"] (sp_isTupleOf K)) (C_isSheet : Cal P w K mg base CX0 3 "is_sheet" s_isSheet ["form", "value"] (sp_isSheet K C_Form)) (C_isFraction : Cal P w K mg base CX0 3 "is_fraction" s_isFraction ["value"] (sp_isFraction K)) (C_signOf : Cal P w K mg base CX0 2 "sign_of" s_signOf ["one"] (sp_signOf K)) : Cal P w K mg base CX0 4 "is_sheet_share" s_isSheetShare ["form", "value"] (sp_isSheetShare K C_Form) := by
  refine D.ok sc_isSheetShare (fun vs H Q E h => ?_) (fun cdv f A outer s H vs Q E hr h => ?_)
  · exact pf_len h fun _ => rfl
  replace h := pf2 h
  obtain ⟨v, v1, B, ⟨qs, d⟩, rfl, hB, hv, hv1, ⟨b, kk, W, hb, hk, sm⟩, k⟩ := h
  refine ⟨_, (pss_cons (ps_if (PW.pt (pw_or (pt_not (pt_val (pe_cal C_isTupleOf (hr.mono (by decide)) (by rfl) pass0 (pa_cons (pv 1) (pa_cons pe_int pa_nil))))) (pw_or1 (pt_not (pt_val (pe_cal C_isSheet (hr.mono (by decide)) (by rfl) pass0 (pa_cons (pv 0) (pa_cons (pe_ix ix_tup (pv 1) pe_int (fun _ _ => rfl)) pa_nil)))))))) (pss_one (ps_ret pe_bl)) pss_nil)
    (pss_one (ps_ret (pe_and (pe_cal C_isFraction (hr.mono (by decide)) (by rfl) pass0 (pa_cons (pe_ix ix_tup (pv 1) pe_int (fun _ _ => rfl)) pa_nil)) (pe_one (pe_cmpR op_gt (pe_cal C_signOf (hr.mono (by decide)) (by rfl) pass0 (pa_cons (pe_ix ix_tup (pv 1) pe_int (fun _ _ => rfl)) pa_nil)) pe_int (nomark _))))))), ?_⟩
  have hv : formD K C_Form (qsD qs) B v := hv
  have hv1 : dat K d B v1 := hv1
  have sm : Sm b kk W d := sm
  have k : ∀ (v : V) (B' H' : Hp), Ext B H B' H' → dat K (.bool (pairB qs d)) B' v → Q v H' := k
  cases ht : isTupD d 2 with
  | false =>
    have e : pairB qs d = false := by
      unfold pairB
      split
      · cases ht
      · rfl
    rw [e] at k
    refine s_ifS (b := true) (Dt.or (a := true) (b := true) (Dt.eq (Dt.not (Dt.tB (De.isTup (.var hv1 rfl) (De.int (n := 2))))) (by rw [ht]; rfl)) fun z => nomatch z) hB (fun _ B1 H1 e1 => ?_) fun z => nomatch z
    exact s_ret (De.bl (K := K)) e1.bh fun v B' H' e h => k v B' H' (e1.trans e) h
  | true =>
    obtain ⟨l, s, rfl⟩ := isTup2 ht
    have ss : Sm b kk W s := sm.elem (by simp)
    have te : pairB qs (.tuple [l, s]) = (isRowD qs (-1) l && posFr s) := rfl
    rw [te] at k
    refine s_ifS (b := !isRowD qs (-1) l) (Dt.or (a := false) (Dt.eq (Dt.not (Dt.tB (De.isTup (.var hv1 rfl) (De.int (n := 2))))) rfl) fun _ => Dt.not (Dt.tB (De.sheet (.var hv rfl) (De.op (r := rIxT K) (.var hv1 rfl) .int (Rv.ixTD (d := l) rfl))))) hB (fun t1 B1 H1 e1 => ?_) fun f1 B1 H1 e1 => ?_
    · rw [show isRowD qs (-1) l = false by simpa using t1, Bool.false_and] at k
      exact s_ret (De.bl (K := K)) e1.bh fun v B' H' e h => k v B' H' (e1.trans e) h
    · rw [show isRowD qs (-1) l = true by simpa using f1, Bool.true_and] at k
      exact s_ret (De.posS (De.op (r := rIxT K) (.var (Mo.mo e1.bb hv1) rfl) .int (Rv.ixTD (d := s) rfl)) hb ss) e1.bh fun v B' H' e h => k v B' H' (e1.trans e) h
theorem De.keyE {σ : L2.St} {B : Hp} {te : TE} {ks : List PyData} {x : PyData} (h : De te σ B (dat K (.tuple (ks ++ [x])))) : De (L2.tSl (rSlA K) te tNoPart (tPart (tUn (rU fun i => .int (-i)) (tC (.int 1))))) σ B (dat K (.tuple ks)) :=
  De.eq (De.slT (lo := none) (hi := some (-1)) h .none (.some (K := K) (De.negI .int))) (by rw [cutA_init])
theorem atI_last' (ks : List PyData) (x : PyData) : atI (ks ++ [x]) (-1) = some x := atI_last _ _
theorem sc_sharesFault : FnScope ["rows", "right", "at", "row"] ["rows", "right"] (defScope s_sharesFault) := ⟨rfl, rfl, rfl, by decide +kernel, rfl, by decide +kernel, by decide +kernel⟩
theorem ok_sharesFault (D : Def K mg "shares_fault" s_sharesFault ["rows", "right"]) (n_enumerate : mg "enumerate" = none) (n_len : mg "len" = none) (C_totalOf : Cal P w K mg base CX0 4 "total_of" s_totalOf ["some"] (sp_totalOf K)) (m_ONE : mg "ONE" = some (.ref a_ONE)) (c_ONE : ∀ H, SqT K H a_ONE [.int 1, .int 1]) : Cal P w K mg base CX0 5 "shares_fault" s_sharesFault ["rows", "right"] (sp_sharesFault K) := by
  refine D.ok sc_sharesFault (fun vs H Q E h => ?_) (fun cdv f A outer s H vs Q E hr h => ?_)
  · exact pf_len h fun _ => rfl
  replace h := pf2 h
  obtain ⟨v, v1, B, ⟨p, ds⟩, rfl, hB, hv, hv1, ok, k⟩ := h
  refine ⟨_, (pss_cons (ps_for PassesOwn.never rfl (pi_enumT (by rfl) n_enumerate (pa_cons (pv 0) pa_nil)) (pg_tup rfl (pgs_cons (pg_name (i := 2) sc_sharesFault.nd rfl (Or.inl rfl)) (pgs_cons (pg_name (i := 3) sc_sharesFault.nd rfl (Or.inl rfl)) pgs_nil))) (pss_one (ps_if (PW.pt (pw_or (pt_not (pt_val (pe_ix ix_list (pv 1) (pv 2) (fun _ _ => rfl)))) (pw_or1 (PW.pt (pw_and (pt_cmpR op_gt (pv 2) pe_int (nomark _)) (pw_and1 (pt_cmpR (op_leA hr.units) (pe_slice sl_tupA (pv 3) po_none (po_some (pe_un un_neg pe_int))) (pe_slice sl_tupA (pe_ix ix_tup (pv 0) (pe_op op_sub (pv 2) pe_int) (fun _ _ => rfl)) po_none (po_some (pe_un un_neg pe_int))) (nomark _)))))))) (pss_one (ps_ret (pv 2))) pss_nil)))
    (pss_one (ps_ret (pe_ifExp (pt_cmpR (op_eqD hr.units) (pe_cal C_totalOf (hr.mono (by decide)) (by rfl) pass0 (pa_cons (pe_lc (own := [("row", 3)]) (g := gName 3) (tt := tYes) rfl sc_sharesFault.nd (pi_tup (pv 0)) (blkOk_by (own := [("row", 3)]) (N := ["rows", "right", "at", "row"]) (sc := defScope s_sharesFault) (by decide +kernel)) (fun _ _ _ _ _ => (pg_name (i := 3) sc_sharesFault.nd rfl (Or.inl rfl))) (fun _ _ _ _ _ => pts_nil) (fun _ _ _ _ _ => (pe_ix (r := rIxT K) ix_tup (pv 3) (pe_un un_neg pe_int) (fun _ _ => rfl)))) pa_nil)) (pe_glob (by rfl) m_ONE (show RelV (.ref a_ONE) (.ref a_ONE) from rfl)) (nomark _)) pe_non (pe_callB call_len (by rfl) n_len (by decide +kernel) (pa_cons (pv 0) pa_nil)))))), ?_⟩
  have hv : dat K (.tuple ds) B v := hv
  have hv1 : dat K (.list (ds.map fun d => .bool (p d))) B v1 := hv1
  have ok : SharesOk p ds := ok
  have k : ∀ (v : V) (B' H' : Hp), Ext B H B' H' → dat K (sharesFault p ds) B' v → Q v H' := k
  have line := sizeLine_eq
  have few := ok.few
  have ke : ∀ o, faultA p ltK ds = o → sharesFault p ds = (match o with | some i => .int (i : Int) | none => if sumR (ds.map fun d => ratOf (lastOf d)) = 1 then .none else .int (ds.length : Int)) := fun o ho => by
    unfold sharesFault
    rw [ho]
  refine s_forS (Di.enumTM (K := K) (as := ds) (f := fun d => d) (De.eq (d := .tuple ds) (.var hv rfl) (by rw [List.map_id']))) hB (fun i σ B => ∃ (v2 v3 : Option V), σ = [some v, some v1, v2, v3] ∧ ∀ j, j < i → okA p ltK ds j = true) (fun B' s => ⟨none, none, rfl, fun j h => absurd h (Nat.not_lt_zero j)⟩) ?_ ?_
  · rintro B3 H3 e3 i R x σ' Bc Bn Hn hR ⟨v2, v3, rfl, okk⟩ s e hx
    rw [List.getElem?_map] at hR
    obtain ⟨pr, hp, rfl⟩ := Option.map_eq_some_iff.mp hR
    rw [List.getElem?_zipIdx] at hp
    obtain ⟨q, hq, rfl⟩ := Option.map_eq_some_iff.mp hp
    obtain ⟨y, z, hy, hz, go⟩ := gTup2 e.bh hx
    refine go _ ?_
    have hy := dat_int hy
    subst hy
    rw [Nat.zero_add]
    have hz : dat K q Bn z := hz
    have hv := Mo.mo (e3.bb.trans e.bb) hv
    have hv1 := Mo.mo (e3.bb.trans e.bb) hv1
    have il : i < ds.length := (List.getElem?_eq_some_iff.mp hq).1
    have rt : De (tOp (rIxL K) (tVar 1) (tVar 2)) [some v, some v1, some (.int (i : Int)), some z] Bn (dat K (.bool (p q))) := De.op (r := rIxL K) (.var hv1 rfl) (.var (Dp.int (i : Int)) rfl) (Rv.ixLD (atI_nat (by rw [List.getElem?_map, hq]; rfl)))
    refine s_if (b := !okA p ltK ds i) ?_ e.bh (fun t B5 H5 e5 => ?_) fun f B5 H5 e5 => ⟨B5, e.trans e5, _, _, rfl, fun j hj => ?_⟩
    · cases wq : p q with
      | false =>
        rw [okA_bad hq wq]
        rw [wq] at rt
        exact Dt.or (a := true) (b := true) (Dt.eq (Dt.not (Dt.tB rt)) rfl) fun z => nomatch z
      | true =>
        rw [wq] at rt
        refine Dt.or (a := false) (Dt.eq (Dt.not (Dt.tB rt)) rfl) fun _ => ?_
        cases i with
        | zero =>
          rw [okA_zero hq, wq]
          exact Dt.and (a := false) (b := false) (Dt.eq (Dt.test (K := K) (De.op (.var (Dp.int ((0 : Nat) : Int)) rfl) (De.int (n := 0)) Rv.I0b)) rfl) fun z => nomatch z
        | succ j =>
          have hp : ds[j]? = some ds[j] := List.getElem?_eq_getElem (by omega)
          have wp := okA_ok hp (okk j (Nat.lt_succ_self j))
          have al := ok.al q (List.mem_of_getElem? hq) ds[j] (List.getElem_mem _) wq wp
          obtain ⟨ks, u, e1, _, _, dk⟩ := ok.form q (List.mem_of_getElem? hq) wq
          obtain ⟨ks', u', e2, _, _, dk'⟩ := ok.form ds[j] (List.getElem_mem _) wp
          rw [okA_succ hp hq, wq, Bool.true_and]
          have lt : ltK ds[j] q = PySem.W.dataLt (.tuple ks') (.tuple ks) := by
            unfold ltK
            rw [e1, e2, keyOf_cat, keyOf_cat]
          rw [lt]
          rw [e1, e2, keyOf_cat, keyOf_cat] at al
          rw [e1] at hz
          have hp' : ds[j]? = some (.tuple (ks' ++ [u'])) := by rw [hp, e2]
          exact Dt.and (a := true) (Dt.eq (Dt.test (K := K) (De.op (.var (Dp.int ((j + 1 : Nat) : Int)) rfl) (De.int (n := 0)) Rv.I0b)) (decide_eq_true (by omega))) fun _ => Dt.test (De.op (r := rLeA K) (De.keyE (.var hz rfl)) (De.keyE (De.op (r := rIxT K) (.var hv rfl) (De.eq (De.op (.var (Dp.int ((j + 1 : Nat) : Int)) rfl) .int Rv.I0) (e := .int (j : Int)) (by rw [show ((j + 1 : Nat) : Int) - 1 = (j : Int) by omega])) (Rv.ixTD (atI_nat hp')))) (Rv.leA al (fun z => nomatch z) dk))
    · have bad : okA p ltK ds i = false := by simpa using t
      have kk := ke _ (faultA_at il bad okk)
      rw [kk] at k
      exact s_ret (.var (Dp.int (i : Int)) rfl) e5.bh fun v B' H' e6 h => k v B' H' ((e3.trans (e.trans e5)).trans e6) h
    · by_cases ji : j = i
      · subst ji
        simpa using f
      · exact okk j (by omega)
  · rintro σ' B' H' e3 ⟨v2, v3, rfl, okk⟩
    rw [List.length_map, List.length_zipIdx] at okk
    have kk := ke _ (faultA_none okk)
    rw [kk] at k
    have hv := Mo.mo e3.bb hv
    have pd : ∀ d ∈ ds, p d = true := fun d hd => by
      obtain ⟨i, hi, rfl⟩ := List.mem_iff_getElem.mp hd
      exact okA_ok (List.getElem?_eq_getElem hi) (okk i hi)
    have fr : (ds.map fun d => lastOf d) = (ds.map fun d => ratOf (lastOf d)).map frD := by
      rw [List.map_map]
      refine List.map_congr_left fun d hd => ?_
      obtain ⟨ks, u, e1, pu, _, _⟩ := ok.form d hd (pd d hd)
      rw [e1]
      show lastOf (.tuple (ks ++ [u])) = frD (ratOf (lastOf (.tuple (ks ++ [u]))))
      rw [lastOf_cat]
      exact posFr_frD pu
    have sz : ∀ q ∈ ds.map fun d => ratOf (lastOf d), Sz 100 q := fun q hq => by
      obtain ⟨d, hd, rfl⟩ := List.mem_map.mp hq
      obtain ⟨ks, u, e1, _, su, _⟩ := ok.form d hd (pd d hd)
      rw [e1, lastOf_cat]
      exact su
    refine s_ret (De.iteD (b := decide (sumR (ds.map fun d => ratOf (lastOf d)) = 1)) (Dt.eq (Dt.test (De.op (r := rEqD K) (De.total (k := 100) (De.eq (De.lcA (K := K) (as := ds) (r := fun d => dat K d) (Di.tupD (.var hv rfl)) (fun d => lastOf d) (by omega) fun d x Bn Hn hd sn sh hx => ⟨[some v, some v1, v2, some x], fun Q q => q, rfl, ?_⟩) (by rw [fr])) (by decide) (by decide) (by rw [List.length_map]; omega) sz) (De.cstT c_ONE) (Rv.eqD (frD_shaped _) rfl))) ?_) (fun _ => .non) fun _ => De.lenT (.var hv rfl)) e3.bh fun v B H e h => k v B H (e3.trans e) ?_
    · obtain ⟨ks, u, e1, _, _, _⟩ := ok.form d hd (pd d hd)
      rw [e1] at hx
      rw [e1, lastOf_cat]
      exact De.op (r := rIxT K) (.var hx rfl) (De.negI .int) (Rv.ixTD (atI_last' _ _))
    · have o : (PyData.tuple [.int 1, .int 1]) = frD 1 := (den1 1).symm
      rw [o, frD_eqv]
    · by_cases z : sumR (ds.map fun d => ratOf (lastOf d)) = 1
      · rw [decide_eq_true z] at h
        dsimp only
        rw [if_pos z]
        exact h
      · rw [decide_eq_false z] at h
        dsimp only
        rw [if_neg z]
        exact h
end
end K05

set_option Elab.async false
set_option linter.all false
set_option maxRecDepth 100000
set_option maxHeartbeats 1000000
/-! K05g: books and tables of sheets of anything. -/
namespace K05
open PySem PySem.Spec PyProof.Rows L2 Wb Wv Fm Wf Fq
def OthC (K : PySem.W.Frag) (C C' : Addr) : Prop := PySem.W.kitOne K (.ref C') (.ref C) = some false
/-- == of what stands as a form -/
def eqV (b : Bool) (f : PyData) (b2 : Bool) (f2 : PyData) : Bool := if b then b2 && PyData.eqv f f2 else PyData.eqv f f2
def eqSV (way : Bool) (a : Bool × PyData × PyData) (t : SV) : Bool := match t with
  | .ins w b2 f2 r2 => (w == way) && (eqV a.1 a.2.1 b2 f2 && PyData.eqv a.2.2 r2)
  | .dat _ => false
def okSV (a : Bool × PyData × PyData) (t : SV) : Prop := match t with
  | .ins _ b2 f2 r2 => SeqAt.shaped a.2.1 = true ∧ SeqAt.shaped a.2.2 = true ∧ SeqAt.shaped f2 = true ∧ SeqAt.shaped r2 = true ∧ (a.1 = false → b2 = false)
  | .dat _ => True
abbrev sp_eqBook (K : PySem.W.Frag) (CF CB CS : Addr) : Sp := Pf (α := (Bool × PyData × PyData) × SV) (fun a => [bkR K CF CB a.1.1 a.1.2.1 a.1.2.2, svR K CF CB CS a.2]) (fun a => okSV a.1 a.2) (fun a => dat K (.bool (eqSV false a.1 a.2)))
abbrev sp_eqSheets (K : PySem.W.Frag) (CF CB CS : Addr) : Sp := Pf (α := (Bool × PyData × PyData) × SV) (fun a => [bkR K CF CS a.1.1 a.1.2.1 a.1.2.2, svR K CF CB CS a.2]) (fun a => okSV a.1 a.2) (fun a => dat K (.bool (eqSV true a.1 a.2)))
section
variable {P : Program} {w : World} {K : PySem.W.Frag} {mg : Str → Option Value} {base : Heap} {C_Form C_Book C_Sheets C_InvalidForm C_InvalidBook C_InvalidSheets C_InvalidSize C_BlankError a_ZERO a_ONE : Addr} {t_MOST_QUESTIONS : Tok}
theorem fldF {x : Str} {C : Addr} {σ : L2.St} {B : Hp} {te : TE} {b : Bool} {f r : PyData} (c : CalC P w K mg base x C ["form", "shares"]) (h : De te σ B (bkR K C_Form C b f r)) : De (tFld K te "form") σ B (valR K C_Form b f) := De.fld h c.c (c.na "form" (by simp)) rfl
theorem fldS {x : Str} {C : Addr} {σ : L2.St} {B : Hp} {te : TE} {b : Bool} {f r : PyData} (c : CalC P w K mg base x C ["form", "shares"]) (h : De te σ B (bkR K C_Form C b f r)) : De (tFld K te "shares") σ B (dat K r) := De.fld h c.c (c.na "shares" (by simp)) rfl
theorem De.eqV {σ : L2.St} {B : Hp} {ta tb : TE} {b b2 : Bool} {f f2 : PyData} (h : De ta σ B (valR K C_Form b f)) (h2 : De tb σ B (valR K C_Form b2 f2)) (s1 : SeqAt.shaped f = true) (s2 : SeqAt.shaped f2 = true) (nb : b = false → b2 = false) : De (tOp (rEqM K C_Form (sp_eqForm K C_Form)) ta tb) σ B (dat K (.bool (K05.eqV b f b2 f2))) := by
  cases b with
  | true =>
    have h : De ta σ B (formD K C_Form f) := h
    cases b2 with
    | true =>
      have h2 : De tb σ B (formD K C_Form f2) := h2
      exact De.op (r := rEqM K C_Form (sp_eqForm K C_Form)) h h2 (Rv.orL (Rv.eqIns (args := fun a : PyData × Bool × PyData => [formD K C_Form a.1, valR K C_Form a.2.1 a.2.2]) (pre := fun a => SeqAt.shaped a.1 = true ∧ SeqAt.shaped a.2.2 = true) (res := fun a => dat K (.bool (a.2.1 && PyData.eqv a.1 a.2.2))) (f, true, f2) ⟨s1, s2⟩ (fun B p q hp hq => ⟨p, [q], rfl, hp, q, [], rfl, hq, rfl⟩) rfl))
    | false =>
      have h2 : De tb σ B (dat K f2) := h2
      exact De.op (r := rEqM K C_Form (sp_eqForm K C_Form)) h h2 (Rv.orR (Rv.orL (Rv.eqDatY (args := fun a : PyData × Bool × PyData => [formD K C_Form a.1, valR K C_Form a.2.1 a.2.2]) (pre := fun a => SeqAt.shaped a.1 = true ∧ SeqAt.shaped a.2.2 = true) (res := fun a => dat K (.bool (a.2.1 && PyData.eqv a.1 a.2.2))) (f, false, f2) ⟨s1, s2⟩ (fun B p q hp hq => ⟨p, [q], rfl, hp, q, [], rfl, hq, rfl⟩) rfl)))
  | false =>
    have e := nb rfl
    subst e
    have h : De ta σ B (dat K f) := h
    have h2 : De tb σ B (dat K f2) := h2
    exact De.op (r := rEqM K C_Form (sp_eqForm K C_Form)) h h2 (Rv.orR (Rv.orR (Rv.eqD s1 s2)))
theorem sc_bookFault : FnScope ["value", "triple"] ["value"] (defScope s_bookFault) := ⟨rfl, rfl, rfl, by decide +kernel, rfl, by decide +kernel, by decide +kernel⟩
theorem ok_bookFault (D : Def K mg "book_fault" s_bookFault ["value"]) (K_Book : CalC P w K mg base "Book" C_Book ["form", "shares"]) (n_isinstance : mg "isinstance" = none) (C_isForm : Cal P w K mg base CX0 5 "is_form" s_isForm ["value"] (sp_isForm K C_Form)) (n_tuple : mg "tuple" = none) (C_sharesFault : Cal P w K mg base CX0 5 "shares_fault" s_sharesFault ["rows", "right"] (sp_sharesFault K)) (C_isTriple : Cal P w K mg base CX0 4 "is_triple" s_isTriple ["form", "value"] (sp_isTriple K C_Form)) (t_Book : IsiC K C_Book) (u_Book : NotC K C_Book) (t_Sheets : IsiC K C_Sheets) (u_SB : OthC K C_Book C_Sheets) (K_Sheets : CalC P w K mg base "Sheets" C_Sheets ["form", "shares"]) : Cal P w K mg base CX0 6 "book_fault" s_bookFault ["value"] (sp_bookFault K C_Form C_Book C_Sheets) := by
  refine D.ok sc_bookFault (fun vs H Q E h => ?_) (fun cdv f A outer s H vs Q E hr h => ?_)
  · exact pf_len h fun _ => rfl
  replace h := pf1 h
  obtain ⟨v, B, t, rfl, hB, hv, sh, k⟩ := h
  refine ⟨_, (pss_cons (ps_if (PW.pt (pw_or (pt_not (pt_val (pe_callB call_isi (by rfl) n_isinstance (by decide +kernel) (pa_cons (pv 0) (pa_cons (pe_glob (by rfl) K_Book.g (show RelV (.ref C_Book) (.ref C_Book) from rfl)) pa_nil))))) (pw_or (pt_not (pt_val (pe_cal C_isForm (hr.mono (by decide)) (by rfl) pass0 (pa_cons (pe_fld (pv 0) rfl) pa_nil)))) (pw_or1 (pt_not (pt_val (pe_callB call_isi (by rfl) n_isinstance (by decide +kernel) (pa_cons (pe_fld (pv 0) rfl) (pa_cons (pe_bltn (by rfl) n_tuple (by decide +kernel) (show RelV (.ty "tuple") (.type "tuple") from rfl)) pa_nil))))))))) (pss_one (ps_ret (pe_un un_neg pe_int))) pss_nil)
    (pss_one (ps_ret (pe_cal C_sharesFault (hr.mono (by decide)) (by rfl) pass0 (pa_cons (pe_fld (pv 0) rfl) (pa_cons (pe_lc (own := [("triple", 1)]) (g := gName 1) (tt := tYes) rfl sc_bookFault.nd (pi_tup (pe_fld (pv 0) rfl)) (blkOk_by (own := [("triple", 1)]) (N := ["value", "triple"]) (sc := defScope s_bookFault) (by decide +kernel)) (fun _ _ _ _ _ => (pg_name (i := 1) sc_bookFault.nd rfl (Or.inl rfl))) (fun _ _ _ _ _ => pts_nil) (fun _ _ _ _ _ => (pe_cal C_isTriple (hr.mono (by decide)) (by rfl) pass0 (pa_cons (show PE _ _ (tFld K _ "form") from pe_fld (pv 0) rfl) (pa_cons (pv 1) pa_nil))))) pa_nil)))))), ?_⟩
  have line := sizeLine_eq
  cases t with
  | dat d =>
    have hv : dat K d B v := hv
    refine s_ifS (b := true) (Dt.or (a := true) (b := true) (Dt.eq (Dt.not (Dt.tB (isiN u_Book (.var hv rfl)))) rfl) fun z => nomatch z) hB (fun _ B1 H1 e1 => ?_) fun z => nomatch z
    exact s_ret (De.negI (K := K) .int) e1.bh fun v B' H' e h => k v B' H' (e1.trans e) h
  | ins way b f r =>
    cases way with
    | true =>
      have hv : bkR K C_Form C_Sheets b f r B v := hv
      refine s_ifS (b := true) (Dt.or (a := true) (b := true) (Dt.eq (Dt.not (Dt.tB (isiO K_Sheets.c t_Sheets u_SB (.var hv rfl)))) rfl) fun z => nomatch z) hB (fun _ B1 H1 e1 => ?_) fun z => nomatch z
      exact s_ret (De.negI (K := K) .int) e1.bh fun v B' H' e h => k v B' H' (e1.trans e) h
    | false =>
      have hv : bkR K C_Form C_Book b f r B v := hv
      obtain ⟨sh, ro⟩ : Shorts f ∧ rOk r := sh
      have k : ∀ (v : V) (B' H' : Hp), Ext B H B' H' → dat K (if isNoneD (valFault b f) = true then rowsFault false (qsOf f) r else .int (-1)) B' v → Q v H' := k
      have isF : De (tCall (sp_isForm K C_Form) [] E0 (tCons (tFld K (tVar 0) "form") tNil)) [some v, none] B (dat K (.bool (isNoneD (valFault b f)))) := De.call (args := fun a : Bool × PyData => [valR K C_Form a.1 a.2]) (res := fun a => dat K (.bool (isNoneD (valFault a.1 a.2)))) (b, f) (.cons (fldF K_Book (.var hv rfl)) .nil) sh
      have isT : Dt (tNot (tB (tCB (rIsi K) (tCons (tVar 0) (tCons (tC (.ref C_Book)) tNil))))) [some v, none] B false := Dt.eq (Dt.not (Dt.tB (isiC K_Book.c t_Book (.var hv rfl)))) rfl
      cases nf : isNoneD (valFault b f) with
      | false =>
        rw [nf] at k isF
        refine s_ifS (b := true) (Dt.or (a := false) isT fun _ => Dt.or (a := true) (b := true) (Dt.eq (Dt.not (Dt.tB isF)) rfl) fun z => nomatch z) hB (fun _ B1 H1 e1 => ?_) fun z => nomatch z
        exact s_ret (De.negI (K := K) .int) e1.bh fun v B' H' e h => k v B' H' (e1.trans e) h
      | true =>
        rw [nf] at k isF
        have kq : ∀ (v : V) (B' H' : Hp), Ext B H B' H' → dat K (rowsFault false (qsOf f) r) B' v → Q v H' := k
        obtain ⟨rfl, fd⟩ : b = true ∧ faultD f = .none := by
          cases b with
          | false => cases nf
          | true =>
            refine ⟨rfl, ?_⟩
            rcases fault_kinds true f with e | ⟨i, e⟩
            · exact e
            · rw [e] at nf
              cases nf
        obtain ⟨qs, rfl, g⟩ := good_of fd
        rw [qsOf_D] at kq
        cases ht : isD "tuple" r with
        | false =>
          have e : rowsFault false qs r = .int (-1) := by cases r <;> first | rfl | cases ht
          rw [e] at kq
          refine s_ifS (b := true) (Dt.or (a := false) isT fun _ => Dt.or (a := false) (Dt.eq (Dt.not (Dt.tB isF)) rfl) fun _ => Dt.eq (Dt.not (Dt.tB (De.isi (fldS K_Book (.var hv rfl)) (by simp)))) (by rw [ht]; rfl)) hB (fun _ B1 H1 e1 => ?_) fun z => nomatch z
          exact s_ret (De.negI (K := K) .int) e1.bh fun v B' H' e h => kq v B' H' (e1.trans e) h
        | true =>
          obtain ⟨ds, rfl⟩ : ∃ ds, r = .tuple ds := by cases r <;> first | exact ⟨_, rfl⟩ | cases ht
          have kq : ∀ (v : V) (B' H' : Hp), Ext B H B' H' → dat K (sharesFault (keyB false qs) ds) B' v → Q v H' := kq
          refine s_skip (Dt.or (a := false) isT fun _ => Dt.or (a := false) (Dt.eq (Dt.not (Dt.tB isF)) rfl) fun _ => Dt.eq (Dt.not (Dt.tB (De.isi (fldS K_Book (.var hv rfl)) (by simp)))) rfl) hB fun B1 H1 e1 => ?_
          have hw := Mo.mo e1.bb hv
          have sok : SharesOk (keyB false qs) ds := keyB_ok ro
          obtain ⟨⟨b0, k0, W0, hb0, hk0, hW0, sm⟩, fw⟩ := ro
          have few := fw ds rfl
          refine s_ret (De.call (args := fun a : (PyData → Bool) × List PyData => [dat K (.tuple a.2), dat K (.list (a.2.map fun d => .bool (a.1 d)))]) (res := fun a => dat K (sharesFault a.1 a.2)) (keyB false qs, ds) (.cons (fldS K_Book (.var hw rfl)) (.cons (De.lcA (K := K) (as := ds) (r := fun d => dat K d) (Di.tupD (fldS K_Book (.var hw rfl))) (fun d => .bool (keyB false qs d)) (by omega) fun d x Bn Hn hd sn sh hx => ⟨[some v, some x], fun Q q => q, rfl, ?_⟩) .nil)) sok) e1.bh fun v B' H' e h => kq v B' H' (e1.trans e) h
          exact De.call (args := fun a : Qs × PyData => [formD K C_Form (qsD a.1), dat K a.2]) (res := fun a => dat K (.bool (tripleB a.1 a.2))) (qs, d) (.cons (fldF K_Book (b := true) (.var (Mo.mo sn hw) rfl)) (.cons (.var hx rfl) .nil)) ⟨g, b0, k0, W0, hb0, hk0, sm.elem hd⟩
theorem sc_isBook : FnScope ["value"] ["value"] (defScope s_isBook) := ⟨rfl, rfl, rfl, by decide +kernel, rfl, by decide +kernel, by decide +kernel⟩
theorem ok_isBook (D : Def K mg "is_book" s_isBook ["value"]) (C_bookFault : Cal P w K mg base CX0 6 "book_fault" s_bookFault ["value"] (sp_bookFault K C_Form C_Book C_Sheets)) : Cal P w K mg base CX0 7 "is_book" s_isBook ["value"] (sp_isBook K C_Form C_Book C_Sheets) := by
  refine D.ok sc_isBook (fun vs H Q E h => ?_) (fun cdv f A outer s H vs Q E hr h => ?_)
  · exact pf_len h fun _ => rfl
  replace h := pf1 h
  obtain ⟨v, B, t, rfl, hB, hv, sh, k⟩ := h
  refine ⟨_, (pss_one (ps_ret (pe_cmpR op_isN (pe_cal C_bookFault (hr.mono (by decide)) (by rfl) pass0 (pa_cons (pv 0) pa_nil)) pe_non (nomark _)))), ?_⟩
  exact s_ret (De.op (De.call (args := fun t : SV => [svR K C_Form C_Book C_Sheets t]) (res := fun t => dat K (svFault false t)) t (.cons (.var hv rfl) .nil) sh) .non Rv.isNone) hB k
theorem sc_needBook : FnScope ["value", "fault"] ["value"] (defScope s_needBook) := ⟨rfl, rfl, rfl, by decide +kernel, rfl, by decide +kernel, by decide +kernel⟩
theorem ok_needBook (D : Def K mg "need_book" s_needBook ["value"]) (C_bookFault : Cal P w K mg base CX0 6 "book_fault" s_bookFault ["value"] (sp_bookFault K C_Form C_Book C_Sheets)) (Z_InvalidBook : Err P w K mg base "InvalidBook" "at" C_InvalidBook (topE C_BlankError)) : Cal P w K mg base (L2.CX P w) 7 "need_book" s_needBook ["value"] (sp_needBook K C_Form C_Book C_Sheets C_InvalidBook) := by
  refine D.okX sc_needBook (fun vs H Q E h => ?_) (fun cdv f A outer s H vs Q E hr h => ?_)
  · obtain ⟨v, B, t, rfl, _⟩ := h
    rfl
  obtain ⟨v, B, t, rfl, hB, hv, sh, kr, kx⟩ := h
  refine ⟨_, (pss_cons (ps_set (i := 1) sc_needBook.nd rfl (Or.inl rfl) (pe_cal C_bookFault (hr.mono (by decide)) (by rfl) pass0 (pa_cons (pv 0) pa_nil)))
    (pss_one (ps_if (pt_cmpR op_notN (pv 1) pe_non (nomark _)) (pss_one (ps_raise rfl (takes_of rfl rfl rfl rfl) (pmk_E Z_InvalidBook hr (by decide) rfl (pa_cons (pv 1) pa_nil)))) pss_nil))), ?_⟩
  refine s_set (De.call (args := fun t : SV => [svR K C_Form C_Book C_Sheets t]) (res := fun t => dat K (svFault false t)) t (.cons (.var hv rfl) .nil) sh) hB fun u B1 H1 e1 h1 => ?_
  have h1 : dat K (svFault false t) B1 u := h1
  rcases svFault_kinds false t with e | ⟨i, e⟩
  · rw [e] at h1
    refine s_if (b := false) (Dt.eq (Dt.test (K := K) (De.op (.var h1 rfl) .non Rv.notNone)) rfl) e1.bh (fun z => nomatch z) fun _ B2 H2 e2 => ?_
    exact kr e .non B2 H2 (e1.trans e2) .non
  · rw [e] at h1
    refine s_if (b := true) (Dt.eq (Dt.test (K := K) (De.op (.var h1 rfl) .non Rv.notNone)) rfl) e1.bh (fun _ B2 H2 e2 => ?_) fun z => nomatch z
    have h1 := dat_int h1
    subst h1
    exact ⟨.int i, rfl, .int i, rfl, fun dx hdx => kx i e B2 H2 dx (e1.trans e2) hdx⟩
theorem eq_book {f : Addr} {fd : FuncData} (F : Fun K "__eq__" "Book.__eq__" (inClass (topS 34) 1) f fd) (n_isinstance : mg "isinstance" = none) (E_Form : CalE P w K mg base 1 C_Form (sp_eqForm K C_Form)) (K_Book : CalC P w K mg base "Book" C_Book ["form", "shares"]) (t_Book : IsiC K C_Book) (u_Book : NotC K C_Book) (K_Sheets : CalC P w K mg base "Sheets" C_Sheets ["form", "shares"]) (t_Sheets : IsiC K C_Sheets) (u_SB : OthC K C_Book C_Sheets) : FnOk P w K mg base CX0 2 f fd ["self", "other"] (sp_eqBook K C_Form C_Book C_Sheets) := by
  refine F.ok (N := ["self", "other"]) ⟨rfl, rfl, rfl, by decide +kernel, rfl, by decide +kernel, by decide +kernel⟩ (fun vs H Q E h => ?_) (fun cdv A outer s H vs Q E hr h => ?_)
  · exact pf_len h fun _ => rfl
  replace h := pf2 h
  obtain ⟨v, v1, B, ⟨⟨b, f, r⟩, t⟩, rfl, hB, hv, hv1, ok, k⟩ := h
  refine ⟨_, pss_one (ps_ret (pe_and (pe_callB call_isi (by rfl) n_isinstance (by decide +kernel) (pa_cons (pv 1) (pa_cons (pe_glob (by rfl) K_Book.g (show RelV (.ref C_Book) (.ref C_Book) from rfl)) pa_nil))) (pe_and (pe_cmpR (op_eqM E_Form (hr.mono (by decide)) hr.units) (pe_fld (pv 0) rfl) (pe_fld (pv 1) rfl) (nomark _)) (pe_one (pe_cmpR (op_eqD hr.units) (pe_fld (pv 0) rfl) (pe_fld (pv 1) rfl) (nomark _)))))), ?_⟩
  have hv : bkR K C_Form C_Book b f r B v := hv
  cases t with
  | ins way b2 f2 r2 =>
    cases way with
    | false =>
      have hv1 : bkR K C_Form C_Book b2 f2 r2 B v1 := hv1
      obtain ⟨s1, s2, s3, s4, nb⟩ : SeqAt.shaped f = true ∧ SeqAt.shaped r = true ∧ SeqAt.shaped f2 = true ∧ SeqAt.shaped r2 = true ∧ (b = false → b2 = false) := ok
      exact s_ret (De.andV (a := true) (isiC K_Book.c t_Book (.var hv1 rfl)) fun _ => De.andV (De.eqV (fldF K_Book (.var hv rfl)) (fldF K_Book (.var hv1 rfl)) s1 s3 nb) fun _ => De.op (r := rEqD K) (fldS K_Book (.var hv rfl)) (fldS K_Book (.var hv1 rfl)) (Rv.eqD s2 s4)) hB k
    | true =>
      have hv1 : bkR K C_Form C_Sheets b2 f2 r2 B v1 := hv1
      exact s_ret (De.andV (a := false) (b := false) (isiO K_Sheets.c t_Sheets u_SB (.var hv1 rfl)) fun z => nomatch z) hB k
  | dat d =>
    have hv1 : dat K d B v1 := hv1
    exact s_ret (De.andV (a := false) (b := false) (isiN u_Book (.var hv1 rfl)) fun z => nomatch z) hB k
theorem sc_sheetsFault : FnScope ["value", "pair"] ["value"] (defScope s_sheetsFault) := ⟨rfl, rfl, rfl, by decide +kernel, rfl, by decide +kernel, by decide +kernel⟩
theorem ok_sheetsFault (D : Def K mg "sheets_fault" s_sheetsFault ["value"]) (K_Sheets : CalC P w K mg base "Sheets" C_Sheets ["form", "shares"]) (n_isinstance : mg "isinstance" = none) (C_isForm : Cal P w K mg base CX0 5 "is_form" s_isForm ["value"] (sp_isForm K C_Form)) (n_tuple : mg "tuple" = none) (C_sharesFault : Cal P w K mg base CX0 5 "shares_fault" s_sharesFault ["rows", "right"] (sp_sharesFault K)) (C_isSheetShare : Cal P w K mg base CX0 4 "is_sheet_share" s_isSheetShare ["form", "value"] (sp_isSheetShare K C_Form)) (t_Sheets : IsiC K C_Sheets) (u_Sheets : NotC K C_Sheets) (t_Book : IsiC K C_Book) (u_BS : OthC K C_Sheets C_Book) (K_Book : CalC P w K mg base "Book" C_Book ["form", "shares"]) : Cal P w K mg base CX0 6 "sheets_fault" s_sheetsFault ["value"] (sp_sheetsFault K C_Form C_Book C_Sheets) := by
  refine D.ok sc_sheetsFault (fun vs H Q E h => ?_) (fun cdv f A outer s H vs Q E hr h => ?_)
  · exact pf_len h fun _ => rfl
  replace h := pf1 h
  obtain ⟨v, B, t, rfl, hB, hv, sh, k⟩ := h
  refine ⟨_, (pss_cons (ps_if (PW.pt (pw_or (pt_not (pt_val (pe_callB call_isi (by rfl) n_isinstance (by decide +kernel) (pa_cons (pv 0) (pa_cons (pe_glob (by rfl) K_Sheets.g (show RelV (.ref C_Sheets) (.ref C_Sheets) from rfl)) pa_nil))))) (pw_or (pt_not (pt_val (pe_cal C_isForm (hr.mono (by decide)) (by rfl) pass0 (pa_cons (pe_fld (pv 0) rfl) pa_nil)))) (pw_or1 (pt_not (pt_val (pe_callB call_isi (by rfl) n_isinstance (by decide +kernel) (pa_cons (pe_fld (pv 0) rfl) (pa_cons (pe_bltn (by rfl) n_tuple (by decide +kernel) (show RelV (.ty "tuple") (.type "tuple") from rfl)) pa_nil))))))))) (pss_one (ps_ret (pe_un un_neg pe_int))) pss_nil)
    (pss_one (ps_ret (pe_cal C_sharesFault (hr.mono (by decide)) (by rfl) pass0 (pa_cons (pe_fld (pv 0) rfl) (pa_cons (pe_lc (own := [("pair", 1)]) (g := gName 1) (tt := tYes) rfl sc_sheetsFault.nd (pi_tup (pe_fld (pv 0) rfl)) (blkOk_by (own := [("pair", 1)]) (N := ["value", "pair"]) (sc := defScope s_sheetsFault) (by decide +kernel)) (fun _ _ _ _ _ => (pg_name (i := 1) sc_sheetsFault.nd rfl (Or.inl rfl))) (fun _ _ _ _ _ => pts_nil) (fun _ _ _ _ _ => (pe_cal C_isSheetShare (hr.mono (by decide)) (by rfl) pass0 (pa_cons (show PE _ _ (tFld K _ "form") from pe_fld (pv 0) rfl) (pa_cons (pv 1) pa_nil))))) pa_nil)))))), ?_⟩
  have line := sizeLine_eq
  cases t with
  | dat d =>
    have hv : dat K d B v := hv
    refine s_ifS (b := true) (Dt.or (a := true) (b := true) (Dt.eq (Dt.not (Dt.tB (isiN u_Sheets (.var hv rfl)))) rfl) fun z => nomatch z) hB (fun _ B1 H1 e1 => ?_) fun z => nomatch z
    exact s_ret (De.negI (K := K) .int) e1.bh fun v B' H' e h => k v B' H' (e1.trans e) h
  | ins way b f r =>
    cases way with
    | false =>
      have hv : bkR K C_Form C_Book b f r B v := hv
      refine s_ifS (b := true) (Dt.or (a := true) (b := true) (Dt.eq (Dt.not (Dt.tB (isiO K_Book.c t_Book u_BS (.var hv rfl)))) rfl) fun z => nomatch z) hB (fun _ B1 H1 e1 => ?_) fun z => nomatch z
      exact s_ret (De.negI (K := K) .int) e1.bh fun v B' H' e h => k v B' H' (e1.trans e) h
    | true =>
      have hv : bkR K C_Form C_Sheets b f r B v := hv
      obtain ⟨sh, ro⟩ : Shorts f ∧ rOk r := sh
      have k : ∀ (v : V) (B' H' : Hp), Ext B H B' H' → dat K (if isNoneD (valFault b f) = true then rowsFault true (qsOf f) r else .int (-1)) B' v → Q v H' := k
      have isF : De (tCall (sp_isForm K C_Form) [] E0 (tCons (tFld K (tVar 0) "form") tNil)) [some v, none] B (dat K (.bool (isNoneD (valFault b f)))) := De.call (args := fun a : Bool × PyData => [valR K C_Form a.1 a.2]) (res := fun a => dat K (.bool (isNoneD (valFault a.1 a.2)))) (b, f) (.cons (fldF K_Sheets (.var hv rfl)) .nil) sh
      have isT : Dt (tNot (tB (tCB (rIsi K) (tCons (tVar 0) (tCons (tC (.ref C_Sheets)) tNil))))) [some v, none] B false := Dt.eq (Dt.not (Dt.tB (isiC K_Sheets.c t_Sheets (.var hv rfl)))) rfl
      cases nf : isNoneD (valFault b f) with
      | false =>
        rw [nf] at k isF
        refine s_ifS (b := true) (Dt.or (a := false) isT fun _ => Dt.or (a := true) (b := true) (Dt.eq (Dt.not (Dt.tB isF)) rfl) fun z => nomatch z) hB (fun _ B1 H1 e1 => ?_) fun z => nomatch z
        exact s_ret (De.negI (K := K) .int) e1.bh fun v B' H' e h => k v B' H' (e1.trans e) h
      | true =>
        rw [nf] at k isF
        have kq : ∀ (v : V) (B' H' : Hp), Ext B H B' H' → dat K (rowsFault true (qsOf f) r) B' v → Q v H' := k
        obtain ⟨rfl, fd⟩ : b = true ∧ faultD f = .none := by
          cases b with
          | false => cases nf
          | true =>
            refine ⟨rfl, ?_⟩
            rcases fault_kinds true f with e | ⟨i, e⟩
            · exact e
            · rw [e] at nf
              cases nf
        obtain ⟨qs, rfl, g⟩ := good_of fd
        rw [qsOf_D] at kq
        cases ht : isD "tuple" r with
        | false =>
          have e : rowsFault true qs r = .int (-1) := by cases r <;> first | rfl | cases ht
          rw [e] at kq
          refine s_ifS (b := true) (Dt.or (a := false) isT fun _ => Dt.or (a := false) (Dt.eq (Dt.not (Dt.tB isF)) rfl) fun _ => Dt.eq (Dt.not (Dt.tB (De.isi (fldS K_Sheets (.var hv rfl)) (by simp)))) (by rw [ht]; rfl)) hB (fun _ B1 H1 e1 => ?_) fun z => nomatch z
          exact s_ret (De.negI (K := K) .int) e1.bh fun v B' H' e h => kq v B' H' (e1.trans e) h
        | true =>
          obtain ⟨ds, rfl⟩ : ∃ ds, r = .tuple ds := by cases r <;> first | exact ⟨_, rfl⟩ | cases ht
          have kq : ∀ (v : V) (B' H' : Hp), Ext B H B' H' → dat K (sharesFault (keyB true qs) ds) B' v → Q v H' := kq
          refine s_skip (Dt.or (a := false) isT fun _ => Dt.or (a := false) (Dt.eq (Dt.not (Dt.tB isF)) rfl) fun _ => Dt.eq (Dt.not (Dt.tB (De.isi (fldS K_Sheets (.var hv rfl)) (by simp)))) rfl) hB fun B1 H1 e1 => ?_
          have hw := Mo.mo e1.bb hv
          have sok : SharesOk (keyB true qs) ds := keyB_ok ro
          obtain ⟨⟨b0, k0, W0, hb0, hk0, hW0, sm⟩, fw⟩ := ro
          have few := fw ds rfl
          refine s_ret (De.call (args := fun a : (PyData → Bool) × List PyData => [dat K (.tuple a.2), dat K (.list (a.2.map fun d => .bool (a.1 d)))]) (res := fun a => dat K (sharesFault a.1 a.2)) (keyB true qs, ds) (.cons (fldS K_Sheets (.var hw rfl)) (.cons (De.lcA (K := K) (as := ds) (r := fun d => dat K d) (Di.tupD (fldS K_Sheets (.var hw rfl))) (fun d => .bool (keyB true qs d)) (by omega) fun d x Bn Hn hd sn sh hx => ⟨[some v, some x], fun Q q => q, rfl, ?_⟩) .nil)) sok) e1.bh fun v B' H' e h => kq v B' H' (e1.trans e) h
          exact De.call (args := fun a : Qs × PyData => [formD K C_Form (qsD a.1), dat K a.2]) (res := fun a => dat K (.bool (pairB a.1 a.2))) (qs, d) (.cons (fldF K_Sheets (b := true) (.var (Mo.mo sn hw) rfl)) (.cons (.var hx rfl) .nil)) ⟨b0, k0, W0, hb0, hk0, sm.elem hd⟩
theorem sc_isSheets : FnScope ["value"] ["value"] (defScope s_isSheets) := ⟨rfl, rfl, rfl, by decide +kernel, rfl, by decide +kernel, by decide +kernel⟩
theorem ok_isSheets (D : Def K mg "is_sheets" s_isSheets ["value"]) (C_sheetsFault : Cal P w K mg base CX0 6 "sheets_fault" s_sheetsFault ["value"] (sp_sheetsFault K C_Form C_Book C_Sheets)) : Cal P w K mg base CX0 7 "is_sheets" s_isSheets ["value"] (sp_isSheets K C_Form C_Book C_Sheets) := by
  refine D.ok sc_isSheets (fun vs H Q E h => ?_) (fun cdv f A outer s H vs Q E hr h => ?_)
  · exact pf_len h fun _ => rfl
  replace h := pf1 h
  obtain ⟨v, B, t, rfl, hB, hv, sh, k⟩ := h
  refine ⟨_, (pss_one (ps_ret (pe_cmpR op_isN (pe_cal C_sheetsFault (hr.mono (by decide)) (by rfl) pass0 (pa_cons (pv 0) pa_nil)) pe_non (nomark _)))), ?_⟩
  exact s_ret (De.op (De.call (args := fun t : SV => [svR K C_Form C_Book C_Sheets t]) (res := fun t => dat K (svFault true t)) t (.cons (.var hv rfl) .nil) sh) .non Rv.isNone) hB k
theorem sc_needSheets : FnScope ["value", "fault"] ["value"] (defScope s_needSheets) := ⟨rfl, rfl, rfl, by decide +kernel, rfl, by decide +kernel, by decide +kernel⟩
theorem ok_needSheets (D : Def K mg "need_sheets" s_needSheets ["value"]) (C_sheetsFault : Cal P w K mg base CX0 6 "sheets_fault" s_sheetsFault ["value"] (sp_sheetsFault K C_Form C_Book C_Sheets)) (Z_InvalidSheets : Err P w K mg base "InvalidSheets" "at" C_InvalidSheets (topE C_BlankError)) : Cal P w K mg base (L2.CX P w) 7 "need_sheets" s_needSheets ["value"] (sp_needSheets K C_Form C_Book C_Sheets C_InvalidSheets) := by
  refine D.okX sc_needSheets (fun vs H Q E h => ?_) (fun cdv f A outer s H vs Q E hr h => ?_)
  · obtain ⟨v, B, t, rfl, _⟩ := h
    rfl
  obtain ⟨v, B, t, rfl, hB, hv, sh, kr, kx⟩ := h
  refine ⟨_, (pss_cons (ps_set (i := 1) sc_needSheets.nd rfl (Or.inl rfl) (pe_cal C_sheetsFault (hr.mono (by decide)) (by rfl) pass0 (pa_cons (pv 0) pa_nil)))
    (pss_one (ps_if (pt_cmpR op_notN (pv 1) pe_non (nomark _)) (pss_one (ps_raise rfl (takes_of rfl rfl rfl rfl) (pmk_E Z_InvalidSheets hr (by decide) rfl (pa_cons (pv 1) pa_nil)))) pss_nil))), ?_⟩
  refine s_set (De.call (args := fun t : SV => [svR K C_Form C_Book C_Sheets t]) (res := fun t => dat K (svFault true t)) t (.cons (.var hv rfl) .nil) sh) hB fun u B1 H1 e1 h1 => ?_
  have h1 : dat K (svFault true t) B1 u := h1
  rcases svFault_kinds true t with e | ⟨i, e⟩
  · rw [e] at h1
    refine s_if (b := false) (Dt.eq (Dt.test (K := K) (De.op (.var h1 rfl) .non Rv.notNone)) rfl) e1.bh (fun z => nomatch z) fun _ B2 H2 e2 => ?_
    exact kr e .non B2 H2 (e1.trans e2) .non
  · rw [e] at h1
    refine s_if (b := true) (Dt.eq (Dt.test (K := K) (De.op (.var h1 rfl) .non Rv.notNone)) rfl) e1.bh (fun _ B2 H2 e2 => ?_) fun z => nomatch z
    have h1 := dat_int h1
    subst h1
    exact ⟨.int i, rfl, .int i, rfl, fun dx hdx => kx i e B2 H2 dx (e1.trans e2) hdx⟩
theorem eq_sheets {f : Addr} {fd : FuncData} (F : Fun K "__eq__" "Sheets.__eq__" (inClass (topS 41) 1) f fd) (n_isinstance : mg "isinstance" = none) (E_Form : CalE P w K mg base 1 C_Form (sp_eqForm K C_Form)) (K_Sheets : CalC P w K mg base "Sheets" C_Sheets ["form", "shares"]) (t_Sheets : IsiC K C_Sheets) (u_Sheets : NotC K C_Sheets) (K_Book : CalC P w K mg base "Book" C_Book ["form", "shares"]) (t_Book : IsiC K C_Book) (u_BS : OthC K C_Sheets C_Book) : FnOk P w K mg base CX0 2 f fd ["self", "other"] (sp_eqSheets K C_Form C_Book C_Sheets) := by
  refine F.ok (N := ["self", "other"]) ⟨rfl, rfl, rfl, by decide +kernel, rfl, by decide +kernel, by decide +kernel⟩ (fun vs H Q E h => ?_) (fun cdv A outer s H vs Q E hr h => ?_)
  · exact pf_len h fun _ => rfl
  replace h := pf2 h
  obtain ⟨v, v1, B, ⟨⟨b, f, r⟩, t⟩, rfl, hB, hv, hv1, ok, k⟩ := h
  refine ⟨_, pss_one (ps_ret (pe_and (pe_callB call_isi (by rfl) n_isinstance (by decide +kernel) (pa_cons (pv 1) (pa_cons (pe_glob (by rfl) K_Sheets.g (show RelV (.ref C_Sheets) (.ref C_Sheets) from rfl)) pa_nil))) (pe_and (pe_cmpR (op_eqM E_Form (hr.mono (by decide)) hr.units) (pe_fld (pv 0) rfl) (pe_fld (pv 1) rfl) (nomark _)) (pe_one (pe_cmpR (op_eqD hr.units) (pe_fld (pv 0) rfl) (pe_fld (pv 1) rfl) (nomark _)))))), ?_⟩
  have hv : bkR K C_Form C_Sheets b f r B v := hv
  cases t with
  | ins way b2 f2 r2 =>
    cases way with
    | true =>
      have hv1 : bkR K C_Form C_Sheets b2 f2 r2 B v1 := hv1
      obtain ⟨s1, s2, s3, s4, nb⟩ : SeqAt.shaped f = true ∧ SeqAt.shaped r = true ∧ SeqAt.shaped f2 = true ∧ SeqAt.shaped r2 = true ∧ (b = false → b2 = false) := ok
      exact s_ret (De.andV (a := true) (isiC K_Sheets.c t_Sheets (.var hv1 rfl)) fun _ => De.andV (De.eqV (fldF K_Sheets (.var hv rfl)) (fldF K_Sheets (.var hv1 rfl)) s1 s3 nb) fun _ => De.op (r := rEqD K) (fldS K_Sheets (.var hv rfl)) (fldS K_Sheets (.var hv1 rfl)) (Rv.eqD s2 s4)) hB k
    | false =>
      have hv1 : bkR K C_Form C_Book b2 f2 r2 B v1 := hv1
      exact s_ret (De.andV (a := false) (b := false) (isiO K_Book.c t_Book u_BS (.var hv1 rfl)) fun z => nomatch z) hB k
  | dat d =>
    have hv1 : dat K d B v1 := hv1
    exact s_ret (De.andV (a := false) (b := false) (isiN u_Sheets (.var hv1 rfl)) fun z => nomatch z) hB k
end
end K05

set_option Elab.async false
set_option linter.all false
set_option maxRecDepth 100000
set_option maxHeartbeats 4000000
/-! the deal of a law: _law_source, _law_any, _law_of. -/
namespace K05
open PySem PySem.Spec PyProof.Rows L2 Wb
theorem ints_dp {K : PySem.W.Frag} {H : Hp} : ∀ cs : List Int, DpAll K H (cs.map V.int) (cs.map PyData.int)
  | [] => .nil
  | z :: cs => .cons (.int z) (ints_dp cs)
theorem ints_lay : ∀ cs : List Int, PyData.canLayAll0 (cs.map PyData.int) = true
  | [] => by simp [PyData.canLayAll0]
  | z :: cs => by simp [PyData.canLayAll0, PyData.canLay0, ints_lay cs]
theorem ints_depth : ∀ cs : List Int, PyData.depthAll (cs.map PyData.int) = 0
  | [] => by simp [PyData.depthAll]
  | z :: cs => by simp [PyData.depthAll, PyData.depth, ints_depth cs]
theorem ints_shaped (cs : List Int) : SeqAt.shaped (.list (cs.map PyData.int)) = true := by
  show (PyData.canLay0 (.list (cs.map PyData.int)) && decide (PyData.depth (.list (cs.map PyData.int)) ≤ 64)) = true
  rw [Bool.and_eq_true]
  refine ⟨by simp only [PyData.canLay0]; exact ints_lay cs, decide_eq_true ?_⟩
  simp only [PyData.depth, ints_depth]
  omega
theorem ints_eqv (cs : List Int) : PyData.eqv (.list (cs.map PyData.int)) (.list []) = cs.isEmpty := by
  cases cs with
  | nil => simp [PyData.eqv, PyData.eqvAll]
  | cons z r => simp [PyData.eqv, PyData.eqvAll]

section
variable {P : Program} {w : World} {K : PySem.W.Frag} {mg : Str → Option Value} {base : Heap}
theorem scAny : FnScope ["deal", "bound", "rest"] ["deal", "bound"] (defScope s_any) := ⟨rfl, rfl, rfl, by decide +kernel, rfl, by decide +kernel, by decide +kernel⟩

/-- how many cells are left -/
def left (c : Addr) (H : Hp) : Nat := match H c with
  | some (.lst xs) => xs.length
  | _ => 0

theorem okf_any {f : Addr} {fd : FuncData} (F : Fun K "_law_any" "_law_any" s_any f fd) (noInt : mg "int" = none) : FnOk P w K mg base CX0 1 f fd ["deal", "bound"] spAny := by
  refine F.ok scAny (fun vs H Q E h => ?_) (fun cdv A outer s H vs Q E hr h => ?_)
  · obtain ⟨d, c, bound, rfl, _⟩ := h
    rfl
  obtain ⟨d, c, bound, rfl, D, b0, b1, k⟩ := h
  refine ⟨_, pss_cons (ps_while PassesOwn.never (PW.pt (pw_and (pt_cmpR (op_neD hr.units) (pe_ix ix_list (pv 0) pe_int (fun _ _ => rfl)) (pe_lst pa_nil) (nomark _))
        (pw_and1 (pt_cmpR op_eq (pe_ix ix_list (pe_ix ix_list (pv 0) pe_int (fun _ _ => rfl)) (pe_un un_neg pe_int) (fun _ _ => rfl)) pe_int (nomark _)))))
      (pss_one (ps_expr (pe_bm0 PySem.F.plainAttrs_list PySem.F.slot_list_pop PySem.F.type_list_pop mt_pop (pe_ix ix_list (pv 0) pe_int (fun _ _ => rfl))))))
    (pss_cons (ps_if (pt_cmpR (op_neD hr.units) (pe_ix ix_list (pv 0) pe_int (fun _ _ => rfl)) (pe_lst pa_nil) (nomark _))
      (pss_cons (ps_set (i := 2) scAny.nd rfl (Or.inl rfl) (pe_callTy call_int1 (by rfl) noInt (by decide +kernel) (pa_cons (pe_bm0 PySem.F.plainAttrs_list PySem.F.slot_list_pop PySem.F.type_list_pop mt_pop (pe_ix ix_list (pv 0) pe_int (fun _ _ => rfl))) pa_nil)))
      (pss_cons (ps_expr (pe_bm PySem.F.plainAttrs_list PySem.F.slot_list_append PySem.F.type_list_append mt_append (pe_ix ix_list (pv 0) pe_int (fun _ _ => rfl)) (pa_cons (pe_op op_fdivW (pv 2) (pv 1)) pa_nil)))
      (pss_one (ps_ret (pe_op op_mod (pv 2) (pv 1)))))) pss_nil)
    (pss_cons (ps_asg (pe_op op_mod (pe_callTy call_int1 (by rfl) noInt (by decide +kernel) (pa_cons (pe_op op_add (pe_op op_mul (pe_ix ix_list (pv 0) pe_int (fun _ _ => rfl)) pe_int) pe_int) pa_nil)) pe_int) (pg_sub (pv 0) pe_int set_list))
    (pss_one (ps_ret (pe_op op_mod (pe_callTy call_int1 (by rfl) noInt (by decide +kernel) (pa_cons (pe_op op_fdiv (pe_ix ix_list (pv 0) pe_int (fun _ _ => rfl)) pe_int) pa_nil)) (pv 1))))))  , ?_⟩
  -- the cells that are 0 go
  refine whileI (fun σ H' => σ = [some (.ref d), some (.int bound), none] ∧ Deal H' d c ∧ Same (off H d c) (off H' d c))
    (fun σ H' => σ = [some (.ref d), some (.int bound), none] ∧ Deal H' d c ∧ Same (off H d c) (off H' d c)) (fun _ H' => left c H') ⟨rfl, D, Same.refl _⟩ ?_ ?_
  · -- behind it
    rintro σ G ⟨rfl, D', S'⟩
    obtain ⟨cs, mix, h1, h2, short, nn, m0, m1⟩ := D'.ex
    refine ⟨_, rfl, d, [.ref c, .int mix], 0, .ref c, rfl, rfl, SqL.of h1, rfl, ?_⟩
    refine ⟨Nat.zero_le _, fun l hl => ?_⟩
    have Sl : Same G (upd G l (.lst [])) := new_same hl
    have D2 : Deal (upd G l (.lst [])) d c := D'.same Sl
    have S2 : Same (off H d c) (off (upd G l (.lst [])) d c) := S'.trans (off_mono Sl)
    have h1' := Sl _ _ h1
    have h2' := Sl _ _ h2
    have ne := D'.ne
    refine ⟨.list (cs.map PyData.int), .list [], .lst (SqL.of h2') (ints_dp cs), .lst (SqL.of upd_same) .nil, ints_shaped cs, rfl, _, rfl, ?_⟩
    rw [ints_eqv]
    generalize upd G l (.lst []) = G2 at *
    rcases nil_or_last cs with rfl | ⟨ini, z, rfl⟩
    · -- no cell: the number goes on
      refine iteF ?_
      refine ⟨_, rfl, d, [.ref c, .int mix], 1, .int mix, rfl, rfl, SqL.of h1', rfl, ?_⟩
      refine ⟨_, _, rfl, rfl, .inl ⟨by omega, by omega⟩, _, _, rfl, rfl, .inl ⟨_, rfl, ?_⟩⟩
      refine ⟨_, _, rfl, rfl, (by show (0 : Int) < 2147483647; decide), ?_⟩
      refine ⟨_, rfl, d, [.ref c, .int mix], 1, 1, rfl, rfl, h1', rfl, ?_⟩
      obtain ⟨mix2, hm⟩ : ∃ mix2, mix2 = (mix * 48271 + 41) % 2147483647 := ⟨_, rfl⟩
      have at2 : upd G2 d (.lst ([V.ref c, V.int mix].set 1 (V.int ((mix * 48271 + 41) % 2147483647)))) d = some (.lst [.ref c, .int mix2]) := by
        rw [upd_same, hm]
        rfl
      have q0 : 0 ≤ mix2 := by omega
      have q1 : mix2 < 2147483647 := by omega
      refine ⟨_, rfl, d, [.ref c, .int mix2], 1, .int mix2, rfl, rfl, SqL.of at2, rfl, ?_⟩
      refine ⟨_, _, rfl, rfl, ⟨by decide, by decide⟩, .inl ⟨_, rfl, ?_⟩⟩
      refine ⟨_, rfl, _, _, rfl, rfl, b0, ?_⟩
      refine k _ _ (Int.emod_nonneg _ (by omega)) (Int.emod_lt_of_pos _ b0) ⟨[], mix2, at2, ?_, short, nn, q0, q1⟩ ?_
      · show upd G2 d _ c = _
        rw [upd_ne ne.symm]
        exact h2'
      · show Same _ (off (upd G2 d _) d c)
        rw [off_d]
        exact S2
    · -- a cell
      have e : (ini ++ [z]).isEmpty = false := by simp
      rw [e]
      refine iteT ?_
      have em : (ini ++ [z]).map V.int = ini.map V.int ++ [V.int z] := by simp
      rw [em] at h2'
      have z0 : 0 ≤ z := nn z (by simp)
      refine ⟨_, rfl, d, [.ref c, .int mix], 0, .ref c, rfl, rfl, SqL.of h1', rfl, .inl ⟨rfl, _, SqL.of h2'⟩, c, _, .int z, rfl, rfl, h2', by simp, .inl ⟨_, rfl, ?_⟩⟩
      rw [List.dropLast_concat]
      refine ⟨_, rfl, d, [.ref c, .int mix], 0, .ref c, rfl, rfl, SqL.of ((upd_ne ne).trans h1'), rfl, .inl ⟨rfl, _, SqL.of upd_same⟩, ?_⟩
      refine ⟨_, rfl, _, rfl, _, _, rfl, rfl, ?_, c, _, _, rfl, rfl, upd_same, ?_, ?_⟩
      · exact wide_div b0 (b := 300) (by omega) (by decide) (by decide)
      · rw [List.length_map, sizeLine_eq]
        simp at short
        omega
      refine ⟨_, rfl, _, rfl, _, _, rfl, rfl, b0, ?_⟩
      refine k _ _ (Int.emod_nonneg _ (by omega)) (Int.emod_lt_of_pos _ b0) ⟨ini ++ [z / bound], mix, ?_, ?_, ?_, ?_, m0, m1⟩ ?_
      · rw [upd_ne ne, upd_ne ne]
        exact h1'
      · rw [upd_same]
        simp
      · simpa using short
      · intro y hy
        rcases List.mem_append.mp hy with h | h
        · exact nn y (List.mem_append_left _ h)
        · simp at h
          rw [h]
          exact Int.ediv_nonneg z0 (by omega)
      · rw [off_c, off_c]
        exact S2
  · -- a turn
    rintro σ H' ⟨rfl, D', S'⟩ Y Z hY hZ
    obtain ⟨cs, mix, h1, h2, short, nn, m0, m1⟩ := D'.ex
    refine ⟨_, rfl, d, [.ref c, .int mix], 0, .ref c, rfl, rfl, SqL.of h1, rfl, ?_⟩
    refine ⟨Nat.zero_le _, fun l hl => ?_⟩
    have Sl : Same H' (upd H' l (.lst [])) := new_same hl
    have D2 : Deal (upd H' l (.lst [])) d c := D'.same Sl
    have S2 : Same (off H d c) (off (upd H' l (.lst [])) d c) := S'.trans (off_mono Sl)
    have h1' := Sl _ _ h1
    have h2' := Sl _ _ h2
    have len2 : left c H' = cs.length := by
      unfold left
      rw [h2]
      simp
    refine ⟨.list (cs.map PyData.int), .list [], .lst (SqL.of h2') (ints_dp cs), .lst (SqL.of upd_same) .nil, ints_shaped cs, rfl, _, rfl, ?_⟩
    rw [ints_eqv]
    generalize upd H' l (.lst []) = G at *
    rcases nil_or_last cs with rfl | ⟨ini, z, rfl⟩
    · refine iteF (iteF ?_)
      exact hZ _ ⟨rfl, D2, S2⟩
    · have e : (ini ++ [z]).isEmpty = false := by simp
      rw [e]
      refine iteT ?_
      have em : (ini ++ [z]).map V.int = ini.map V.int ++ [V.int z] := by simp
      rw [em] at h2'
      refine ⟨_, rfl, d, [.ref c, .int mix], 0, .ref c, rfl, rfl, SqL.of h1', rfl, 1, rfl, c, ini.map V.int ++ [V.int z], -1, .int z, rfl, rfl, SqL.of h2', atI_last _ _, rfl, _, rfl, ?_⟩
      refine ite2 (fun hz => ?_) (fun hz => ?_)
      · refine hY _ ?_
        refine ⟨_, rfl, d, [.ref c, .int mix], 0, .ref c, rfl, rfl, SqL.of h1', rfl, .inl ⟨rfl, _, SqL.of h2'⟩, c, _, .int z, rfl, rfl, h2', by simp, ?_⟩
        have ne := D2.ne
        refine ⟨⟨rfl, ⟨ini, mix, ?_, ?_, ?_, fun y hy => nn y (List.mem_append_left _ hy), m0, m1⟩, ?_⟩, ?_⟩
        · rw [upd_ne ne]
          exact h1'
        · rw [upd_same, List.dropLast_concat]
        · simp at short
          omega
        · rw [off_c]
          exact S2
        · rw [len2]
          unfold left
          rw [upd_same, List.dropLast_concat]
          simp
      · exact hZ _ ⟨rfl, D2, S2⟩
end
section
variable {P : Program} {w : World} {K : PySem.W.Frag} {mg : Str → Option Value} {base : Heap}
theorem scOf : FnScope ["deal", "some"] ["deal", "some"] (defScope s_of) := ⟨rfl, rfl, rfl, by decide +kernel, rfl, by decide +kernel, by decide +kernel⟩
theorem okf_of {f fA : Addr} {fd fdA : FuncData} (F : Fun K "_law_of" "_law_of" s_of f fd) (GA : FnOk P w K mg base CX0 1 fA fdA ["deal", "bound"] spAny) (mA : mg "_law_any" = some (.ref fA)) (kA : PySem.W.keepIn K (.ref fA) = true) (bA : Binds K fdA ["deal", "bound"] [])
    (noLen : mg "len" = none) : FnOk P w K mg base CX0 2 f fd ["deal", "some"] (spOf K) := by
  refine F.ok scOf (fun vs H Q E h => ?_) (fun cdv A outer s H vs Q E hr h => ?_)
  · obtain ⟨d, c, x, rfl, _⟩ := h
    rfl
  obtain ⟨d, c, x, rfl, D, k⟩ := h
  refine ⟨_, pss_one (ps_ret (pe_ix ix_seq (pv 1) (pe_call GA hr rfl mA kA bA .nil pass0 (pa_cons (pv 0) (pa_cons (pe_callB call_len (by rfl) noLen (by decide +kernel) (pa_cons (pv 1) pa_nil)) pa_nil))) (fun _ _ => rfl))), ?_⟩
  rcases k with ⟨p, xs, rfl, hs, ne, few, k⟩ | ⟨p, xs, rfl, hs, ne, few, k⟩ | ⟨z, rfl, ne, few, k⟩
  · have pos : 0 < xs.length := List.length_pos_iff.mpr ne
    refine ⟨_, rfl, _, rfl, _, rfl, _, xs.length, rfl, .inl ⟨xs, (off_le H d c).seq hs, rfl⟩, d, c, xs.length, rfl, D, by omega, by omega, fun r H' r0 r1 D' S' => ?_⟩
    obtain ⟨v, hv, at_⟩ := item_at r0 r1
    exact .inl ⟨p, xs, r, v, rfl, rfl, (off_le H' d c).seq (S'.seq hs), at_, k v H' hv D' S'⟩
  · have pos : 0 < xs.length := List.length_pos_iff.mpr ne
    refine ⟨_, rfl, _, rfl, _, rfl, _, xs.length, rfl, .inr ⟨xs, seqT (off_le H d c) hs, rfl⟩, d, c, xs.length, rfl, D, by omega, by omega, fun r H' r0 r1 D' S' => ?_⟩
    obtain ⟨v, hv, at_⟩ := item_at r0 r1
    exact .inr (.inl ⟨p, xs, r, v, rfl, rfl, seqT (off_le H' d c) (seqT S' hs), at_, k v H' hv D' S'⟩)
  · have line := sizeLine_eq
    refine ⟨_, rfl, _, rfl, _, rfl, _, z.length, rfl, ⟨by omega, rfl⟩, d, c, z.length, rfl, D, by omega, by omega, fun r H' r0 r1 D' S' => ?_⟩
    obtain ⟨j, rfl⟩ := Int.eq_ofNat_of_zero_le r0
    have hj : j < z.cps.toList.length := by
      have e : z.cps.toList.length = z.length := by simp [Str.length]
      omega
    exact .inr (.inr ⟨z, (j : Int), z.cps.toList[j], rfl, rfl, by omega, atI_nat (List.getElem?_eq_getElem hj), k _ H' (List.getElem_mem hj) D' S'⟩)

/-- _law_source(script): a new deal -/
def spSource (K : PySem.W.Frag) : Sp := fun vs H Q _ => ∃ (a : Addr) (ns : List Int), vs = [.ref a] ∧ SqL K H a (ns.map V.int) ∧ ns.length ≤ 63 ∧
  ∀ (d c : Addr) (H' : Hp), H d = none → H c = none → Deal H' d c → Same H H' → Q (.ref d) H'
theorem scSource : FnScope ["script", "cells", "blend", "cell"] ["script"] (defScope s_source) := ⟨rfl, rfl, rfl, by decide +kernel, rfl, by decide +kernel, by decide +kernel⟩
theorem okf_source {f : Addr} {fd : FuncData} (F : Fun K "_law_source" "_law_source" s_source f fd) (noInt : mg "int" = none) (noAbs : mg "abs" = none) : FnOk P w K mg base CX0 1 f fd ["script"] (spSource K) := by
  refine F.ok scSource (fun vs H Q E h => ?_) (fun cdv A outer s H vs Q E hr h => ?_)
  · obtain ⟨a, ns, rfl, _⟩ := h
    rfl
  obtain ⟨a, ns, rfl, hs, few, k⟩ := h
  refine ⟨_, pss_cons (ps_setLc (i := 1) (own := [("cell", 3)]) (g := gName 3) (tt := tYes) rfl scSource.nd rfl rfl (sw_true rfl rfl rfl (by decide +kernel)) (pi_list (pe_slice sl_list (pv 0) po_none (po_some pe_int)))
      (blkOk_by (own := [("cell", 3)]) (N := ["script", "cells", "blend", "cell"]) (sc := defScope s_source) (by decide +kernel)) (fun _ _ _ _ _ => pg_name (i := 3) scSource.nd rfl (Or.inl rfl)) (fun _ _ _ _ _ => pts_nil)
      (fun _ _ _ _ _ => pe_callB call_abs (by rfl) noAbs (by decide +kernel) (pa_cons (pe_callTy call_int1 (by rfl) noInt (by decide +kernel) (pa_cons (pv 3) pa_nil)) pa_nil)))
    (pss_cons (ps_set (i := 2) scSource.nd rfl (Or.inl rfl) pe_int)
    (pss_cons (ps_for PassesOwn.never rfl (pi_list (pv 1)) (pg_name (i := 3) scSource.nd rfl (Or.inl rfl))
      (pss_one (ps_set (i := 2) scSource.nd rfl (Or.inl rfl) (pe_op op_mod (pe_callTy call_int1 (by rfl) noInt (by decide +kernel) (pa_cons (pe_op op_add (pe_op op_add (pe_op op_mul (pv 2) pe_int) (pe_op op_mod (pv 3) pe_int)) pe_int) pa_nil)) pe_int))))
    (pss_one (ps_ret (pe_lst (pa_cons (pe_revL (pe_lc (own := [("cell", 3)]) (g := gName 3) rfl scSource.nd (pi_list (pv 1))
      (blkOk_by (own := [("cell", 3)]) (N := ["script", "cells", "blend", "cell"]) (sc := defScope s_source) (by decide +kernel)) (fun _ _ _ _ _ => pg_name (i := 3) scSource.nd rfl (Or.inl rfl))
      (fun _ _ _ _ _ => pts_one (pt_cmpR op_ge (pv 3) (pe_op op_pow pe_int pe_int) (nomark _))) (fun _ _ _ _ _ => pv 3))) (pa_cons (pv 2) pa_nil))))))), ?_⟩
  -- the slice
  refine ⟨_, rfl, 63, rfl, a, ns.map V.int, rfl, hs, fun p hp => ?_⟩
  obtain ⟨ms, em, fewM⟩ : ∃ ms : List Int, cutV (ns.map V.int) none (some 63) = ms.map V.int ∧ ms.length ≤ 63 := by
    refine ⟨(ns.drop (HT.sIx (ns.map V.int).length 0 none)).take (HT.sIx (ns.map V.int).length (ns.map V.int).length (some 63) - HT.sIx (ns.map V.int).length 0 none), ?_, ?_⟩
    · unfold cutV
      rw [List.map_take, List.map_drop]
    · rw [List.length_take, List.length_drop]
      omega
  rw [em]
  have Sp : Same H (upd H p (.lst (ms.map V.int))) := new_same hp
  have atp : upd H p (.lst (ms.map V.int)) p = some (.lst (ms.map V.int)) := upd_same
  generalize upd H p (.lst (ms.map V.int)) = H1 at *
  refine ⟨p, rfl, ⟨_, SqL.of atp⟩, fun D hD => ?_⟩
  -- the cells
  refine lc_list (K := K) (a := p) (xs := ms.map V.int) (fun i G => ∃ acc : List Int, G D = some (.lst (acc.map V.int)) ∧ acc.length = i ∧ (∀ z ∈ acc, 0 ≤ z) ∧ Same H1 G)
    ⟨[], upd_same, rfl, (fun z hz => nomatch hz), new_same hD⟩ (fun i G _ ⟨_, _, _, _, sg⟩ => sg.seq (SqL.of atp)) ?_ ?_
  · rintro i x G hx ⟨acc, hG, hi, hnn, sg⟩
    have hi' : i < ms.length := by
      have := (List.getElem?_eq_some_iff.mp hx).1
      simpa using this
    obtain ⟨z, rfl⟩ : ∃ z, x = V.int z := by
      rw [List.getElem?_map] at hx
      obtain ⟨z, _, e⟩ := Option.map_eq_some_iff.mp hx
      exact ⟨z, e.symm⟩
    refine ⟨rfl, ?_⟩
    refine ⟨_, rfl, .inl ⟨z, rfl, z, rfl, acc.map V.int, hG, ?_, acc ++ [if z < 0 then -z else z], ?_, ?_, ?_, ?_⟩⟩
    · rw [List.length_map, sizeLine_eq]
      omega
    · rw [upd_same]
      simp
    · simp [hi]
    · intro y hy
      rcases List.mem_append.mp hy with q | q
      · exact hnn y q
      · simp at q
        rw [q]
        split <;> omega
    · intro b' o e
      rw [upd_ne (ne_of_none e hD)]
      exact sg b' o e
  rintro G ⟨acc, hG, hi, hnn, sg⟩
  rw [List.length_map] at hi
  -- the first number
  refine ⟨_, rfl, D, rfl, ⟨_, SqL.of hG⟩, for_list (K := K) (a := D) (xs := acc.map V.int) (fun i σ G' => ∃ (mix : Int) (v : Option V), σ = [some (.ref a), some (.ref D), some (.int mix), v] ∧ 0 ≤ mix ∧ mix < 2147483647 ∧ G' = G)
    ⟨_, none, rfl, by omega, by omega, rfl⟩ (fun i σ G' _ ⟨_, _, _, _, _, e⟩ => by rw [e]; exact SqL.of hG) ?_ ?_⟩
  · rintro i y σ G' hy ⟨mix, v, rfl, q0, q1, rfl⟩
    obtain ⟨z, rfl⟩ : ∃ z, y = V.int z := by
      rw [List.getElem?_map] at hy
      obtain ⟨z, _, e⟩ := Option.map_eq_some_iff.mp hy
      exact ⟨z, e.symm⟩
    refine ⟨_, rfl, _, _, rfl, rfl, .inl ⟨by omega, by omega⟩, _, rfl, _, _, rfl, rfl, (by show (0 : Int) < 2147483549; decide), _, _, rfl, rfl, _, _, rfl, rfl, .inl ⟨_, rfl, ?_⟩⟩
    refine ⟨_, _, rfl, rfl, (by show (0 : Int) < 2147483647; decide), ?_⟩
    exact ⟨_, _, rfl, Int.emod_nonneg _ (by decide), Int.emod_lt_of_pos _ (by decide), rfl⟩
  rintro σ G' ⟨mix, v, rfl, q0, q1, rfl⟩
  -- the great cells, turned
  refine ⟨_, rfl, D, rfl, ⟨_, SqL.of hG⟩, fun D2 hD2 => ?_⟩
  refine lc_list (K := K) (a := D) (xs := acc.map V.int) (fun i G2 => ∃ big : List Int, G2 D2 = some (.lst (big.map V.int)) ∧ big.length ≤ i ∧ (∀ z ∈ big, 0 ≤ z) ∧ Same G' G2)
    ⟨[], upd_same, Nat.le_refl _, (fun z hz => nomatch hz), new_same hD2⟩ (fun i G2 _ ⟨_, _, _, _, s2⟩ => s2.seq (SqL.of hG)) ?_ ?_
  · rintro i x G2 hx ⟨big, hB, hl, hbn, s2⟩
    have hx2 := hx
    have hi' : i < acc.length := by
      have := (List.getElem?_eq_some_iff.mp hx).1
      simpa using this
    obtain ⟨z, hz, rfl⟩ : ∃ z, z ∈ acc ∧ x = V.int z := by
      rw [List.getElem?_map] at hx
      obtain ⟨z, hz, e⟩ := Option.map_eq_some_iff.mp hx
      exact ⟨z, List.mem_of_getElem? hz, e.symm⟩
    refine ⟨rfl, _, rfl, _, _, rfl, rfl, ⟨by decide, by decide, by decide⟩, _, _, rfl, rfl, _, rfl, ?_⟩
    refine ite2 (fun _ => ?_) (fun _ => ?_)
    · refine ⟨_, rfl, big.map V.int, hB, ?_, big ++ [z], ?_, ?_, ?_, ?_⟩
      · rw [List.length_map, sizeLine_eq]
        omega
      · rw [upd_same]
        simp
      · simp
        omega
      · intro y hy
        rcases List.mem_append.mp hy with q | q
        · exact hbn y q
        · simp at q
          rw [q]
          exact hnn z hz
      · intro b' o e
        rw [upd_ne (ne_of_none e hD2)]
        exact s2 b' o e
    · exact ⟨big, hB, by omega, hbn, s2⟩
  rintro G2 ⟨big, hB, hl, hbn, s2⟩
  rw [List.length_map] at hl
  refine ⟨D2, _, rfl, SqL.of hB, fun c hc => ?_⟩
  have Sc : Same G2 (upd G2 c (.lst (big.map V.int).reverse)) := new_same hc
  have atc : upd G2 c (.lst (big.map V.int).reverse) c = some (.lst (big.reverse.map V.int)) := by rw [upd_same, List.map_reverse]
  generalize upd G2 c (.lst (big.map V.int).reverse) = G3 at *
  refine ⟨_, rfl, (by show 2 ≤ sizeLine; decide), fun d hd => ?_⟩
  have S3 : Same H G3 := ((Sp.trans sg).trans s2).trans Sc
  have S4 : Same G3 (upd G3 d (.lst [.ref c, .int mix])) := new_same hd
  refine k d c _ (S3.free hd) (((Sp.trans sg).trans s2).free hc) ⟨big.reverse, mix, upd_same, S4 _ _ atc, ?_, ?_, q0, q1⟩ (S3.trans S4)
  · simp
    omega
  · intro z hz
    exact hbn z (List.mem_reverse.mp hz)
end
section
variable {P : Program} {w : World} {K : PySem.W.Frag} {mg : Str → Option Value} {base : Heap}
theorem ok_any (D : Def K mg "_law_any" s_any ["deal", "bound"]) (n_int : mg "int" = none) : Cal P w K mg base CX0 1 "_law_any" s_any ["deal", "bound"] spAny := by
  obtain ⟨f, fd, F, m, b, o⟩ := D
  exact ⟨f, fd, okf_any F n_int, m, F.kp, b, o⟩
theorem ok_of (D : Def K mg "_law_of" s_of ["deal", "some"]) (A : Cal P w K mg base CX0 1 "_law_any" s_any ["deal", "bound"] spAny) (n_len : mg "len" = none) : Cal P w K mg base CX0 2 "_law_of" s_of ["deal", "some"] (spOf K) := by
  obtain ⟨f, fd, F, m, b, o⟩ := D
  obtain ⟨fA, fdA, GA, mA, kA, bA, _⟩ := A
  exact ⟨f, fd, okf_of F GA mA kA bA n_len, m, F.kp, b, o⟩
theorem ok_source (D : Def K mg "_law_source" s_source ["script"]) (n_int : mg "int" = none) (n_abs : mg "abs" = none) : Cal P w K mg base CX0 1 "_law_source" s_source ["script"] (spSource K) := by
  obtain ⟨f, fd, F, m, b, o⟩ := D
  exact ⟨f, fd, okf_source F n_int n_abs, m, F.kp, b, o⟩
end
end K05

set_option Elab.async false
set_option linter.all false
set_option maxRecDepth 100000
set_option maxHeartbeats 4000000
/-! Wy3: a drawn comprehension whose list stays hidden. -/
namespace Wv
open PySem PySem.Spec PyProof.Rows L2 Wb
section
variable {α : Type} {R R1 R2 : α → Rel} {pre : α → Prop} {res : α → Rel} {vs : List V} {H : Hp} {Q : VK} {E : XK}
variable {K : PySem.W.Frag} {σ : L2.St} {B H : Hp} {te : TE} {tt : TT} {d c : Addr} {Q : VK}
theorem c_lcM {α : Type} {as : List α} {r : α → Rel} {wi : TI} {g : TG} {vs : List Nat} (L : Dl B H d c) (hi : Di wi σ B (as.map r)) (few : as.length < sizeLine) (Pv : Nat → List PyData → Prop) (h0 : Pv 0 [])
    (hs : ∀ i a v B1 H1 out, as[i]? = some a → Dl B1 H1 d c → Same B B1 → r a B1 v → Pv i out → ∀ (Y : V → Hp → Prop) (N : Hp → Prop), (∀ y B4 H4 x, ExtD d c B1 H1 B4 H4 → dat K x B4 y → Pv (i + 1) (out ++ [x]) → Y y H4) →
      (∀ B4 H4, ExtD d c B1 H1 B4 H4 → Pv (i + 1) out → N H4) → g v (wipe σ vs) H1 fun σ2 H2 => wipe σ2 vs = wipe σ vs ∧ tt σ2 H2 fun b H3 => if b = true then te σ2 H3 Y else N H3)
    (hd : ∀ out D xs B' H', ExtD d c B H B' H' → H D = none → Ml d c B' H' D xs → AllR (out.map (dat K)) B' xs → Pv as.length out → Q (.ref D) H') : tLc wi g tt te vs σ H Q := hi B H (Same.refl _) L.bh _ fun J B2 H2 e hw => fun D hD => by
  have eD := ExtD.of L e
  have hw' : Walk J as.length (fun H => Same B2 H) (fun i H x H' => ∃ R, (as.map r)[i]? = some R ∧ ∀ Bc, Same B2 Bc → Same Bc H → ∃ Bn, Ext Bc H Bn H' ∧ R Bn x) := by
    have := hw
    unfold Wk at this
    rw [List.length_map] at this
    exact this
  refine lc_it hw' (fun i H' => ∃ B' xs out, ExtD d c B2 H2 B' H' ∧ Ml d c B' H' D xs ∧ AllR (out.map (dat K)) B' xs ∧ Pv i out ∧ out.length ≤ i) ?_ (fun i H' _ ⟨B', xs, out, e', _⟩ => e'.bb.trans e'.bh) ?_ ?_
  · exact ⟨B2, [], [], (Ml.new eD.dl hD).2, (Ml.new eD.dl hD).1, rfl, h0, Nat.le_refl _⟩
  · rintro i x H' H'' hi' ⟨Bc, xs, out, e', m, hxs, pv, lo⟩ ⟨R, hR, y⟩
    obtain ⟨Bn, e2, hx⟩ := y Bc e'.bb e'.bh
    rw [List.getElem?_map] at hR
    obtain ⟨a, ha, rfl⟩ := Option.map_eq_some_iff.mp hR
    have e2 := ExtD.of e'.dl e2
    have e12 := e'.trans eD.dl e2
    have len := allR_len hxs
    rw [List.length_map] at len
    refine hs i a x Bn H'' out ha e2.dl ((eD.bb.trans e'.bb).trans e2.bb) hx pv _ _ (fun y B4 H4 z e4 hz pz => ?_) fun B4 H4 e4 pz => ?_
    · have e14 := e12.trans eD.dl e4
      have m4 := (m.ext e2).ext e4
      refine ⟨xs, m4.at_, by omega, B4, xs ++ [y], out ++ [z], e14.setL m4 hD, (Ml.set e4.dl m4).1, ?_, pz, by simp; omega⟩
      rw [List.map_append]
      exact allR_snoc (MoA.mo (e2.bb.trans e4.bb) hxs) hz
    · exact ⟨B4, xs, out, e12.trans eD.dl e4, (m.ext e2).ext e4, MoA.mo (e2.bb.trans e4.bb) hxs, pz, by omega⟩
  · rintro H' ⟨B', xs, out, e', m, hxs, pv, lo⟩
    have hBD : H D = none := by
      cases h : H D with
      | none => rfl
      | some o =>
        rw [e.hh D o h] at hD
        cases hD
    exact hd out D xs B' H' (eD.trans L e') hBD m hxs pv
end
end Wv

set_option Elab.async false
set_option linter.all false
set_option maxRecDepth 100000
set_option maxHeartbeats 4000000
/-! We8: ints or bools added, taken away, doubled; two rules at once; drawn slices. -/
namespace Wv
open PySem PySem.Spec PyProof.Rows L2 Wb
theorem opOr {X : Cx} {f : Value → Value → Sem Value} {r1 r2 : R2} (h1 : OpR X f r1) (h2 : OpR X f r2) : OpR X f (fun x y H Q => r1 x y H Q ∨ r2 x y H Q) := by
  intro pins s σ H x y v u Q I rx ry h
  rcases h with h | h
  · exact h1 pins s σ H x y v u Q I rx ry h
  · exact h2 pins s σ H x y v u Q I rx ry h
def numV (x : V) (i : Int) : Prop := x = .int i ∨ ∃ b : Bool, x = .bl b ∧ i = if b = true then 1 else 0
abbrev rAddBI : R2 := fun x y H Q => ∃ i j, numV x i ∧ y = .int j ∧ Q (.int (i + j)) H
abbrev rSubBI : R2 := fun x y H Q => ∃ i j, numV x i ∧ y = .int j ∧ Q (.int (i - j)) H
abbrev rSubIB : R2 := fun x y H Q => ∃ i j, x = .int i ∧ numV y j ∧ Q (.int (i - j)) H
abbrev rMulIB : R2 := fun x y H Q => ∃ i j, x = .int i ∧ numV y j ∧ CMul i j ∧ Q (.int (i * j)) H
section
variable {X : Cx}
theorem op_addBI : OpR X (binaryOp .Add) rAddBI := by
  intro pins s σ H x y v u Q I rx ry h
  obtain ⟨i, j, rfl | ⟨b, rfl, rfl⟩, rfl, q⟩ := h
  · exact op_add pins s σ H _ _ v u Q I rx ry ⟨i, j, rfl, rfl, q⟩
  · obtain ⟨t, rfl⟩ := ry
    cases (show v = Value.bool b from rx)
    exact IntBool.add_bool_int ⟨.int _, H, I.tok _, ⟨_, rfl⟩, q⟩
theorem op_subBI : OpR X (binaryOp .Sub) rSubBI := by
  intro pins s σ H x y v u Q I rx ry h
  obtain ⟨i, j, rfl | ⟨b, rfl, rfl⟩, rfl, q⟩ := h
  · exact op_sub pins s σ H _ _ v u Q I rx ry ⟨i, j, rfl, rfl, q⟩
  · obtain ⟨t, rfl⟩ := ry
    cases (show v = Value.bool b from rx)
    exact IntBool.sub_bool_int ⟨.int _, H, I.tok _, ⟨_, rfl⟩, q⟩
theorem op_subIB : OpR X (binaryOp .Sub) rSubIB := by
  intro pins s σ H x y v u Q I rx ry h
  obtain ⟨i, j, rfl, rfl | ⟨b, rfl, rfl⟩, q⟩ := h
  · exact op_sub pins s σ H _ _ v u Q I rx ry ⟨i, j, rfl, rfl, q⟩
  · obtain ⟨t, rfl⟩ := rx
    cases (show u = Value.bool b from ry)
    exact IntBool.sub_int_bool ⟨.int _, H, I.tok _, ⟨_, rfl⟩, q⟩
theorem op_mulIB : OpR X (binaryOp .Mult) rMulIB := by
  intro pins s σ H x y v u Q I rx ry h
  obtain ⟨i, j, rfl, rfl | ⟨b, rfl, rfl⟩, hc, q⟩ := h
  · exact op_mul pins s σ H _ _ v u Q I rx ry ⟨i, j, rfl, rfl, hc, q⟩
  · obtain ⟨t, rfl⟩ := rx
    cases (show u = Value.bool b from ry)
    exact IntBool.mul_int_bool ⟨.int _, H, I.tok _, ⟨_, rfl⟩, q⟩
end
def numOf (d : PyData) : Int := match d with
  | .int i => i
  | .bool b => if b = true then 1 else 0
  | _ => 0
section
variable {K : PySem.W.Frag} {σ : L2.St} {d c : Addr} {B H : Hp} {te ta tb tl : TE} {tt : TT} {S : Rel} {x : PyData} {j : Int}
theorem num_dat {v : V} (h : isD "int" x = true) (hv : dat K x B v) : numV v (numOf x) := by
  cases x with
  | int i => cases hv; exact .inl rfl
  | bool b => cases hv; exact .inr ⟨b, rfl, rfl⟩
  | _ => cases h
theorem Rv.addBI (h : isD "int" x = true) : Rv rAddBI B (dat K x) (dat K (.int j)) (dat K (.int (numOf x + j))) := fun u v B1 H _ s2 hx hy Q q =>
  ⟨_, j, num_dat h hx, dat_int hy, q _ B1 H (.refl s2) (.int _)⟩
theorem Rv.subBI (h : isD "int" x = true) : Rv rSubBI B (dat K x) (dat K (.int j)) (dat K (.int (numOf x - j))) := fun u v B1 H _ s2 hx hy Q q =>
  ⟨_, j, num_dat h hx, dat_int hy, q _ B1 H (.refl s2) (.int _)⟩
theorem Rv.subIB (h : isD "int" x = true) : Rv rSubIB B (dat K (.int j)) (dat K x) (dat K (.int (j - numOf x))) := fun u v B1 H _ s2 hx hy Q q =>
  ⟨j, _, dat_int hx, num_dat h hy, q _ B1 H (.refl s2) (.int _)⟩
theorem Rv.mulIB (h : isD "int" x = true) (hc : CMul j (numOf x)) : Rv rMulIB B (dat K (.int j)) (dat K x) (dat K (.int (j * numOf x))) := fun u v B1 H _ s2 hx hy Q q =>
  ⟨j, _, dat_int hx, num_dat h hy, hc, q _ B1 H (.refl s2) (.int _)⟩
theorem Dw.iteB {b : Bool} (h : Dt tt σ B b) (h1 : b = true → Dw ta σ d c B S) (h2 : b = false → Dw tb σ d c B S) : Dw (tIf tt ta tb) σ d c B S := fun B1 H s L Q q =>
  h B1 H s L.bh _ fun B2 H2 e => by
    have eL := ExtD.of L e
    cases b with
    | true => exact (h1 rfl) B2 H2 (s.trans e.bb) eL.dl Q fun v B3 H3 e3 hv => q v B3 H3 (eL.trans L e3) hv
    | false => exact (h2 rfl) B2 H2 (s.trans e.bb) eL.dl Q fun v B3 H3 e3 hv => q v B3 H3 (eL.trans L e3) hv
theorem slL_raw {ds : List PyData} {lo hi : Option Int} {v : V} {B1 H : Hp} (s2 : Same B1 H) (hx : dat K (.list ds) B1 v) {Q : VK} (q : ∀ u B' H', Ext B1 H B' H' → dat K (.list (cutA ds lo hi)) B' u → Q u H') : rSlL K v lo hi H Q := by
  obtain ⟨a, xs, rfl, hs, hR⟩ := dat_lstR hx
  refine ⟨a, xs, rfl, s2.seq hs, fun p hp => q _ (upd B1 p (.lst (cutV xs lo hi))) _ (.new s2 hp) ?_⟩
  have g := allR_dp hR
  have len : xs.length = ds.length := dpAll_len g
  refine .lst (SqL.of upd_same) (dpMonoAll (new_same (s2.free hp)) _ _ ?_)
  unfold cutV cutA
  rw [len]
  exact dpAll_take _ (dpAll_drop _ g)
/-- [.. ][:n], n drawn -/
theorem Dw.slTo {P : List PyData → Prop} {N : Int → Prop} (h : Dw te σ d c B (datP K (listOf P))) (hb : Dw tb σ d c B (intP N)) : Dw (L2.tSl (rSlL K) te tNoPart (tPart tb)) σ d c B (datP K (listOf fun ds => ∃ es n, P es ∧ N n ∧ ds = cutA es none (some n))) := fun B1 H s L Q q =>
  h B1 H s L _ fun v B2 H2 e ⟨x, ⟨ds, hx, hp⟩, hv⟩ => by
    subst hx
    refine hb B2 H2 (s.trans e.bb) e.dl _ fun u B3 H3 e3 ⟨n, hn, hu⟩ => ⟨n, hu, ?_⟩
    exact slL_raw e3.bh (Mo.mo (R := dat K (.list ds)) e3.bb hv) fun w B4 H4 e4 h4 => q w B4 H4 ((e.trans L e3).trans L (.of e3.dl e4)) ⟨_, ⟨_, rfl, ds, n, hp, hn, rfl⟩, h4⟩
theorem Dw.lcD {α : Type} {as : List α} {r : α → Rel} {wi : TI} {g : TG} {vs : List Nat} (hi : Di wi σ B (as.map r)) (few : as.length < sizeLine) (Pv : Nat → List PyData → Prop) (h0 : Pv 0 [])
    (hs : ∀ i a v B1 H1 out, as[i]? = some a → Dl B1 H1 d c → Same B B1 → r a B1 v → Pv i out → ∀ (Y : V → Hp → Prop) (N : Hp → Prop), (∀ y B4 H4 x, ExtD d c B1 H1 B4 H4 → dat K x B4 y → Pv (i + 1) (out ++ [x]) → Y y H4) → (∀ B4 H4, ExtD d c B1 H1 B4 H4 → Pv (i + 1) out → N H4) →
      g v (wipe σ vs) H1 fun σ2 H2 => wipe σ2 vs = wipe σ vs ∧ tt σ2 H2 fun b H3 => if b = true then te σ2 H3 Y else N H3) : Dw (tLc wi g tt te vs) σ d c B (datP K (listOf (Pv as.length))) := fun B1 H s L Q q =>
  c_lcD L (hi.mono s) few Pv h0 (fun i a v B2 H2 out ha L2 s2 hv hp Y N hY hN => hs i a v B2 H2 out ha L2 (s.trans s2) hv hp Y N hY hN) fun out v B' H' e hp hv => q v B' H' e ⟨_, ⟨out, rfl, hp⟩, hv⟩
/-- [x], (x,), x drawn -/
theorem Dw.tup1L {P : PyData → Prop} (h : Dw te σ d c B (datP K P)) : Dw (tLst (tCons te tNil)) σ d c B (datP K (listOf fun ds => ∃ x, P x ∧ ds = [x])) := fun B1 H s L Q q =>
  h B1 H s L _ fun v B2 H2 e ⟨x, hp, hv⟩ => ⟨by show 1 ≤ sizeLine; decide, fun p hp2 => q _ (upd B2 p (.lst [v])) _ (e.trans L (.of e.dl (.new e.bh hp2))) ⟨_, ⟨[x], rfl, x, hp, rfl⟩, .lst (SqL.of upd_same) (.cons (dpMono (new_same (e.bh.free hp2)) _ _ hv) .nil)⟩⟩
theorem Dw.tup1 {P : PyData → Prop} (h : Dw te σ d c B (datP K P)) : Dw (tTup (tCons te tNil)) σ d c B (datP K (tupOf fun ds => ∃ x, P x ∧ ds = [x])) := fun B1 H s L Q q =>
  h B1 H s L _ fun v B2 H2 e ⟨x, hp, hv⟩ => ⟨by show 1 ≤ sizeLine; decide, fun p hp2 => q _ (upd B2 p (.tup [v])) _ (e.trans L (.of e.dl (.new e.bh hp2))) ⟨_, ⟨[x], rfl, x, hp, rfl⟩, .tup (SqT.of upd_same) (.cons (dpMono (new_same (e.bh.free hp2)) _ _ hv) .nil)⟩⟩
theorem Rv.catTP {P P' : List PyData → Prop} (hz : ∀ a b, P a → P' b → a.length + b.length ≤ sizeLine) : Rv (rCatA K) B (datP K (tupOf P)) (datP K (tupOf P')) (datP K (tupOf fun ds => ∃ a b, P a ∧ P' b ∧ ds = a ++ b)) := fun u v B1 H s1 s2 ⟨x, ⟨a, hx, ha⟩, hu⟩ ⟨y, ⟨b, hy, hb⟩, hv⟩ Q q => by
  subst hx hy
  exact Rv.catT (K := K) (hz a b ha hb) u v B1 H s1 s2 hu hv Q fun w B' H' e hw => q w B' H' e ⟨_, ⟨_, rfl, a, b, ha, hb, rfl⟩, hw⟩
theorem Rv.catLP {P P' : List PyData → Prop} (hz : ∀ a b, P a → P' b → a.length + b.length ≤ sizeLine) : Rv (rCatS K) B (datP K (listOf P)) (datP K (listOf P')) (datP K (listOf fun ds => ∃ a b, P a ∧ P' b ∧ ds = a ++ b)) := fun u v B1 H s1 s2 ⟨x, ⟨a, hx, ha⟩, hu⟩ ⟨y, ⟨b, hy, hb⟩, hv⟩ Q q => by
  subst hx hy
  exact Rv.catS (K := K) (hz a b ha hb) u v B1 H s1 s2 hu hv Q fun w B' H' e hw => q w B' H' e ⟨_, ⟨_, rfl, a, b, ha, hb, rfl⟩, hw⟩
end
end Wv

set_option Elab.async false
set_option linter.all false
set_option maxRecDepth 100000
set_option maxHeartbeats 4000000
/-! K05h: drawn names, forms, rows; lots, fractions. -/
namespace K05
open PySem PySem.Spec PyProof.Rows L2 Wb Wv Fm Wf Fq
theorem grown_rows (rows : List (List Int)) (vals : List Int) : (rows.flatMap fun a => vals.map fun v => rowD (a ++ [v])) = (grow1 rows vals).map rowD := by
  unfold grow1
  rw [List.map_flatMap]
  congr 1
  funext a
  rw [List.map_map]
  rfl
def Small (qs : Qs) : Prop := qs.length ≤ 4 ∧ ∀ q ∈ qs, q.2 ≤ 4
abbrev sp_lrows (K : PySem.W.Frag) : Sp := Pf (α := Qs × Int) (fun a => [dat K (qsD a.1), dat K (.int a.2)]) (fun a => Small a.1 ∧ -1 ≤ a.2 ∧ a.2 ≤ 0) (fun a => dat K (rowsL (grow (a.1.map fun q => rng a.2 ((q.2 : Int) - a.2).toNat))))
def strR (P : Str → Prop) : Rel := fun _ v => ∃ z, P z ∧ v = .str z
abbrev sp_lname (K : PySem.W.Frag) : Sp := DPf (α := Unit) (fun _ => []) (fun _ => True) (fun _ => strR (NmL 1 8))
theorem strs_vals {K : PySem.W.Frag} {B : Hp} : ∀ {zs : List Str} {xs : List V}, AllR ((zs.map PyData.str).map (dat K)) B xs → xs = zs.map V.str
  | [], _, h => h
  | z :: zs, _, h => by
    obtain ⟨v, r, rfl, h1, h2⟩ := h
    rw [dat_str h1, strs_vals h2]
    rfl
def NmsOk (n : Nat) (zs : List Str) : Prop := zs.length = n ∧ zs.Nodup ∧ ∀ z ∈ zs, NmL 1 8 z
theorem NmL.n17 {z : Str} (h : NmL 1 8 z) : Nmk 17 z := h.nmk.mono (by decide)
def namesR (K : PySem.W.Frag) (n : Nat) : Rel := fun B v => ∃ zs, NmsOk n zs ∧ zs.Pairwise Sl ∧ dat K (.list (zs.map .str)) B v
abbrev sp_lnames (K : PySem.W.Frag) : Sp := DPf (α := Nat) (fun n => [dat K (.int (n : Int))]) (fun n => n ≤ 8) (namesR K)
structure FOk (qs : Qs) : Prop where
  pos : 1 ≤ qs.length
  few : qs.length ≤ 3
  two : ∀ q ∈ qs, 2 ≤ q.2 ∧ q.2 ≤ 3
  nm : ∀ z ∈ Fm.names qs, NmL 1 8 z
  asc : (Fm.names qs).Pairwise Sl
def NsOk (ds : List PyData) : Prop := ∃ zs : List Str, ds = zs.map .str ∧ 1 ≤ zs.length ∧ zs.length ≤ 3 ∧ (∀ z ∈ zs, NmL 1 8 z) ∧ zs.Pairwise Sl
def QsP (ds : List PyData) : Prop := ∃ qs : Qs, ds = qs.map encQ ∧ FOk qs
abbrev sp_lform (K : PySem.W.Frag) : Sp := DPf (α := Unit) (fun _ => [dat K (.int 3)]) (fun _ => True) (fun _ => datP K (tupOf QsP))
theorem mkQ : ∀ {zs : List Str} {ds : List PyData}, Each (fun z x => ∃ m : Nat, x = encQ (z, m) ∧ 2 ≤ m ∧ m ≤ 3) zs ds → ∃ qs : Qs, ds = qs.map encQ ∧ Fm.names qs = zs ∧ ∀ q ∈ qs, 2 ≤ q.2 ∧ q.2 ≤ 3 := by
  intro zs
  induction zs with
  | nil =>
    intro ds h
    have : ds = [] := List.eq_nil_of_length_eq_zero h.1
    subst this
    exact ⟨[], rfl, rfl, fun q h => nomatch h⟩
  | cons z zs ih =>
    intro ds h
    cases ds with
    | nil => cases h.1
    | cons y ds =>
      obtain ⟨m, hy, hm⟩ := h.2 0 z y rfl rfl
      obtain ⟨qs, e1, e2, e3⟩ := ih (ds := ds) ⟨Nat.succ.inj h.1, fun i a x ha hx => h.2 (i + 1) a x (by simpa using ha) (by simpa using hx)⟩
      refine ⟨(z, m) :: qs, by rw [hy, e1]; rfl, by unfold Fm.names at *; rw [List.map_cons, e2], fun q hq => ?_⟩
      rcases List.mem_cons.mp hq with rfl | hq
      · exact hm
      · exact e3 q hq
theorem mkQs {zs : List Str} {ds : List PyData} (h : Each (fun z x => ∃ m : Nat, x = encQ (z, m) ∧ 2 ≤ m ∧ m ≤ 3) zs ds) (z1 : 1 ≤ zs.length) (z3 : zs.length ≤ 3) (hz : ∀ z ∈ zs, NmL 1 8 z) (hs : zs.Pairwise Sl) : QsP ds := by
  obtain ⟨qs, e, en, hq⟩ := mkQ h
  have ln : qs.length = zs.length := by
    rw [← en]
    unfold Fm.names
    rw [List.length_map]
  exact ⟨qs, e, by omega, by omega, hq, by rw [en]; exact hz, by rw [en]; exact hs⟩
theorem Dw.lcL {K : PySem.W.Frag} {σ : L2.St} {B : Hp} {d c : Addr} {tl te : TE} {g : TG} {vs : List Nat} {P0 : List PyData → Prop} {S : Rel} (h : Dw tl σ d c B (datP K (listOf P0))) (k : ∀ a ds B', P0 ds → Same B B' → dat K (.list ds) B' (.ref a) → Dw (tLc (fun _ H R => R (Itl K a) H) g tYes te vs) σ d c B' S) :
    Dw (tLc (iList K tl) g tYes te vs) σ d c B S := fun B1 H s L Q q =>
  h B1 H s L _ fun v B2 H2 e ⟨x, ⟨ds, hx, hp⟩, hv⟩ => by
    subst hx
    have hv' := hv
    obtain ⟨a, xs, rfl, hs, hR⟩ := dat_lstR hv'
    exact ⟨a, rfl, ⟨xs, e.bh.seq hs⟩, k a ds B2 hp (s.trans e.bb) hv B2 H2 (Same.refl _) e.dl Q fun v B3 H3 e3 h3 => q v B3 H3 (e.trans L e3) h3⟩
/-- thrice a sign -/
def thrice : List Str := (Str.ofString "abcdefghij").cps.toList.map fun c => mulS ⟨#[c]⟩ 3
theorem thrice_nodup : thrice.Nodup := by decide +kernel
theorem thrice_nm : ∀ z ∈ thrice, NmL 1 8 z := by
  have : ∀ z ∈ thrice, 1 ≤ z.length ∧ z.length ≤ 8 ∧ ∀ c ∈ z.cps.toList, 97 ≤ c ∧ c ≤ 122 := by decide +kernel
  exact this
theorem spare_ne {zs : List Str} (h : zs.length < 10) : thrice.filter (fun z => !decide (z ∈ zs)) ≠ [] := by
  intro e
  have all : ∀ z ∈ thrice, z ∈ zs := fun z hz => by
    have := List.filter_eq_nil_iff.mp e z hz
    simpa using this
  have := nodup_len thrice_nodup all
  have l : thrice.length = 10 := by decide +kernel
  omega
theorem alike_str (zs : List Str) : PySem.W.AllAlike (zs.map .str) := by
  intro d hd d' hd'
  obtain ⟨a, _, rfl⟩ := List.mem_map.mp hd
  obtain ⟨b, _, rfl⟩ := List.mem_map.mp hd'
  simp only [PySem.W.alike]
theorem sortok_str (zs : List Str) : PySem.W.SortOk (zs.map .str) := .inr fun d hd => by
  obtain ⟨a, _, rfl⟩ := List.mem_map.mp hd
  exact ⟨(fun z => nomatch z), (fun _ z => nomatch z)⟩
theorem depth_str (zs : List Str) : ∀ d ∈ zs.map PyData.str, d.depth ≤ 60 := fun d hd => by
  obtain ⟨a, _, rfl⟩ := List.mem_map.mp hd
  simp [PyData.depth]
theorem strs_dpAll {K : PySem.W.Frag} {H : Hp} : ∀ zs : List Str, DpAll K H (zs.map V.str) (zs.map PyData.str)
  | [] => .nil
  | z :: zs => .cons (.str z) (strs_dpAll zs)
abbrev sp_lsubsets (K : PySem.W.Frag) : Sp := Pf (α := List Str) (fun l => [dat K (.list (l.map .str))]) (fun l => l.length ≤ 4) (fun l => dat K (.list (sortD ((subs l).map lotD))))
abbrev sp_lcommon (K : PySem.W.Frag) : Sp := Pf (α := Int × Int) (fun a => [dat K (.int a.1), dat K (.int a.2)]) (fun a => a.2.natAbs < 2 ^ 4000) (fun a => dat K (.int ((Nat.gcd a.1.natAbs a.2.natAbs : Nat) : Int)))
abbrev sp_llow (K : PySem.W.Frag) : Sp := Pf (α := Int × Int) (fun a => [dat K (.int a.1), dat K (.int a.2)]) (fun a => 0 < a.2 ∧ a.2.natAbs < 2 ^ 4000) (fun a => dat K (frD (Rat.divInt a.1 a.2)))
section
variable {P : Program} {w : World} {K : PySem.W.Frag} {mg : Str → Option Value} {base : Heap} {C_Form C_Book C_Sheets C_InvalidSize C_BlankError : Addr}
theorem sc_lname : FnScope ["deal", "letters", "stem", "at", "turn"] ["deal"] (defScope s_lname) := ⟨rfl, rfl, rfl, by decide +kernel, rfl, by decide +kernel, by decide +kernel⟩
theorem ok_lname (D : Def K mg "_law_name" s_lname ["deal"]) (C_any : Cal P w K mg base CX0 1 "_law_any" s_any ["deal", "bound"] spAny) (C_of : Cal P w K mg base CX0 2 "_law_of" s_of ["deal", "some"] (spOf K)) (n_range : mg "range" = none) : Cal P w K mg base CX0 3 "_law_name" s_lname ["deal"] (sp_lname K) := by
  refine D.ok sc_lname (fun vs H Q E h => ?_) (fun cdv f A outer s H vs Q E hr h => ?_)
  · exact dpf_len h fun _ => rfl
  replace h := dpf0 h
  obtain ⟨d, c, B, _, rfl, L, _, k⟩ := h
  refine ⟨_, (pss_cons (ps_set (i := 1) sc_lname.nd rfl (Or.inr rfl) pe_str)
    (pss_cons (ps_if (pt_cmpR op_eq (pe_cal C_any (hr.mono (by decide)) (by rfl) pass0 (pa_cons (pv 0) (pa_cons pe_int pa_nil))) pe_int (nomark _)) (pss_cons (ps_par (i := 2) (j := 3) rfl sc_lname.nd rfl rfl (by decide) rfl rfl (pa_cons (pe_cal C_of (hr.mono (by decide)) (by rfl) pass0 (pa_cons (pv 0) (pa_cons (pe_lst (pa_cons pe_str (pa_cons pe_str (pa_cons pe_str (pa_cons pe_str pa_nil))))) pa_nil))) (pa_cons (pe_cal C_any (hr.mono (by decide)) (by rfl) pass0 (pa_cons (pv 0) (pa_cons pe_int pa_nil))) pa_nil)) (by rfl))
      (pss_one (ps_ret (pe_op op_add_str (pe_op op_add_str (pe_slice sl_str (pv 2) po_none (po_some (pv 3))) (pe_cal C_of (hr.mono (by decide)) (by rfl) pass0 (pa_cons (pv 0) (pa_cons (pv 1) pa_nil)))) (pe_slice sl_str (pv 2) (po_some (pe_op op_add (pv 3) pe_int)) po_none))))) pss_nil)
    (pss_one (ps_ret (pe_join pe_str (pe_lc (own := [("turn", 4)]) (g := gName 4) (tt := tYes) rfl sc_lname.nd (pi_range1 rfl n_range (pa_cons (pe_op op_add pe_int (pe_cal C_any (hr.mono (by decide)) (by rfl) pass0 (pa_cons (pv 0) (pa_cons pe_int pa_nil)))) pa_nil)) (blkOk_by (own := [("turn", 4)]) (N := ["deal", "letters", "stem", "at", "turn"]) (sc := defScope s_lname) (by decide +kernel)) (fun _ _ _ _ _ => (pg_name (i := 4) sc_lname.nd rfl (Or.inl rfl))) (fun _ _ _ _ _ => pts_nil) (fun _ _ _ _ _ => (pe_cal C_of (hr.mono (by decide)) (by rfl) pass0 (pa_cons (pv 0) (pa_cons (pv 1) pa_nil)))))))))), ?_⟩
  refine s_set (De.str (K := K)) L.bh fun v1 B1 H1 e1 h1 => ?_
  have h1 := dat_str h1
  subst h1
  have eA := ExtD.of L e1
  refine s_ifSR (t_any0 (K := K) eA.dl rfl .int (by decide) (by decide) fun b B2 H2 e2 => ?_)
  have e12 := eA.trans L e2
  refine ite2 (fun _ => ?_) (fun _ => ?_)
  · refine s_parR (c_ofL (K := K) e12.dl rfl (De.lstD (.cons .str (.cons .str (.cons .str (.cons .str .nil)))) (by show 4 ≤ sizeLine; decide)) (by simp) (by show 4 ≤ 1000; decide) fun x v B3 H3 hx e3 hv => c_any (K := K) e3.dl rfl .int (by decide) (by decide) fun r B4 H4 r0 r1 e4 => ?_)
    obtain ⟨z, rfl, hz⟩ : ∃ z : Str, x = .str z ∧ NmL 1 8 z := by
      simp only [List.mem_cons, List.not_mem_nil, or_false] at hx
      rcases hx with rfl | rfl | rfl | rfl <;> exact ⟨_, rfl, by decide +kernel, by decide +kernel, by decide +kernel⟩
    have hv := dat_str hv
    subst hv
    have hk := hz.nmk
    have zs : z.length ≤ sizeLine := by rw [sizeLine_eq]; have := hz.2.1; omega
    refine s_retR (r_op (r_op (d_ev e4.dl (De.slS (K := K) (.var (Dp.str _) rfl) .none (.some (K := K) (.var (Dp.int _) rfl)) zs) fun x5 B5 H5 e5 h5 => c_ofS (K := K) e5.dl rfl (.var (Dp.str _) rfl) (by decide +kernel) (by decide +kernel) fun a B6 H6 ha e6 => ⟨_, _, dat_str h5, rfl, ?_, d_ev e6.dl (De.slS (K := K) (.var (Dp.str _) rfl) (.some (K := K) (.op (.var (Dp.int _) rfl) .int Rv.I0)) .none zs) fun x7 B7 H7 e7 h7 => ⟨_, _, rfl, dat_str h7, ?_, k _ B7 H7 ((((e12.trans L e3).trans L e4).trans L e5).trans L (e6.trans e5.dl e7)) ⟨_, ?_, rfl⟩⟩⟩)))
    all_goals
      have lb : 97 ≤ a ∧ a ≤ 122 := (show ∀ a ∈ (Str.ofString "abcdefghijklmnopqrstuvwxyz").cps.toList, 97 ≤ a ∧ a ≤ 122 by decide +kernel) a ha
      have la : a < 128 := by omega
    · have := (hk.cut (lo := none) (hi := some r)).1
      rw [sizeLine_eq]
      show _ + 1 ≤ _
      omega
    · have := ((hk.cut (lo := none) (hi := some r)).app (Nmk.one la)).1
      have := (hk.cut (lo := some (r + 1)) (hi := none)).1
      rw [sizeLine_eq]
      omega
    · exact hz.stem lb r0 r1
  · dsimp only [tRet]
    refine ⟨⟨_, rfl⟩, ?_⟩
    refine c_lcAny (K := K) e12.dl rfl .int (by decide) (by decide) (by decide) (by decide) fun r B3 H3 r0 r1 e3 => ?_
    have e13 := e12.trans L e3
    refine c_lcD (K := K) (as := List.range (1 + r).toNat) (wi := fun _ H R => R (Itr 0 (1 + r).toNat) H) e13.dl (Di.itr (K := K)) (by rw [List.length_range, sizeLine_eq]; omega) (fun i out => ∃ zs : List Str, out = zs.map .str ∧ zs.length = i ∧ ∀ z ∈ zs, NmL 1 1 z) ⟨[], rfl, rfl, fun z h => nomatch h⟩ (fun i a v B5 H5 out ha L5 s5 hv ⟨zs, ho, hl, hz⟩ Y N hY hN => ⟨rfl, ?_⟩) fun out v B6 H6 e6 ⟨zs, ho, hl, hz⟩ hv => ?_
    · refine c_ofS (K := K) L5 rfl (.var (Dp.str _) rfl) (by decide +kernel) (by decide +kernel) fun a B7 H7 ha e7 => hY _ B7 H7 (.str ⟨#[a]⟩) e7 (Dp.str _) ⟨zs ++ [⟨#[a]⟩], by rw [ho]; simp, by simp [hl], fun z hz' => ?_⟩
      have la : 97 ≤ a ∧ a ≤ 122 := (show ∀ a ∈ (Str.ofString "abcdefghijklmnopqrstuvwxyz").cps.toList, 97 ≤ a ∧ a ≤ 122 by decide +kernel) a ha
      rcases List.mem_append.mp hz' with h | h
      · exact hz z h
      · rw [List.mem_singleton.mp h]
        exact NmL.one la
    · subst ho
      rw [List.length_range] at hl
      obtain ⟨p, xs, rfl, hs, hR⟩ := dat_lstR hv
      have ex : xs = zs.map V.str := strs_vals hR
      subst ex
      have short : zs.length ≤ 8 := by omega
      have sum := sum_le fun z h => (hz z h).nmk
      refine ⟨_, p, zs, rfl, rfl, .inl (e6.bh.seq hs), ?_, k _ B6 H6 (e13.trans L e6) ⟨_, (join_nmL (by decide +kernel) hz).mono (by omega) (by omega), rfl⟩⟩
      show _ + zs.length * 0 ≤ _
      omega
theorem sc_lnames : FnScope ["deal", "many", "names", "turn", "name", "spare", "sign"] ["deal", "many"] (defScope s_lnames) := ⟨rfl, rfl, rfl, by decide +kernel, rfl, by decide +kernel, by decide +kernel⟩
theorem ok_lnames (D : Def K mg "_law_names" s_lnames ["deal", "many"]) (n_range : mg "range" = none) (C_lname : Cal P w K mg base CX0 3 "_law_name" s_lname ["deal"] (sp_lname K)) (n_sorted : mg "sorted" = none) : Cal P w K mg base CX0 4 "_law_names" s_lnames ["deal", "many"] (sp_lnames K) := by
  refine D.ok sc_lnames (fun vs H Q E h => ?_) (fun cdv f A outer s H vs Q E hr h => ?_)
  · exact dpf_len h fun _ => rfl
  replace h := dpf1 h
  obtain ⟨d, vn, c, B, n, rfl, L, hn, n8, k⟩ := h
  refine ⟨_, (pss_cons (ps_set (i := 2) sc_lnames.nd rfl (Or.inr rfl) (pe_lst pa_nil))
    (pss_cons (ps_for PassesOwn.never rfl (pi_range1 rfl n_range (pa_cons (pv 1) pa_nil)) (pg_name (i := 3) sc_lnames.nd rfl (Or.inl rfl)) (pss_cons (ps_set (i := 4) sc_lnames.nd rfl (Or.inl rfl) (pe_cal C_lname (hr.mono (by decide)) (by rfl) pass0 (pa_cons (pv 0) pa_nil)))
      (pss_cons (ps_setLc (i := 5) (own := [("sign", 6)]) (g := gName 6) rfl sc_lnames.nd rfl rfl (sw_true rfl rfl rfl (by decide +kernel)) (pi_str pe_str) (blkOk_by (own := [("sign", 6)]) (N := ["deal", "many", "names", "turn", "name", "spare", "sign"]) (sc := defScope s_lnames) (by decide +kernel)) (fun _ _ _ _ _ => (pg_name (i := 6) sc_lnames.nd rfl (Or.inl rfl))) (fun _ _ _ _ _ => pts_one (pt_cmpR (r := rNotInD K) (op_notInD hr.u65) (pe_op op_mulS (pv 6) pe_int) (pv 2) rfl)) (fun _ _ _ _ _ => (pe_op op_mulS (pv 6) pe_int)))
      (pss_one (ps_expr (pe_bm PySem.F.plainAttrs_list PySem.F.slot_list_append PySem.F.type_list_append mt_append (pv 2) (pa_cons (pe_ifExp (pt_cmpR (op_notInD hr.u65) (pv 4) (pv 2) rfl) (pv 4) (pe_ix ix_list (pv 5) pe_int (fun _ _ => rfl))) pa_nil)))))))
    (pss_one (ps_ret (pe_callB (cr_sortedD hr.units) (by rfl) n_sorted (by decide +kernel) (pa_cons (pv 2) pa_nil)))))), ?_⟩
  have hn := dat_int hn
  subst hn
  refine ⟨Nat.zero_le _, fun M hM => ?_⟩
  obtain ⟨m0, e0⟩ := Ml.new (xs := []) L hM
  refine s_forD L e0 (Di.rng (K := K) (n := n) (.var (Dp.int _) rfl) (by omega)) (fun i σ B' H' => ∃ v3 v4 v5 v6, σ = [some (.ref d), some (.int (n : Int)), some (.ref M), v3, v4, v5, v6] ∧ ∃ zs, Ml d c B' H' M (zs.map V.str) ∧ NmsOk i zs) (fun B1 H1 e => ⟨_, _, _, _, rfl, [], m0.ext e, rfl, List.nodup_nil, fun z h => nomatch h⟩) ?_ ?_
  · rintro B1 i R v σ' Bc Hc Bn Hn sB hR e1 s1 ⟨v3, v4, v5, v6, rfl, zs, m1, lz, nz, hz⟩ e2 hx
    have i8 : i < n := by
      have := (List.getElem?_eq_some_iff.mp hR).1
      rw [List.length_map, List.length_range] at this
      exact this
    have e12 := e1.trans L e2
    have m2 := m1.ext e2
    refine s_raw (c_def () e12.dl rfl .nil (by trivial) fun v B3 H3 e3 hv => ?_)
    obtain ⟨z, hzL, rfl⟩ := hv
    have hz17 := NmL.n17 hzL
    have e13 := e12.trans L e3
    have m3 := m2.ext e3
    obtain ⟨l1, l2⟩ := m3.look e13.dl
    have zs20 : ∀ z ∈ zs, Nm z := fun z h => (NmL.n17 (hz z h)).mono (by decide)
    have names : dat K (.list (zs.map .str)) (upd B3 M (.lst (zs.map V.str))) (.ref M) := .lst (SqL.of upd_same) (strs_dpAll zs)
    refine s_set (De.eq (De.lcD (K := K) (as := (Str.ofString "abcdefghij").cps.toList) (r := fun c => dat K (.str ⟨#[c]⟩)) (Di.str .str) (fun c => !decide (mulS ⟨#[c]⟩ 3 ∈ zs)) (fun c => .str (mulS ⟨#[c]⟩ 3)) (by decide +kernel) fun a x Bn Hn ha sn sh hx => ⟨_, fun Q q => q, rfl, ?_, fun _ => ?_⟩) (e := .list ((thrice.filter fun z => !decide (z ∈ zs)).map .str)) ?_) l2 fun v4 B4 H4 e4 h4 => ?_
    · have a3 : Nm (mulS ⟨#[a]⟩ 3) := (NmL.n17 (thrice_nm _ (List.mem_map.mpr ⟨a, ha, rfl⟩))).mono (by decide)
      refine Dt.eq (Dt.test (De.op (r := rNotInD K) (De.op (r := rMulS) (.var hx rfl) .int Rv.mulS3) (.var (Mo.mo sn names) rfl) (Rv.notInL (shaped_str a3) (shaped_strsL zs20)))) ?_
      rw [any_strs]
    · exact De.op (r := rMulS) (.var hx rfl) .int Rv.mulS3
    · unfold thrice
      rw [List.filter_map, List.map_map]
      rfl
    have e34 := Ml.looked e13.dl e4
    have m4 := m3.ext e34
    have e14 := e13.trans L e34
    have ne := spare_ne (zs := zs) (by omega)
    have sp : ∀ z ∈ thrice.filter (fun z => !decide (z ∈ zs)), z ∉ zs ∧ NmL 1 8 z := fun z h => by
      obtain ⟨h1, h2⟩ := List.mem_filter.mp h
      exact ⟨by simpa using h2, thrice_nm z h1⟩
    generalize thrice.filter (fun z => !decide (z ∈ zs)) = out at h4 ne sp
    obtain ⟨s0, r0, rfl⟩ : ∃ s0 r0, out = s0 :: r0 := by
      cases out with
      | nil => exact absurd rfl ne
      | cons a b => exact ⟨a, b, rfl⟩
    obtain ⟨sn, s17⟩ := sp s0 List.mem_cons_self
    obtain ⟨q, ws, rfl, hq, hR⟩ := dat_lstR h4
    have ew := strs_vals (zs := s0 :: r0) hR
    subst ew
    have fin : ∀ y : Str, y ∉ zs → NmL 1 8 y → Nd d c B H B1 (fun σ B' H' => ∃ v3 v4 v5 v6, σ = [some (.ref d), some (.int (n : Int)), some (.ref M), v3, v4, v5, v6] ∧ ∃ zs, Ml d c B' H' M (zs.map V.str) ∧ NmsOk (i + 1) zs) [some (.ref d), some (.int (n : Int)), some (.ref M), some v, some (.str z), some (.ref q), v6] (upd H4 M (.lst (zs.map V.str ++ [.str y]))) := fun y hy h17 => by
      refine ⟨B3, e14.setL m4 hM, (s1.trans e2.bb).trans e3.bb, _, _, _, _, rfl, zs ++ [y], ?_, by simp [lz], ?_, ?_⟩
      · rw [List.map_append]
        exact (Ml.set e14.dl m4).1
      · rw [List.nodup_append]
        refine ⟨nz, by simp, fun a ha b hb => ?_⟩
        rw [List.mem_singleton.mp hb]
        rintro rfl
        exact hy ha
      · intro x hx
        rcases List.mem_append.mp hx with h | h
        · exact hz x h
        · rw [List.mem_singleton.mp h]
          exact h17
    have few : (zs.map V.str).length < sizeLine := by rw [List.length_map, lz, sizeLine_eq]; omega
    refine ⟨_, rfl, .inl ⟨rfl, _, SqL.of m4.at_⟩, _, rfl, _, rfl, .str z, zs.map .str, .str z, .lst (SqL.of m4.at_) (strs_dpAll zs), shaped_str (hz17.mono (by decide)), shaped_strsL zs20, _, rfl, ?_⟩
    rw [any_strs]
    refine ite2 (fun h => ?_) (fun h => ?_)
    · have h : z ∉ zs := by simpa using h
      exact ⟨_, rfl, M, _, .str z, rfl, rfl, m4.at_, few, fin z h hzL⟩
    · exact ⟨_, rfl, q, _, 0, .str s0, rfl, rfl, e4.bh.seq hq, atI_nat (j := 0) rfl, M, _, .str s0, rfl, rfl, m4.at_, few, fin s0 sn s17⟩
  · rintro σ' B' H' e1 s1 ⟨v3, v4, v5, v6, rfl, zs, m1, lz, nz, hz⟩
    rw [List.length_map, List.length_range] at lz
    refine ⟨_, rfl, M, zs.map V.str, zs.map .str, rfl, SqL.of m1.at_, strs_dpAll zs, alike_str zs, sortok_str zs, depth_str zs, fun p hp => ?_⟩
    obtain ⟨ys, perm, es, asc⟩ := sorted_strs nz
    refine k _ _ _ (e1.trans L (.of e1.dl (.new e1.bh hp))) ⟨ys, ⟨by rw [perm.length_eq, lz], perm.nodup_iff.mpr nz, fun z h => hz z (perm.mem_iff.mp h)⟩, asc, ?_⟩
    rw [← es]
    exact .lst (SqL.of upd_same) (dp_sort (strs_dpAll zs))
theorem sc_lform : FnScope ["deal", "most", "name"] ["deal", "most"] (defScope s_lform) := ⟨rfl, rfl, rfl, by decide +kernel, rfl, by decide +kernel, by decide +kernel⟩
theorem ok_lform (D : Def K mg "_law_form" s_lform ["deal", "most"]) (C_lnames : Cal P w K mg base CX0 4 "_law_names" s_lnames ["deal", "many"] (sp_lnames K)) (C_any : Cal P w K mg base CX0 1 "_law_any" s_any ["deal", "bound"] spAny) (C_of : Cal P w K mg base CX0 2 "_law_of" s_of ["deal", "some"] (spOf K)) (n_tuple : mg "tuple" = none) : Cal P w K mg base CX0 5 "_law_form" s_lform ["deal", "most"] (sp_lform K) := by
  refine D.ok sc_lform (fun vs H Q E h => ?_) (fun cdv f A outer s H vs Q E hr h => ?_)
  · exact dpf_len h fun _ => rfl
  replace h := dpf1 h
  obtain ⟨d, vn, c, B, _, rfl, L, hn, _, k⟩ := h
  refine ⟨_, (pss_one (ps_ret (pe_callTy call_tuple_of (by rfl) n_tuple (by decide +kernel) (pa_cons (pe_lc (own := [("name", 2)]) (g := gName 2) (tt := tYes) rfl sc_lform.nd (pi_list (pe_cal C_lnames (hr.mono (by decide)) (by rfl) pass0 (pa_cons (pv 0) (pa_cons (pe_op op_add pe_int (pe_cal C_any (hr.mono (by decide)) (by rfl) pass0 (pa_cons (pv 0) (pa_cons (pv 1) pa_nil)))) pa_nil)))) (blkOk_by (own := [("name", 2)]) (N := ["deal", "most", "name"]) (sc := defScope s_lform) (by decide +kernel)) (fun _ _ _ _ _ => (pg_name (i := 2) sc_lform.nd rfl (Or.inl rfl))) (fun _ _ _ _ _ => pts_nil) (fun _ _ _ _ _ => (pe_tup (pa_cons (pv 2) (pa_cons (pe_cal C_of (hr.mono (by decide)) (by rfl) pass0 (pa_cons (pv 0) (pa_cons (pe_lst (pa_cons pe_int (pa_cons pe_int (pa_cons pe_int pa_nil)))) pa_nil))) pa_nil))))) pa_nil)))), ?_⟩
  have hn := dat_int hn
  subst hn
  have line := sizeLine_eq
  refine s_retW L (Dw.tupleL (P := QsP) (Dw.lcL (K := K) (P0 := NsOk) ?_ fun a ds B' ⟨zs, e, z1, z3, hz, asc⟩ s h => ?_)) k
  · refine Dw.def (S := datP K (listOf NsOk)) rfl (.one (Dw.op (Dw.int) (Dw.any (K := K) rfl (.var (Dp.int 3) rfl) (by decide) (by decide)) fun _ => Rv.intP)) fun B vs hv => ?_
    obtain ⟨x, r, rfl, ⟨j, ⟨a, b, ha, hb, hj⟩, hx⟩, hr⟩ := hv
    subst ha
    refine ⟨j.toNat, ⟨x, r, rfl, ?_, hr⟩, (by show j.toNat ≤ 8; omega), fun B v ⟨zs, ⟨lz, _, hz⟩, asc, hv⟩ => ⟨_, ⟨_, rfl, zs, rfl, by omega, by omega, hz, asc⟩, hv⟩⟩
    rw [hx, show ((j.toNat : Nat) : Int) = j by omega]
    exact .int _
  · subst e
    refine .cv (Dw.lc (K := K) (as := zs) (r := fun z => dat K (.str z)) (fun z x => ∃ m : Nat, x = encQ (z, m) ∧ 2 ≤ m ∧ m ≤ 3) ((Di.itl h).conv (by rw [List.map_map]; rfl)) (by omega) fun z x Bn hz sb hx => ⟨[some (.ref d), some (.int 3), some x], fun _ _ _ q => q, rfl, ?_⟩) fun B2 u h2 => ?_
    · refine Dw.cv (Dw.tup (K := K) (Dwa.cons (.of (.var hx rfl)) (Dwa.one (Dw.ofL (ds := [.int 2, .int 2, .int 3]) rfl (De.lstD (.cons .int (.cons .int (.cons .int .nil))) (by show 3 ≤ sizeLine; omega)) (by simp) (by show 3 ≤ 1000; decide)))) (by rw [line]; show 2 ≤ _; decide)) fun B v hv => ?_
      obtain ⟨a, xs, rfl, hs, x1, r1, rfl, hx1, x2, r2, rfl, ⟨j, hj, hx2⟩, hr⟩ := hv
      have hr : r2 = [] := hr
      subst hr
      obtain ⟨m, rfl, m2, m3⟩ : ∃ m : Nat, j = .int (m : Int) ∧ 2 ≤ m ∧ m ≤ 3 := by
        simp only [List.mem_cons, List.not_mem_nil, or_false] at hj
        rcases hj with rfl | rfl | rfl
        · exact ⟨2, rfl, by decide, by decide⟩
        · exact ⟨2, rfl, by decide, by decide⟩
        · exact ⟨3, rfl, by decide, by decide⟩
      exact ⟨_, ⟨m, rfl, m2, m3⟩, .tup hs (.cons hx1 (.cons hx2 .nil))⟩
    · obtain ⟨x, ⟨ds, hx, hE⟩, h2⟩ := h2
      exact ⟨x, ⟨ds, hx, mkQs hE z1 z3 hz asc⟩, h2⟩
theorem sc_lrows : FnScope ["questions", "least", "rows", "name", "many", "longer", "row", "answer"] ["questions", "least"] (defScope s_lrows) := ⟨rfl, rfl, rfl, by decide +kernel, rfl, by decide +kernel, by decide +kernel⟩
theorem ok_lrows (D : Def K mg "_law_rows" s_lrows ["questions", "least"]) (n_range : mg "range" = none) : Cal P w K mg base CX0 1 "_law_rows" s_lrows ["questions", "least"] (sp_lrows K) := by
  refine D.ok sc_lrows (fun vs H Q E h => ?_) (fun cdv f A outer s H vs Q E hr h => ?_)
  · exact pf_len h fun _ => rfl
  replace h := pf2 h
  obtain ⟨v, v1, B, ⟨qs, lo⟩, rfl, hB, hv, hv1, ⟨sm, l1, l2⟩, k⟩ := h
  refine ⟨_, (pss_cons (ps_set (i := 2) sc_lrows.nd rfl (Or.inl rfl) (pe_lst (pa_cons (pe_tup pa_nil) pa_nil)))
    (pss_cons (ps_for PassesOwn.never rfl (pi_tup (pv 0)) (pg_tup rfl (pgs_cons (pg_name (i := 3) sc_lrows.nd rfl (Or.inl rfl)) (pgs_cons (pg_name (i := 4) sc_lrows.nd rfl (Or.inl rfl)) pgs_nil))) (pss_cons (ps_set (i := 5) sc_lrows.nd rfl (Or.inl rfl) (pe_lst pa_nil))
      (pss_cons (ps_for PassesOwn.never rfl (pi_list (pv 2)) (pg_name (i := 6) sc_lrows.nd rfl (Or.inr rfl)) (pss_one (ps_set (i := 5) sc_lrows.nd rfl (Or.inl rfl) (pe_op op_catS (pv 5) (pe_lc (own := [("answer", 7)]) (g := gName 7) (tt := tYes) rfl sc_lrows.nd (pi_range2 (by rfl) n_range (pa_cons (pv 1) (pa_cons (pv 4) pa_nil))) (blkOk_by (own := [("answer", 7)]) (N := ["questions", "least", "rows", "name", "many", "longer", "row", "answer"]) (sc := defScope s_lrows) (by decide +kernel)) (fun _ _ _ _ _ => (pg_name (i := 7) sc_lrows.nd rfl (Or.inl rfl))) (fun _ _ _ _ _ => pts_nil) (fun _ _ _ _ _ => (pe_op (r := rCatA K) op_catA (pv 6) (pe_tup (pa_cons (pv 7) pa_nil)))))))))
      (pss_one (ps_set (i := 2) sc_lrows.nd rfl (Or.inl rfl) (pv 5))))))
    (pss_one (ps_ret (pv 2))))), ?_⟩
  have few : qs.length ≤ 4 := sm.1
  have small : ∀ q ∈ qs, q.2 ≤ 4 := sm.2
  have l1 : -1 ≤ lo := l1
  have l2 : lo ≤ 0 := l2
  have hv1 := dat_int hv1
  subst hv1
  refine s_set (De.lstD (K := K) (.cons (De.tupD .nil (by show 0 ≤ sizeLine; decide)) .nil) (by show 1 ≤ sizeLine; decide)) hB fun v2 B1 H1 e1 h2 => ?_
  refine s_forS (Di.tupM (K := K) (as := qs) (f := encQ) (.var (Mo.mo e1.bb hv) rfl)) e1.bh (fun i σ B => ∃ u v3 v4 v5 v6 v7, σ = [some v, some (.int lo), some u, v3, v4, v5, v6, v7] ∧ dat K (rowsL (grow ((qs.take i).map fun q => rng lo ((q.2 : Int) - lo).toNat))) B u) (fun B' s => ⟨v2, _, _, _, _, _, rfl, Mo.mo s h2⟩) ?_ ?_
  · rintro B2 H2 e2 i R x σ' Bc Bn Hn hR ⟨u, v3, v4, v5, v6, v7, rfl, hu⟩ s e hx
    rw [List.getElem?_map] at hR
    obtain ⟨q, hq, rfl⟩ := Option.map_eq_some_iff.mp hR
    have i4 : i < 4 := by
      have := (List.getElem?_eq_some_iff.mp hq).1
      omega
    have q4 : q.2 ≤ 4 := small q (List.mem_of_getElem? hq)
    obtain ⟨y, z, hy, hz, go⟩ := gTup2 e.bh (dat_pair hx)
    refine go _ ?_
    have hz := dat_int hz
    subst hz
    have tk : (qs.take (i + 1)).map (fun q => rng lo ((q.2 : Int) - lo).toNat) = (qs.take i).map (fun q => rng lo ((q.2 : Int) - lo).toNat) ++ [rng lo ((q.2 : Int) - lo).toNat] := by rw [take_snoc hq, List.map_append]; rfl
    have gl : (grow ((qs.take i).map fun q => rng lo ((q.2 : Int) - lo).toNat)).length ≤ 5 ^ 4 := by
      refine Nat.le_trans (grow_len (m := 5) _ fun l hl => ?_) (Nat.pow_le_pow_right (by decide) ?_)
      · obtain ⟨m, hm, rfl⟩ := List.mem_map.mp hl
        rw [rng_len]
        have := small m (List.mem_of_mem_take hm)
        omega
      · rw [List.length_map, List.length_take]
        omega
    have rl : ∀ a ∈ grow ((qs.take i).map fun q => rng lo ((q.2 : Int) - lo).toNat), a.length ≤ 4 := fun a ha => by
      rw [grow_row ha, List.length_map, List.length_take]
      omega
    rw [tk, grow_snoc]
    generalize grow ((qs.take i).map fun q => rng lo ((q.2 : Int) - lo).toNat) = rows at hu gl rl
    refine s_set (De.lstD (K := K) .nil (by show 0 ≤ sizeLine; decide)) e.bh fun v8 B8 H8 e8 h8 => ?_
    refine s_forS (Di.listM (K := K) (as := rows) (f := rowD) (.var (Mo.mo (s.trans e8.bb) hu) rfl)) e8.bh (fun j σ B => ∃ u5 v6 v7, σ = [some v, some (.int lo), some u, some y, some (.int (q.2 : Int)), some u5, v6, v7] ∧ dat K (rowsL (grow1 (rows.take j) (rng lo ((q.2 : Int) - lo).toNat))) B u5) (fun B' s => ⟨v8, _, _, rfl, Mo.mo s h8⟩) ?_ ?_
    · rintro B3 H3 e3 j R x σ' Bc Bm Hm hR ⟨u5, v6, v7, rfl, h5⟩ s' em hx
      rw [List.getElem?_map] at hR
      obtain ⟨a, ha, rfl⟩ := Option.map_eq_some_iff.mp hR
      have a4 := rl a (List.mem_of_getElem? ha)
      have len : (grow1 (rows.take j) (rng lo ((q.2 : Int) - lo).toNat)).length ≤ 5 ^ 4 * 5 := by
        rw [grow1_len, rng_len, List.length_take]
        exact Nat.mul_le_mul (by omega) (by omega)
      refine s_setE (De.op (r := rCatS K) (.var (Mo.mo s' h5) rfl) (De.lcA (K := K) (as := List.range ((q.2 : Int) - lo).toNat) (r := fun m => dat K (.int (lo + (m : Int)))) (Di.rng2 (.cons (.var (Dp.int _) rfl) (.cons (.var (Dp.int _) rfl) .nil)) (by omega)) (fun m => rowD (a ++ [lo + (m : Int)])) (by rw [List.length_range, sizeLine_eq]; omega) fun m x7 B7 H7 _ s7 _ h7 => ⟨_, fun Q q => q, rfl, ?_⟩) (Rv.catS (by rw [List.length_map, List.length_map, List.length_range, sizeLine_eq]; omega))) em.bh fun v9 B9 H9 e9 h9 => ⟨B9, em.trans e9, v9, _, _, rfl, ?_⟩
      · have h7 := dat_int h7
        subst h7
        refine De.eq (d := .tuple (a.map .int ++ [.int (lo + (m : Int))])) (De.op (r := rCatA K) (De.var (Mo.mo s7 hx) rfl) (De.tupD (ds := [.int (lo + (m : Int))]) (.cons (.var (Dp.int _) rfl) .nil) (by show 1 ≤ sizeLine; decide)) (Rv.catT (by rw [List.length_map, sizeLine_eq]; show _ + 1 ≤ _; omega))) ?_
        unfold rowD
        rw [List.map_append]
        rfl
      · have e : grow1 (rows.take (j + 1)) (rng lo ((q.2 : Int) - lo).toNat) = grow1 (rows.take j) (rng lo ((q.2 : Int) - lo).toNat) ++ (List.range ((q.2 : Int) - lo).toNat).map fun m : Nat => a ++ [lo + (m : Int)] := by
          unfold grow1 rng
          rw [take_snoc ha, List.flatMap_append]
          simp
        rw [e]
        unfold rowsL
        rw [List.map_append, List.map_map]
        exact h9
    · rintro σ' B' H' e3 ⟨u5, v6, v7, rfl, h5⟩
      rw [List.length_map, List.take_length] at h5
      exact s_setE (De.var h5 rfl) e3.bh fun v9 B9 H9 e9 h9 => ⟨B9, ((e.trans e8).trans e3).trans e9, v9, _, _, _, _, _, rfl, h9⟩
  · rintro σ' B' H' e2 ⟨u, v3, v4, v5, v6, v7, rfl, hu⟩
    rw [List.length_map, List.take_length] at hu
    exact s_ret (.var hu rfl) e2.bh fun v B H e h => k v B H ((e1.trans e2).trans e) h
theorem sc_lsubsets : FnScope ["names", "some", "name", "lot"] ["names"] (defScope s_lsubsets) := ⟨rfl, rfl, rfl, by decide +kernel, rfl, by decide +kernel, by decide +kernel⟩
theorem ok_lsubsets (D : Def K mg "_law_subsets" s_lsubsets ["names"]) (n_sorted : mg "sorted" = none) : Cal P w K mg base CX0 1 "_law_subsets" s_lsubsets ["names"] (sp_lsubsets K) := by
  refine D.ok sc_lsubsets (fun vs H Q E h => ?_) (fun cdv f A outer s H vs Q E hr h => ?_)
  · exact pf_len h fun _ => rfl
  replace h := pf1 h
  obtain ⟨v, B, l, rfl, hB, hv, few, k⟩ := h
  refine ⟨_, (pss_cons (ps_set (i := 1) sc_lsubsets.nd rfl (Or.inl rfl) (pe_lst (pa_cons (pe_tup pa_nil) pa_nil)))
    (pss_cons (ps_for PassesOwn.never rfl (pi_list (pv 0)) (pg_name (i := 2) sc_lsubsets.nd rfl (Or.inr rfl)) (pss_one (ps_set (i := 1) sc_lsubsets.nd rfl (Or.inl rfl) (pe_op op_catS (pv 1) (pe_lc (own := [("lot", 3)]) (g := gName 3) (tt := tYes) rfl sc_lsubsets.nd (pi_list (pv 1)) (blkOk_by (own := [("lot", 3)]) (N := ["names", "some", "name", "lot"]) (sc := defScope s_lsubsets) (by decide +kernel)) (fun _ _ _ _ _ => (pg_name (i := 3) sc_lsubsets.nd rfl (Or.inl rfl))) (fun _ _ _ _ _ => pts_nil) (fun _ _ _ _ _ => (pe_op (r := rCatA K) op_catA (pv 3) (pe_tup (pa_cons (pv 2) pa_nil)))))))))
    (pss_one (ps_ret (pe_callB (cr_sortedD hr.units) (by rfl) n_sorted (by decide +kernel) (pa_cons (pv 1) pa_nil)))))), ?_⟩
  have few : l.length ≤ 4 := few
  refine s_set (De.lstD (K := K) (.cons (De.tupD .nil (by show 0 ≤ sizeLine; decide)) .nil) (by show 1 ≤ sizeLine; decide)) hB fun v1 B1 H1 e1 h1 => ?_
  have walk : Di (iList K (tVar 0)) [some v, some v1, none, none] B1 ((l.map PyData.str).map (dat K)) := Di.listD (.var (Mo.mo e1.bb hv) rfl)
  refine s_forS walk e1.bh (fun i σ B => ∃ u v3 v4, σ = [some v, some u, v3, v4] ∧ dat K (.list ((subs (l.take i)).map lotD)) B u) (fun B' s => ⟨v1, _, _, rfl, Mo.mo s h1⟩) ?_ ?_
  · rintro B2 H2 e2 i R x σ' Bc Bn Hn hR ⟨u, v3, v4, rfl, hu⟩ s e hx
    rw [List.getElem?_map, List.getElem?_map] at hR
    obtain ⟨_, hn', rfl⟩ := Option.map_eq_some_iff.mp hR
    obtain ⟨n, hn, rfl⟩ := Option.map_eq_some_iff.mp hn'
    have i4 := (List.getElem?_eq_some_iff.mp hn).1
    have tk := take_snoc hn
    have sl := subs_len l i (by omega)
    have p4 : 2 ^ i ≤ 2 ^ 4 := Nat.pow_le_pow_right (by decide) (by omega)
    refine s_setE (De.op (r := rCatS K) (De.var (Mo.mo s hu) rfl) (De.lcA (K := K) (as := subs (l.take i)) (r := fun a => dat K (lotD a)) (Di.listM (f := lotD) (.var (Mo.mo s hu) rfl)) (fun a => lotD (a ++ [n])) (by rw [sl, sizeLine_eq]; omega) fun a y Bm Hm ha sm _ hy => ⟨_, fun Q z => z, rfl, ?_⟩) (Rv.catS (by rw [List.length_map, List.length_map, sl, sizeLine_eq]; omega))) e.bh fun v6 B6 H6 e6 h6 => ⟨B6, e.trans e6, v6, _, _, rfl, ?_⟩
    · refine De.eq (d := .tuple (a.map .str ++ [.str n])) (De.op (r := rCatA K) (De.var hy rfl) (De.tupD (ds := [.str n]) (.cons (.var (Mo.mo sm hx) rfl) .nil) (by show 1 ≤ sizeLine; decide)) (Rv.catT ?_)) ?_
      · rw [List.length_map, sizeLine_eq]
        have := subs_row ha
        show _ + 1 ≤ _
        rw [List.length_take] at this
        omega
      · unfold lotD
        rw [List.map_append]
        rfl
    · rw [tk, subs_snoc, List.map_append, List.map_map]
      exact h6
  · rintro σ' B' H' e2 ⟨u, v3, v4, rfl, hu⟩
    rw [List.length_map, List.length_map, List.take_length] at hu
    exact s_ret (De.sorted (.var hu rfl) (alike_lots _) (Fm.ok_lots _) (depth_lots _)) e2.bh fun v B H e h => k v B H ((e1.trans e2).trans e) h
theorem sc_lcommon : FnScope ["one", "other", "step"] ["one", "other"] (defScope s_lcommon) := ⟨rfl, rfl, rfl, by decide +kernel, rfl, by decide +kernel, by decide +kernel⟩
theorem ok_lcommon (D : Def K mg "_law_common" s_lcommon ["one", "other"]) (n_int : mg "int" = none) (n_abs : mg "abs" = none) (n_range : mg "range" = none) : Cal P w K mg base CX0 1 "_law_common" s_lcommon ["one", "other"] (sp_lcommon K) := by
  refine D.ok sc_lcommon (fun vs H Q E h => ?_) (fun cdv f A outer s H vs Q E hr h => ?_)
  · exact pf_len h fun _ => rfl
  replace h := pf2 h
  obtain ⟨v, v1, B, ⟨a, b⟩, rfl, hB, hv, hv1, lb, k⟩ := h
  refine ⟨_, (pss_cons (ps_par (i := 0) (j := 1) rfl sc_lcommon.nd rfl rfl (by decide) rfl rfl (pa_cons (pe_callB call_abs (by rfl) n_abs (by decide +kernel) (pa_cons (pe_callTy call_int1 (by rfl) n_int (by decide +kernel) (pa_cons (pv 0) pa_nil)) pa_nil)) (pa_cons (pe_callB call_abs (by rfl) n_abs (by decide +kernel) (pa_cons (pe_callTy call_int1 (by rfl) n_int (by decide +kernel) (pa_cons (pv 1) pa_nil)) pa_nil)) pa_nil)) (by rfl))
    (pss_cons (ps_for PassesOwn.never rfl (pi_range1 rfl n_range (pa_cons pe_int pa_nil)) (pg_name (i := 2) sc_lcommon.nd rfl (Or.inl rfl)) (pss_cons (ps_if (pt_cmpR op_eq (pv 1) pe_int (nomark _)) (pss_one ps_break) pss_nil)
      (pss_one (ps_par (i := 0) (j := 1) rfl sc_lcommon.nd rfl rfl (by decide) rfl rfl (pa_cons (pv 1) (pa_cons (pe_op op_mod (pe_callTy call_int1 (by rfl) n_int (by decide +kernel) (pa_cons (pv 0) pa_nil)) (pv 1)) pa_nil)) (by rfl)))))
    (pss_one (ps_ret (pv 0))))), ?_⟩
  have hv := dat_int hv
  subst hv
  have hv1 := dat_int hv1
  subst hv1
  have lb : b.natAbs < 2 ^ 4000 := lb
  have k : ∀ (v : V) (B' H' : Hp), Ext B H B' H' → dat K (.int ((Nat.gcd a.natAbs b.natAbs : Nat) : Int)) B' v → Q v H' := k
  have k : Q (.int ((Nat.gcd a.natAbs b.natAbs : Nat) : Int)) H := k _ B H (.refl hB) (.int _)
  have abs_ : ∀ x : Int, (if x < 0 then -x else x) = (x.natAbs : Int) := fun x => by split <;> omega
  refine ⟨_, rfl, .inl ⟨a, rfl, a, rfl, _, rfl, .inl ⟨b, rfl, b, rfl, _, _, rfl, ?_⟩⟩⟩
  rw [abs_, abs_]
  refine ⟨9000, rfl, by decide, by decide, for_range (n := 9000) (fun i σ H' => ∃ (x y : Nat) (v : Option V), σ = [some (.int (x : Int)), some (.int (y : Int)), v] ∧ H' = H ∧ Euc a.natAbs b.natAbs 4000 i x y) ⟨_, _, none, rfl, rfl, rfl, fun _ => ⟨rfl, rfl⟩, fun z => absurd z (by omega)⟩ ?_ ?_⟩
  · rintro i σ H' hi ⟨x, y, v, rfl, rfl, e⟩
    refine ⟨_, rfl, rfl, _, rfl, ?_⟩
    refine ite2 (fun h => ?_) (fun h => ?_)
    · have y0 : y = 0 := by
        have := V.int.inj (of_decide_eq_true h)
        omega
      subst y0
      refine ⟨_, rfl, ?_⟩
      rw [← euc_done e] at k
      exact k
    · have y0 : y ≠ 0 := fun z => h (decide_eq_true (by rw [z]; rfl))
      refine ⟨_, rfl, _, rfl, .inl ⟨_, rfl, _, rfl, _, _, rfl, rfl, (by show (0 : Int) < y; omega), _, _, rfl, ?_⟩⟩
      exact ⟨y, x % y, _, rfl, rfl, euc_step e lb y0⟩
  · rintro σ H' ⟨x, y, v, rfl, rfl, e⟩
    have y0 := euc_end e (by decide)
    subst y0
    refine ⟨_, rfl, ?_⟩
    rw [← euc_done e] at k
    exact k
theorem sc_llow : FnScope ["top", "bottom", "common"] ["top", "bottom"] (defScope s_llow) := ⟨rfl, rfl, rfl, by decide +kernel, rfl, by decide +kernel, by decide +kernel⟩
theorem ok_llow (D : Def K mg "_law_low" s_llow ["top", "bottom"]) (C_lcommon : Cal P w K mg base CX0 1 "_law_common" s_lcommon ["one", "other"] (sp_lcommon K)) (n_int : mg "int" = none) : Cal P w K mg base CX0 2 "_law_low" s_llow ["top", "bottom"] (sp_llow K) := by
  refine D.ok sc_llow (fun vs H Q E h => ?_) (fun cdv f A outer s H vs Q E hr h => ?_)
  · exact pf_len h fun _ => rfl
  replace h := pf2 h
  obtain ⟨v, v1, B, ⟨t, b⟩, rfl, hB, hv, hv1, ⟨b0, lb⟩, k⟩ := h
  refine ⟨_, (pss_cons (ps_set (i := 2) sc_llow.nd rfl (Or.inl rfl) (pe_cal C_lcommon (hr.mono (by decide)) (by rfl) pass0 (pa_cons (pv 0) (pa_cons (pv 1) pa_nil))))
    (pss_one (ps_ret (pe_tup (pa_cons (pe_op op_fdivW (pe_callTy call_int1 (by rfl) n_int (by decide +kernel) (pa_cons (pv 0) pa_nil)) (pv 2)) (pa_cons (pe_op op_fdivW (pe_callTy call_int1 (by rfl) n_int (by decide +kernel) (pa_cons (pv 1) pa_nil)) (pv 2)) pa_nil)))))), ?_⟩
  have b0 : 0 < b := b0
  have lb : b.natAbs < 2 ^ 4000 := lb
  have hv := dat_int hv
  subst hv
  have hv1 := dat_int hv1
  subst hv1
  have up : 2 ^ 4000 ≤ 2 ^ 7000 := Nat.pow_le_pow_right (by decide) (by decide)
  refine s_set (De.call (args := fun a : Int × Int => [dat K (.int a.1), dat K (.int a.2)]) (res := fun a => dat K (.int ((Nat.gcd a.1.natAbs a.2.natAbs : Nat) : Int))) (t, b) (.cons (.var (Dp.int t) rfl) (.one (.var (Dp.int b) rfl))) lb) hB fun v2 B1 H1 e1 h2 => ?_
  have gl : ((Nat.gcd t.natAbs b.natAbs : Nat) : Int).natAbs < 2 ^ 7000 := by
    rw [Int.natAbs_natCast]
    exact Nat.lt_of_le_of_lt (Nat.gcd_le_right _ (by omega)) (Nat.lt_of_lt_of_le lb up)
  have gp : (0 : Int) < ((Nat.gcd t.natAbs b.natAbs : Nat) : Int) := by have := gcd_pos (t := t) b0; omega
  obtain ⟨f1, f2⟩ := low_val t b b0
  refine s_ret (De.eq (De.tupI (K := K) (.cons (.op (De.intI (.var (Dp.int _) rfl)) (.var h2 rfl) (Rv.I (wide_div gp gl (by decide) (by decide)))) (.cons (.op (De.intI (.var (Dp.int _) rfl)) (.var h2 rfl) (Rv.I (wide_div gp gl (by decide) (by decide)))) .nil))) (e := frD (Rat.divInt t b)) ?_) e1.bh fun v B H e hv => k v B H (e1.trans e) hv
  unfold frD
  rw [← f1, ← f2]
theorem De.low4 {σ : L2.St} {B : Hp} {ta tb : TE} {E : XK} {t b : Int} (h : De ta σ B (dat K (.int t))) (h2 : De tb σ B (dat K (.int b))) (b0 : 0 < b) (lb : b.natAbs < 2 ^ 4000) : De (tCall (sp_llow K) [] E (tCons ta (tCons tb tNil))) σ B (dat K (frD (Rat.divInt t b))) := De.call (args := fun a : Int × Int => [dat K (.int a.1), dat K (.int a.2)]) (res := fun a => dat K (frD (Rat.divInt a.1 a.2))) (t, b) (.cons h (.cons h2 .nil)) ⟨b0, lb⟩
end
end K05

set_option Elab.async false
set_option linter.all false
set_option maxRecDepth 100000
set_option maxHeartbeats 1000000
/-! K05i: shares, keys, things that are drawn. -/
namespace K05
open PySem PySem.Spec PyProof.Rows L2 Wb Wv Fm Wf Fq
def KeyP (d : PyData) : Prop := ∃ es, d = .tuple es ∧ es.length ≤ 2 ∧ ∀ x ∈ es, ∃ ys, x = .tuple ys ∧ ys.length ≤ 3 ∧ ∀ y ∈ ys, Sm 41 0 8 y
def ShP (s : PyData) : Prop := ∃ ys, s = .tuple ys ∧ ys.length ≤ 3 ∧ ∀ y ∈ ys, Sm 41 0 8 y
def KeysP (ds : List PyData) : Prop := 1 ≤ ds.length ∧ ds.length ≤ 1000 ∧ ∀ d ∈ ds, KeyP d
def PickP (ds : List PyData) : Prop := 1 ≤ ds.length ∧ ds.length ≤ 16 ∧ ∀ d ∈ ds, KeyP d
theorem KeyP.sm {d : PyData} (h : KeyP d) : Sm 41 2 60 d := by
  obtain ⟨es, rfl, l, h⟩ := h
  exact sm_tuple (k := 1) (W := 27) (fun x hx => by
    obtain ⟨ys, rfl, l3, hy⟩ := h x hx
    exact sm_tuple hy 3 l3 _ (by decide)) 2 l _ (by decide)
abbrev sp_lshares (K : PySem.W.Frag) : Sp := DPf (α := List PyData) (fun ks => [dat K (.list ks)]) (fun ks => 1 ≤ ks.length ∧ ks.length ≤ 16) (fun ks => datP K (listOf fun ss => ss.length = ks.length ∧ ∀ s ∈ ss, ShP s))
abbrev sp_lpicked (K : PySem.W.Frag) : Sp := DPf (α := List PyData) (fun ks => [dat K (.list ks)]) KeysP (fun _ => datP K (listOf PickP))
abbrev sp_lkeys (K : PySem.W.Frag) : Sp := Pf (α := Qs × Bool) (fun a => [dat K (qsD a.1), dat K (.int (if a.2 = true then 1 else 0))]) (fun a => FOk a.1) (fun _ => datP K (listOf KeysP))
def ThP (x : PyData) : Prop := Sm 41 2 9 x ∧ ∀ es, x = .tuple es → es.length ≤ 3 ∧ ∀ y ∈ es, Sm 41 1 2 y
abbrev sp_thing (K : PySem.W.Frag) : Sp := DPf (α := Unit) (fun _ => []) (fun _ => True) (fun _ => datP K ThP)
def PartP (j : Nat) (x : PyData) : Prop := Sm (42 + j) 3 ((3 + j) * 10) x ∧ ∀ es, x = .tuple es → es.length ≤ 3 + j ∧ ∀ y ∈ es, Sm (42 + j) 2 9 y
def RowP (j : Nat) (x : PyData) : Prop := Sm (42 + j) 4 (3 * ((3 + j) * 10 + 1)) x ∧ ∀ es, x = .tuple es → es.length ≤ 3 ∧ ∀ y ∈ es, PartP j y
abbrev sp_near (K : PySem.W.Frag) : Sp := DPf (α := Nat × PyData) (fun a => [dat K a.2]) (fun a => a.1 ≤ 1 ∧ PartP a.1 a.2) (fun a => datP K (PartP (a.1 + 1)))
theorem ThP.part {x : PyData} (h : ThP x) (j : Nat) : PartP j x := ⟨h.1.mono (by omega) (by decide) (by omega), fun es e => by
  obtain ⟨l, hy⟩ := h.2 es e
  exact ⟨by omega, fun y hm => (hy y hm).mono (by omega) (by decide) (by decide)⟩⟩
theorem ThP.row {x : PyData} (h : ThP x) (j : Nat) : RowP j x := ⟨h.1.mono (by omega) (by decide) (by omega), fun es e => by
  obtain ⟨l, hy⟩ := h.2 es e
  refine ⟨l, fun y hm => ⟨(hy y hm).mono (by omega) (by decide) (by omega), fun fs ef => ?_⟩⟩
  subst ef
  obtain ⟨i, w, e1, hw, hl⟩ := (hy _ hm).tupInv
  refine ⟨?_, fun z hz => (hw z hz).mono (by omega) (by omega) ?_⟩
  · have : fs.length * 1 ≤ fs.length * (w + 1) := Nat.mul_le_mul_left _ (by omega)
    omega
  · have p1 : 1 * (w + 1) ≤ fs.length * (w + 1) := Nat.mul_le_mul_right _ (List.length_pos_of_mem hz)
    omega⟩
theorem PartP.up {j : Nat} {x : PyData} (h : PartP j x) : PartP (j + 1) x := ⟨h.1.mono (by omega) (by omega) (by omega), fun es e => by
  obtain ⟨l, hy⟩ := h.2 es e
  exact ⟨by omega, fun y hm => (hy y hm).mono (by omega) (by omega) (by omega)⟩⟩
theorem RowP.up {j : Nat} {x : PyData} (h : RowP j x) : RowP (j + 1) x := ⟨h.1.mono (by omega) (by omega) (by omega), fun es e => by
  obtain ⟨l, hy⟩ := h.2 es e
  exact ⟨l, fun y hm => (hy y hm).up⟩⟩
theorem part_of {j : Nat} {es : List PyData} (l : es.length ≤ 3 + j) (h : ∀ y ∈ es, Sm (42 + j) 2 9 y) : PartP j (.tuple es) := ⟨sm_tuple h (3 + j) l _ (by omega), fun fs e => by
  injection e with e
  subst e
  exact ⟨l, h⟩⟩
theorem part_list {j : Nat} {es : List PyData} (l : es.length ≤ 3 + j) (h : ∀ y ∈ es, Sm (42 + j) 2 9 y) : PartP j (.list es) := ⟨sm_list h (3 + j) l _ (by omega), fun fs e => nomatch e⟩
theorem row_of {j : Nat} {es : List PyData} (l : es.length ≤ 3) (h : ∀ y ∈ es, PartP j y) : RowP j (.tuple es) := ⟨sm_tuple (fun y hy => (h y hy).1) 3 l _ (by omega), fun fs e => by
  injection e with e
  subst e
  exact ⟨l, h⟩⟩
def tupNE (d : PyData) : Bool := match d with
  | .tuple (_ :: _) => true
  | _ => false
theorem tupNE_form {d : PyData} (h : tupNE d = true) : ∃ x l, d = .tuple (x :: l) := by
  unfold tupNE at h
  split at h
  · exact ⟨_, _, rfl⟩
  · cases h
theorem cut_to {α : Type} (xs : List α) (n : Nat) : cutA xs none (some (n : Int)) = xs.take n := by
  unfold cutA
  rw [HT.sIx_none, HT.sIx_nat, List.drop_zero, Nat.sub_zero]
  rcases Nat.le_total n xs.length with h | h
  · rw [Nat.min_eq_left h]
  · rw [Nat.min_eq_right h, List.take_length, List.take_of_length_le h]
theorem cut_from {α : Type} (xs : List α) (n : Nat) : cutA xs (some (n : Int)) none = xs.drop n := by
  unfold cutA
  rw [HT.sIx_none, HT.sIx_nat]
  rcases Nat.le_total n xs.length with h | h
  · rw [Nat.min_eq_left h]
    exact List.take_of_length_le (by rw [List.length_drop]; exact Nat.le_refl _)
  · rw [Nat.min_eq_right h, Nat.sub_self, List.take_zero, List.drop_of_length_le h]
theorem num_bits {d : PyData} {b : Nat} (h : isD "int" d = true) (s : Sm b 2 9 d) (hb : 2 ≤ b) : (numOf d).natAbs < 2 ^ b ∧ (numOf d + 1).natAbs < 2 ^ (b + 1) ∧ (numOf d - 1).natAbs < 2 ^ (b + 1) ∧ (0 - numOf d).natAbs < 2 ^ (b + 1) ∧ (2 * numOf d).natAbs < 2 ^ (b + 1) := by
  have p : 2 ^ 2 ≤ 2 ^ b := Nat.pow_le_pow_right (by decide) hb
  have q : 2 ^ (b + 1) = 2 ^ b * 2 := Nat.pow_succ ..
  have m : (numOf d).natAbs < 2 ^ b := by
    cases d with
    | int i => exact s.intInv
    | bool c =>
      cases c
      · show (0 : Int).natAbs < _
        simp
        omega
      · show (1 : Int).natAbs < _
        simp
        omega
    | _ => cases h
  exact ⟨m, by omega, by omega, by omega, by omega⟩
section
variable {P : Program} {w : World} {K : PySem.W.Frag} {mg : Str → Option Value} {base : Heap} {C_Form C_Book C_Sheets C_InvalidForm C_InvalidBook C_InvalidSheets C_InvalidSize C_BlankError a_ZERO a_ONE : Addr} {t_MOST_QUESTIONS : Tok}
theorem sc_lshares : FnScope ["deal", "keys", "great", "sizes", "key", "size"] ["deal", "keys"] (defScope s_lshares) := ⟨rfl, rfl, rfl, by decide +kernel, rfl, by decide +kernel, by decide +kernel⟩
theorem ok_lshares (D : Def K mg "_law_shares" s_lshares ["deal", "keys"]) (C_of : Cal P w K mg base CX0 2 "_law_of" s_of ["deal", "some"] (spOf K)) (C_any : Cal P w K mg base CX0 1 "_law_any" s_any ["deal", "bound"] spAny) (C_llow : Cal P w K mg base CX0 2 "_law_low" s_llow ["top", "bottom"] (sp_llow K)) (n_sum : mg "sum" = none) : Cal P w K mg base CX0 3 "_law_shares" s_lshares ["deal", "keys"] (sp_lshares K) := by
  refine D.ok sc_lshares (fun vs H Q E h => ?_) (fun cdv f A outer s H vs Q E hr h => ?_)
  · exact dpf_len h fun _ => rfl
  replace h := dpf1 h
  obtain ⟨d, v, c, B, ks, rfl, L, hv, ⟨l1, l16⟩, k⟩ := h
  refine ⟨_, (pss_cons (ps_set (i := 2) sc_lshares.nd rfl (Or.inr rfl) (pe_cal C_of (hr.mono (by decide)) (by rfl) pass0 (pa_cons (pv 0) (pa_cons (pe_lst (pa_cons pe_int (pa_cons pe_int (pa_cons pe_int (pa_cons pe_int (pa_cons (pe_op op_pow pe_int pe_int) pa_nil)))))) pa_nil))))
    (pss_cons (ps_set (i := 3) sc_lshares.nd rfl (Or.inr rfl) (pe_lc (own := [("key", 4)]) (g := gName 4) (tt := tYes) rfl sc_lshares.nd (pi_list (pv 1)) (blkOk_by (own := [("key", 4)]) (N := ["deal", "keys", "great", "sizes", "key", "size"]) (sc := defScope s_lshares) (by decide +kernel)) (fun _ _ _ _ _ => (pg_name (i := 4) sc_lshares.nd rfl (Or.inl rfl))) (fun _ _ _ _ _ => pts_nil) (fun _ _ _ _ _ => (pe_op op_add pe_int (pe_cal C_any (hr.mono (by decide)) (by rfl) pass0 (pa_cons (pv 0) (pa_cons (pv 2) pa_nil)))))))
    (pss_one (ps_ret (pe_lc (own := [("size", 5)]) (g := gName 5) (tt := tYes) rfl sc_lshares.nd (pi_list (pv 3)) (blkOk_by (own := [("size", 5)]) (N := ["deal", "keys", "great", "sizes", "key", "size"]) (sc := defScope s_lshares) (by decide +kernel)) (fun _ _ _ _ _ => (pg_name (i := 5) sc_lshares.nd rfl (Or.inl rfl))) (fun _ _ _ _ _ => pts_nil) (fun _ _ _ _ _ => (pe_cal C_llow (hr.mono (by decide)) (by rfl) pass0 (pa_cons (pv 5) (pa_cons (pe_callB (id := "sum") (r := rSum K) (cr_sum rfl) (by rfl) n_sum (by decide +kernel) (pa_cons (pv 3) pa_nil)) pa_nil))))))))), ?_⟩
  have line := sizeLine_eq
  have hv : dat K (.list ks) B v := hv
  have l1 : 1 ≤ ks.length := l1
  have l16 : ks.length ≤ 16 := l16
  refine s_w L (Dw.pick (S := intP fun k => 1 ≤ k ∧ k ≤ 10 ^ 9) rfl (.cons (.cv Dw.int fun _ _ ⟨j, hj, hv⟩ => ⟨j, by omega, hv⟩) (.cons (.cv Dw.int fun _ _ ⟨j, hj, hv⟩ => ⟨j, by omega, hv⟩) (.cons (.cv Dw.int fun _ _ ⟨j, hj, hv⟩ => ⟨j, by omega, hv⟩) (.cons (.cv Dw.int fun _ _ ⟨j, hj, hv⟩ => ⟨j, by omega, hv⟩) (.cons ?_ .nil))))) (by decide) (by decide)) fun u2 B2 H2 e2 h2 => ?_
  · exact .cv (Dw.of (R := dat K (.int 1000000000)) (De.eq (De.op .int .int (Rv.I (C := CPow) (i := 10) (j := 9) (f := fun i j => i ^ j.toNat) ⟨by decide, by decide, by decide⟩)) (congrArg PyData.int (by decide)))) fun B v hv => ⟨1000000000, by decide, dat_int hv⟩
  obtain ⟨great, ⟨g1, g2⟩, rfl⟩ := h2
  have hv2 := Mo.mo e2.bb hv
  refine s_w e2.dl (Dw.lcD (K := K) (as := ks) (r := fun d => dat K d) (Di.listD (.var hv2 rfl)) (by omega) (fun i out => ∃ ns : List Int, out = ns.map .int ∧ ns.length = i ∧ ∀ n ∈ ns, 1 ≤ n ∧ n ≤ 10 ^ 9) ⟨[], rfl, rfl, fun n h => nomatch h⟩ fun i a x B1 H1 out ha L1 s1 hx ⟨ns, ho, hl, hn⟩ Y N hY hN => ⟨rfl, ?_⟩) fun u3 B3 H3 e3 h3 => ?_
  · refine c_any (K := K) L1 rfl (.var (Dp.int great) rfl) (by omega) (by omega) fun r B7 H7 r0 r1 e7 => ⟨1, r, rfl, rfl, hY _ B7 H7 (.int (1 + r)) e7 (Dp.int _) ⟨ns ++ [1 + r], by rw [ho]; simp, by simp [hl], fun n hm => ?_⟩⟩
    rcases List.mem_append.mp hm with h | h
    · exact hn n h
    · rw [List.mem_singleton.mp h]
      omega
  obtain ⟨_, ⟨_, rfl, ns, rfl, hl, hn⟩, h3⟩ := h3
  have e23 := e2.trans L e3
  have pos : ∀ {l : List Int}, (∀ n ∈ l, 1 ≤ n ∧ n ≤ 10 ^ 9) → (l.length : Int) ≤ l.sum ∧ l.sum ≤ (l.length : Int) * 10 ^ 9 := by
    intro l
    induction l with
    | nil => exact fun _ => ⟨Int.le_refl _, Int.le_refl _⟩
    | cons a l ih =>
      intro h
      obtain ⟨h1, h2⟩ := ih fun n hm => h n (List.mem_cons_of_mem _ hm)
      obtain ⟨a1, a2⟩ := h a List.mem_cons_self
      rw [List.sum_cons, List.length_cons]
      omega
  obtain ⟨s1, s2⟩ := pos hn
  have s0 : 0 < ns.sum := by omega
  have sb : ns.sum.natAbs < 2 ^ 40 := by omega
  have h3' : dat K (.list (ns.map .int)) B3 u3 := h3
  refine s_retW e23.dl (Dw.of (De.lcA (K := K) (as := ns) (r := fun n => dat K (.int n)) (Di.listM (.var h3' rfl)) (fun n => frD (Rat.divInt n ns.sum)) (by omega) fun n x Bn Hn hm sn sh hx => ⟨[some (.ref d), some v, some (.int great), some u3, none, some x], fun Q q => q, rfl, De.low4 (.var hx rfl) (De.cb (.one (.var (Mo.mo sn h3') rfl)) rc_sum) s0 (Nat.lt_of_lt_of_le sb (Nat.pow_le_pow_right (by decide) (by decide)))⟩)) fun u B' H' e h => k u B' H' (e23.trans L e) ⟨_, ⟨_, rfl, by rw [List.length_map, hl], fun s hs => ?_⟩, h⟩
  obtain ⟨n, hm, rfl⟩ := List.mem_map.mp hs
  obtain ⟨n1, n2⟩ := hn n hm
  have sz := sz_divInt (k := 41) (t := n) (b := ns.sum) (by omega) (by omega) (by omega)
  exact ⟨_, rfl, (show 2 ≤ 3 from by omega), mem2 (.int sz.top) (.int (sz_den sz))⟩
theorem sc_lpicked : FnScope ["deal", "keys", "hard", "some", "key"] ["deal", "keys"] (defScope s_lpicked) := ⟨rfl, rfl, rfl, by decide +kernel, rfl, by decide +kernel, by decide +kernel⟩
theorem ok_lpicked (D : Def K mg "_law_picked" s_lpicked ["deal", "keys"]) (C_of : Cal P w K mg base CX0 2 "_law_of" s_of ["deal", "some"] (spOf K)) (C_any : Cal P w K mg base CX0 1 "_law_any" s_any ["deal", "bound"] spAny) : Cal P w K mg base CX0 3 "_law_picked" s_lpicked ["deal", "keys"] (sp_lpicked K) := by
  refine D.ok sc_lpicked (fun vs H Q E h => ?_) (fun cdv f A outer s H vs Q E hr h => ?_)
  · exact dpf_len h fun _ => rfl
  replace h := dpf1 h
  obtain ⟨d, v, c, B, ks, rfl, L, hv, ⟨l1, l2, kp⟩, k⟩ := h
  refine ⟨_, (pss_cons (ps_set (i := 2) sc_lpicked.nd rfl (Or.inr rfl) (pe_cal C_of (hr.mono (by decide)) (by rfl) pass0 (pa_cons (pv 0) (pa_cons (pe_lst (pa_cons pe_int (pa_cons pe_int (pa_cons pe_int (pa_cons pe_int (pa_cons pe_int pa_nil)))))) pa_nil))))
    (pss_cons (ps_set (i := 3) sc_lpicked.nd rfl (Or.inl rfl) (pe_slice sl_list (pe_lc (own := [("key", 4)]) (g := gName 4) rfl sc_lpicked.nd (pi_list (pv 1)) (blkOk_by (own := [("key", 4)]) (N := ["deal", "keys", "hard", "some", "key"]) (sc := defScope s_lpicked) (by decide +kernel)) (fun _ _ _ _ _ => (pg_name (i := 4) sc_lpicked.nd rfl (Or.inl rfl))) (fun _ _ _ _ _ => pts_one (pt_cmpR op_eq (pe_cal C_any (hr.mono (by decide)) (by rfl) pass0 (pa_cons (pv 0) (pa_cons (pv 2) pa_nil))) pe_int (nomark _))) (fun _ _ _ _ _ => (pv 4))) po_none (po_some (pe_cal C_of (hr.mono (by decide)) (by rfl) pass0 (pa_cons (pv 0) (pa_cons (pe_lst (pa_cons pe_int (pa_cons pe_int (pa_cons pe_int pa_nil)))) pa_nil))))))
    (pss_one (ps_ret (pe_ifExp (pt_cmpR (op_neD hr.units) (pv 3) (pe_lst pa_nil) (nomark _)) (pv 3) (pe_lst (pa_cons (pe_cal C_of (hr.mono (by decide)) (by rfl) pass0 (pa_cons (pv 0) (pa_cons (pv 1) pa_nil))) pa_nil))))))), ?_⟩
  have line := sizeLine_eq
  have hv : dat K (.list ks) B v := hv
  have l1 : 1 ≤ ks.length := l1
  have l2 : ks.length ≤ 1000 := l2
  have kp : ∀ d ∈ ks, KeyP d := kp
  have oneI : ∀ {σ : L2.St} {B : Hp} {n : Int}, 1 ≤ n → n ≤ 16 → Dw (tC (.int n)) σ d c B (intP fun k => 1 ≤ k ∧ k ≤ 16) := fun h1 h2 => .cv Dw.int fun _ _ ⟨j, hj, hv⟩ => ⟨j, by omega, hv⟩
  refine s_w L (Dw.pick (S := intP fun k => 1 ≤ k ∧ k ≤ 16) rfl (.cons (oneI (by decide) (by decide)) (.cons (oneI (by decide) (by decide)) (.cons (oneI (by decide) (by decide)) (.cons (oneI (by decide) (by decide)) (.cons (oneI (by decide) (by decide)) .nil))))) (by decide) (by decide)) fun u2 B2 H2 e2 h2 => ?_
  obtain ⟨hard, ⟨g1, g2⟩, rfl⟩ := h2
  have hv2 := Mo.mo e2.bb hv
  refine s_w e2.dl (Dw.slTo (N := fun k => 1 ≤ k ∧ k ≤ 16) (Dw.lcD (K := K) (as := ks) (r := fun d => dat K d) (Di.listD (.var hv2 rfl)) (by omega) (fun i out => ∀ x ∈ out, x ∈ ks) (fun n h => nomatch h) fun i a x B1 H1 out ha L1 s1 hx ho Y N hY hN => ⟨rfl, ?_⟩) (Dw.pick (S := intP fun k => 1 ≤ k ∧ k ≤ 16) rfl (.cons (oneI (by decide) (by decide)) (.cons (oneI (by decide) (by decide)) (.cons (oneI (by decide) (by decide)) .nil))) (by decide) (by decide))) fun u3 B3 H3 e3 h3 => ?_
  · refine t_any0 (K := K) L1 rfl (.var (Dp.int hard) rfl) (by omega) (by omega) fun b B7 H7 e7 => ite2 (fun _ => ?_) fun _ => hN B7 H7 e7 ho
    refine d_ev (R := dat K a) e7.dl (.var (Mo.mo (R := dat K a) e7.bb hx) rfl) fun y B8 H8 e8 hy => hY y B8 H8 a (e7.trans L1 e8) hy fun z hz => ?_
    rcases List.mem_append.mp hz with h | h
    · exact ho z h
    · rw [List.mem_singleton.mp h]
      exact List.mem_of_getElem? ha
  obtain ⟨_, ⟨ds, rfl, es, n, hes, hn, rfl⟩, h3⟩ := h3
  have e23 := e2.trans L e3
  have sub : ∀ x ∈ cutA es none (some n), x ∈ ks := fun x hx => hes x (cutA_mem hx)
  have len : (cutA es none (some n)).length ≤ 16 := by
    obtain ⟨m, rfl⟩ := Int.eq_ofNat_of_zero_le (show 0 ≤ n by omega)
    rw [cut_to, List.length_take]
    omega
  generalize cutA es none (some n) = ds at h3 sub len
  have sh : SeqAt.shaped (.list ds) = true := (sm_list (k := 2) (fun x hx => (kp x (sub x hx)).sm) 16 len _ (Nat.le_refl _)).shaped
  have h3' : dat K (.list ds) B3 u3 := h3
  have ne : ks ≠ [] := fun z => by rw [z] at l1; cases l1
  refine s_retW e23.dl (Dw.iteB (S := datP K (listOf PickP)) (b := !decide (ds = [])) (Dt.eq (Dt.test (De.op (r := rNeD K) (.var h3' rfl) (De.lstD (K := K) .nil (by show 0 ≤ sizeLine; decide)) (Rv.neD sh rfl))) (by rw [eqv_nil])) (fun t => .cv (.of (.var h3' rfl)) fun B v hv => ⟨_, ⟨ds, rfl, ?_, len, fun x hx => kp x (sub x hx)⟩, hv⟩) fun f => ?_) fun u B' H' e h => k u B' H' (e23.trans L e) h
  · have : ds ≠ [] := by simpa using t
    exact List.length_pos_iff.mpr this
  · refine Dw.cv (Dw.tup1L (P := KeyP) (.cv (Dw.ofL rfl (.var (Mo.mo e23.bb hv) rfl) ne l2) fun B v ⟨x, hx, hv⟩ => ⟨x, kp x hx, hv⟩)) fun B v ⟨x, ⟨ds, hx, y, hy, hd⟩, hv⟩ => ⟨x, ⟨ds, hx, by rw [hd]; exact ⟨Nat.le_refl 1, (by show 1 ≤ 16; decide), mem1 hy⟩⟩, hv⟩
end
end K05

set_option Elab.async false
set_option linter.all false
set_option maxRecDepth 100000
set_option maxHeartbeats 1000000
/-! K05k: keys; things; what is near one. -/
namespace K05
open PySem PySem.Spec PyProof.Rows L2 Wb Wv Fm Wf Fq
section
variable {P : Program} {w : World} {K : PySem.W.Frag} {mg : Str → Option Value} {base : Heap} {C_Form C_Book C_Sheets C_InvalidForm C_InvalidBook C_InvalidSheets C_InvalidSize C_BlankError a_ZERO a_ONE : Addr} {t_MOST_QUESTIONS : Tok}
theorem row_small {qs : Qs} {lo : Int} (fo : FOk qs) (h1 : -1 ≤ lo) (h2 : lo ≤ 0) {r : List Int} (h : r ∈ grow (qs.map fun q => rng lo ((q.2 : Int) - lo).toNat)) : r.length ≤ 3 ∧ ∀ i ∈ r, i.natAbs ≤ 8 := by
  refine ⟨by rw [grow_row h, List.length_map]; exact fo.few, fun i hi => ?_⟩
  obtain ⟨j, hj, rfl⟩ := List.mem_iff_getElem.mp hi
  have pk := grow_picks _ r h
  have lj : j < (qs.map fun q => rng lo ((q.2 : Int) - lo).toNat).length := by rw [← picks_len pk]; exact hj
  obtain ⟨v, hv, hm⟩ := picks_at pk (List.getElem?_eq_getElem lj)
  rw [List.getElem?_eq_getElem hj] at hv
  cases hv
  rw [List.getElem_map] at hm
  have hq : qs[j]'(by rw [List.length_map] at lj; exact lj) ∈ qs := List.getElem_mem _
  have := (fo.two _ hq).2
  unfold rng at hm
  obtain ⟨k, hk, ek⟩ := List.mem_map.mp hm
  rw [List.mem_range] at hk
  omega
theorem grow_ge {α : Type} : ∀ (n : Nat) {ls : List (List α)}, ls.length = n → (∀ l ∈ ls, 2 ≤ l.length) → n + 1 ≤ (grow ls).length
  | 0, ls, h, _ => by
    have := List.eq_nil_of_length_eq_zero h
    subst this
    exact Nat.le_refl _
  | n + 1, ls, h, hl => by
    rcases List.eq_nil_or_concat ls with e | ⟨init, l, e⟩
    · subst e
      cases h
    · rw [List.concat_eq_append] at e
      subst e
      have li : init.length = n := by simpa using h
      have ih := grow_ge n li fun l hm => hl l (List.mem_append_left _ hm)
      have l2 := hl l (List.mem_append_right _ (List.mem_singleton.mpr rfl))
      rw [grow_snoc, grow1_len]
      have := Nat.mul_le_mul ih l2
      omega
theorem rows_few {qs : Qs} {lo : Int} (fo : FOk qs) (h1 : -1 ≤ lo) (h2 : lo ≤ 0) : 1 ≤ (grow (qs.map fun q => rng lo ((q.2 : Int) - lo).toNat)).length ∧ (grow (qs.map fun q => rng lo ((q.2 : Int) - lo).toNat)).length ≤ 64 := by
  constructor
  · have := grow_ge _ (ls := qs.map fun q => rng lo ((q.2 : Int) - lo).toNat) rfl fun l hl => by
      obtain ⟨q, hq, rfl⟩ := List.mem_map.mp hl
      have := (fo.two q hq).1
      rw [rng_len]
      omega
    omega
  · have := grow_len (m := 4) (qs.map fun q => rng lo ((q.2 : Int) - lo).toNat) fun l hl => by
      obtain ⟨q, hq, rfl⟩ := List.mem_map.mp hl
      have := (fo.two q hq).2
      rw [rng_len]
      omega
    rw [List.length_map] at this
    have p : 4 ^ qs.length ≤ 4 ^ 3 := Nat.pow_le_pow_right (by decide) fo.few
    omega
theorem int8 {i : Int} (h : i.natAbs ≤ 8) : Sm 41 0 8 (.int i) := .int (by omega)
theorem sc_lkeys : FnScope ["questions", "way", "sheet", "lots", "name", "many", "pairs", "lot", "truth"] ["questions", "way"] (defScope s_lkeys) := ⟨rfl, rfl, rfl, by decide +kernel, rfl, by decide +kernel, by decide +kernel⟩
theorem ok_lkeys (D : Def K mg "_law_keys" s_lkeys ["questions", "way"]) (C_lrows : Cal P w K mg base CX0 1 "_law_rows" s_lrows ["questions", "least"] (sp_lrows K)) (C_lsubsets : Cal P w K mg base CX0 1 "_law_subsets" s_lsubsets ["names"] (sp_lsubsets K)) : Cal P w K mg base CX0 2 "_law_keys" s_lkeys ["questions", "way"] (sp_lkeys K) := by
  refine D.ok sc_lkeys (fun vs H Q E h => ?_) (fun cdv f A outer s H vs Q E hr h => ?_)
  · exact pf_len h fun _ => rfl
  replace h := pf2 h
  obtain ⟨v, v1, B, ⟨qs, way⟩, rfl, hB, hv, hv1, fo, k⟩ := h
  refine ⟨_, (pss_cons (ps_if (pt_cmpR op_eq (pv 1) pe_int (nomark _)) (pss_one (ps_ret (pe_lc (own := [("sheet", 2)]) (g := gName 2) (tt := tYes) rfl sc_lkeys.nd (pi_list (pe_cal C_lrows (hr.mono (by decide)) (by rfl) pass0 (pa_cons (pv 0) (pa_cons (pe_op op_sub pe_int pe_int) pa_nil)))) (blkOk_by (own := [("sheet", 2)]) (N := ["questions", "way", "sheet", "lots", "name", "many", "pairs", "lot", "truth"]) (sc := defScope s_lkeys) (by decide +kernel)) (fun _ _ _ _ _ => (pg_name (i := 2) sc_lkeys.nd rfl (Or.inl rfl))) (fun _ _ _ _ _ => pts_nil) (fun _ _ _ _ _ => (pe_tup (pa_cons (pv 2) pa_nil)))))) pss_nil)
    (pss_cons (ps_set (i := 3) sc_lkeys.nd rfl (Or.inl rfl) (pe_cal C_lsubsets (hr.mono (by decide)) (by rfl) pass0 (pa_cons (pe_lc (own := [("name", 4), ("many", 5)]) (g := gTup K 2 (gCons (gName 4) (gCons (gName 5) gNil))) (tt := tYes) rfl sc_lkeys.nd (pi_tup (pv 0)) (blkOk_by (own := [("name", 4), ("many", 5)]) (N := ["questions", "way", "sheet", "lots", "name", "many", "pairs", "lot", "truth"]) (sc := defScope s_lkeys) (by decide +kernel)) (fun _ _ _ _ _ => (pg_tup rfl (pgs_cons (pg_name (i := 4) sc_lkeys.nd rfl (Or.inl rfl)) (pgs_cons (pg_name (i := 5) sc_lkeys.nd rfl (Or.inl rfl)) pgs_nil)))) (fun _ _ _ _ _ => pts_nil) (fun _ _ _ _ _ => (pv 4))) pa_nil)))
    (pss_cons (ps_set (i := 6) sc_lkeys.nd rfl (Or.inl rfl) (pe_lst pa_nil))
    (pss_cons (ps_for PassesOwn.never rfl (pi_list (pv 3)) (pg_name (i := 7) sc_lkeys.nd rfl (Or.inr rfl)) (pss_one (ps_set (i := 6) sc_lkeys.nd rfl (Or.inl rfl) (pe_op op_catS (pv 6) (pe_lc (own := [("truth", 8)]) (g := gName 8) (tt := tYes) rfl sc_lkeys.nd (pi_list (pe_cal C_lrows (hr.mono (by decide)) (by rfl) pass0 (pa_cons (pv 0) (pa_cons pe_int pa_nil)))) (blkOk_by (own := [("truth", 8)]) (N := ["questions", "way", "sheet", "lots", "name", "many", "pairs", "lot", "truth"]) (sc := defScope s_lkeys) (by decide +kernel)) (fun _ _ _ _ _ => (pg_name (i := 8) sc_lkeys.nd rfl (Or.inl rfl))) (fun _ _ _ _ _ => pts_nil) (fun _ _ _ _ _ => (pe_tup (pa_cons (pv 7) (pa_cons (pv 8) pa_nil)))))))))
    (pss_one (ps_ret (pv 6))))))), ?_⟩
  have line := sizeLine_eq
  have hv : dat K (qsD qs) B v := hv
  have fo : FOk qs := fo
  have f3 := fo.few
  have sm : Small qs := ⟨by omega, fun q h => by have := (fo.two q h).2; omega⟩
  have k : ∀ (v : V) (B' H' : Hp), Ext B H B' H' → datP K (listOf KeysP) B' v → Q v H' := k
  have rowsE : ∀ {σ : L2.St} {B1 : Hp} {te : TE} {lo : Int}, Same B B1 → σ[0]? = some (some v) → De te σ B1 (dat K (.int lo)) → -1 ≤ lo → lo ≤ 0 → De (tCall (sp_lrows K) [] E0 (tCons (tVar 0) (tCons te tNil))) σ B1 (dat K (.list ((grow (qs.map fun q => rng lo ((q.2 : Int) - lo).toNat)).map rowD))) := fun {σ B1 te lo} s h0 h h1 h2 =>
    De.call (args := fun a : Qs × Int => [dat K (qsD a.1), dat K (.int a.2)]) (res := fun a => dat K (rowsL (grow (a.1.map fun q => rng a.2 ((q.2 : Int) - a.2).toNat)))) (qs, lo) (.cons (.var (Mo.mo s hv) h0) (.cons h .nil)) ⟨sm, h1, h2⟩
  cases way with
  | true =>
    have hv1 : dat K (.int 1) B v1 := hv1
    obtain ⟨r1, r2⟩ := rows_few (qs := qs) (lo := -1) fo (by decide) (by decide)
    refine s_ifS (b := true) (Dt.eq (Dt.test (De.op (r := rEq) (.var hv1 rfl) (De.int (n := 1)) Rv.eqI)) rfl) hB (fun _ B1 H1 e1 => ?_) fun z => nomatch z
    refine s_ret (De.lcA (K := K) (as := grow (qs.map fun q => rng (-1) ((q.2 : Int) - -1).toNat)) (r := fun r => dat K (rowD r)) (Di.listM (f := rowD) (rowsE e1.bb rfl (De.eq (De.op (De.int (n := 0)) (De.int (n := 1)) Rv.I0) (e := .int (-1)) rfl) (by decide) (by decide))) (fun r => .tuple [rowD r]) (by omega) fun r x Bn Hn hr sn sh hx => ⟨_, fun Q q => q, rfl, De.tupD (.cons (.var hx rfl) .nil) (by show 1 ≤ sizeLine; omega)⟩) e1.bh fun u B' H' e h => k u B' H' (e1.trans e) ⟨_, ⟨_, rfl, by rw [List.length_map]; exact r1, by rw [List.length_map]; omega, fun d hd => ?_⟩, h⟩
    obtain ⟨r, hr, rfl⟩ := List.mem_map.mp hd
    obtain ⟨l3, ri⟩ := row_small fo (by decide) (by decide) hr
    refine ⟨_, rfl, (show 1 ≤ 2 by decide), mem1 ⟨_, rfl, by rw [List.length_map]; exact l3, fun y hy => ?_⟩⟩
    obtain ⟨i, hi, rfl⟩ := List.mem_map.mp hy
    exact int8 (ri i hi)
  | false =>
    have hv1 : dat K (.int 0) B v1 := hv1
    obtain ⟨r1, r2⟩ := rows_few (qs := qs) (lo := 0) fo (by decide) (by decide)
    refine s_skip (Dt.eq (Dt.test (De.op (r := rEq) (.var hv1 rfl) (De.int (n := 1)) Rv.eqI)) rfl) hB fun B1 H1 e1 => ?_
    have ns4 : (Fm.names qs).length ≤ 4 := by unfold Fm.names; rw [List.length_map]; omega
    refine s_set (De.call (args := fun l : List Str => [dat K (.list (l.map .str))]) (res := fun l => dat K (.list (sortD ((subs l).map lotD)))) (Fm.names qs) (.cons (De.eq (De.lcA (K := K) (as := qs) (r := fun q => dat K (encQ q)) (Di.tupM (f := encQ) (.var (Mo.mo e1.bb hv) rfl)) (fun q => .str q.1) (by omega) fun q x Bn Hn hq sn sh hx => ?_) (e := .list ((Fm.names qs).map .str)) (by unfold Fm.names; rw [List.map_map]; rfl)) .nil) ns4) e1.bh fun v3 B3 H3 e3 h3 => ?_
    · obtain ⟨y, z, hy, hz, go⟩ := gTup2 (σ1 := wipe [some v, some v1, none, none, none, none, none, none, none] [4, 5]) (i := 4) (j := 5) sh (dat_pair hx)
      exact ⟨_, go, rfl, .var hy rfl⟩
    obtain ⟨ls, perm, es⟩ := sortD_lots (subs (Fm.names qs))
    have h3 : dat K (.list (sortD ((subs (Fm.names qs)).map lotD))) B3 v3 := h3
    rw [es] at h3
    have ll : ls.length = 2 ^ (Fm.names qs).length := by
      rw [perm.length_eq]
      have := subs_len (Fm.names qs) _ (Nat.le_refl _)
      rwa [List.take_length] at this
    have l8 : ls.length ≤ 8 := by
      rw [ll]
      have : (Fm.names qs).length ≤ 3 := by unfold Fm.names; rw [List.length_map]; exact f3
      exact Nat.pow_le_pow_right (by decide) this
    have l1 : 1 ≤ ls.length := by
      rw [ll]
      exact Nat.one_le_two_pow
    refine s_set (De.lstD (K := K) .nil (by show 0 ≤ sizeLine; decide)) e3.bh fun v6 B6 H6 e6 h6 => ?_
    have e16 := (e1.trans e3).trans e6
    generalize hrs : grow (qs.map fun q => rng 0 ((q.2 : Int) - 0).toNat) = rs at r1 r2
    refine s_forS (Di.listM (K := K) (as := ls) (f := lotD) (.var (Mo.mo e6.bb h3) rfl)) e6.bh (fun i σ B => ∃ u v2 v4 v5 v7 v8, σ = [some v, some v1, v2, some v3, v4, v5, some u, v7, v8] ∧ dat K (.list ((ls.take i).flatMap fun l => rs.map fun r => .tuple [lotD l, rowD r])) B u) (fun B' s => ⟨v6, _, _, _, _, _, rfl, Mo.mo s h6⟩) ?_ ?_
    · rintro B2 H2 e2 i R x σ' Bc Bn Hn hR ⟨u, v2, v4, v5, v7, v8, rfl, hu⟩ s e hx
      rw [List.getElem?_map] at hR
      obtain ⟨l, hl, rfl⟩ := Option.map_eq_some_iff.mp hR
      have hx : dat K (lotD l) Bn x := hx
      have sB := (e16.bb.trans e2.bb).trans e.bb
      have il : i < ls.length := (List.getElem?_eq_some_iff.mp hl).1
      have fl : ((ls.take i).flatMap fun l => rs.map fun r => PyData.tuple [lotD l, rowD r]).length ≤ 8 * 64 := by
        rw [List.length_flatMap]
        simp only [List.length_map]
        rw [List.map_const', List.sum_replicate_nat, List.length_take]
        exact Nat.mul_le_mul (by omega) r2
      change tAsg _ _ _ [some v, some v1, v2, some v3, v4, v5, some u, some x, v8] Hn
      refine s_setE (De.op (r := rCatS K) (.var (Mo.mo s hu) rfl) (De.lcA (K := K) (as := rs) (r := fun r => dat K (rowD r)) (Di.listM (f := rowD) (De.eq (rowsE sB rfl .int (by decide) (by decide)) (by rw [hrs]))) (fun r => .tuple [lotD l, rowD r]) (by omega) fun r y Bm Hm hr sm sh hy => ⟨_, fun Q q => q, rfl, De.tupD (.cons (.var (Mo.mo sm hx) rfl) (.cons (.var hy rfl) .nil)) (by show 2 ≤ sizeLine; omega)⟩) (Rv.catS (by rw [List.length_map]; omega))) e.bh fun u9 B9 H9 e9 h9 => ⟨B9, e.trans e9, u9, _, _, _, _, _, rfl, ?_⟩
      rw [take_snoc hl, List.flatMap_append]
      simpa using h9
    · rintro σ' B' H' e2 ⟨u, v2, v4, v5, v7, v8, rfl, hu⟩
      rw [List.length_map, List.take_length] at hu
      have fl : (ls.flatMap fun l => rs.map fun r => PyData.tuple [lotD l, rowD r]).length = ls.length * rs.length := by
        rw [List.length_flatMap]
        simp only [List.length_map]
        rw [List.map_const', List.sum_replicate_nat]
      refine s_ret (.var hu rfl) e2.bh fun u B' H' e h => k u B' H' ((e16.trans e2).trans e) ⟨_, ⟨_, rfl, by rw [fl]; exact Nat.mul_le_mul l1 r1, ?_, fun d hd => ?_⟩, h⟩
      · rw [fl]
        have := Nat.mul_le_mul l8 r2
        omega
      · obtain ⟨l, hl, hd⟩ := List.mem_flatMap.mp hd
        obtain ⟨r, hr, rfl⟩ := List.mem_map.mp hd
        have hl := perm.mem_iff.mp hl
        rw [← hrs] at hr
        obtain ⟨l3, ri⟩ := row_small fo (by decide) (by decide) hr
        refine ⟨_, rfl, Nat.le_refl 2, mem2 ⟨_, rfl, ?_, fun y hy => ?_⟩ ⟨_, rfl, by rw [List.length_map]; exact l3, fun y hy => ?_⟩⟩
        · rw [List.length_map]
          have := subs_row hl
          unfold Fm.names at this
          rw [List.length_map] at this
          omega
        · obtain ⟨z, hz, rfl⟩ := List.mem_map.mp hy
          exact .str (fo.nm z (subs_in hl z hz)).nmk
        · obtain ⟨i, hi, rfl⟩ := List.mem_map.mp hy
          exact int8 (ri i hi)
theorem sc_thing : FnScope ["deal", "number"] ["deal"] (defScope s_thing) := ⟨rfl, rfl, rfl, by decide +kernel, rfl, by decide +kernel, by decide +kernel⟩
theorem ok_thing (D : Def K mg "_law_thing" s_thing ["deal"]) (C_of : Cal P w K mg base CX0 2 "_law_of" s_of ["deal", "some"] (spOf K)) (C_any : Cal P w K mg base CX0 1 "_law_any" s_any ["deal", "bound"] spAny) : Cal P w K mg base CX0 3 "_law_thing" s_thing ["deal"] (sp_thing K) := by
  refine D.ok sc_thing (fun vs H Q E h => ?_) (fun cdv f A outer s H vs Q E hr h => ?_)
  · exact dpf_len h fun _ => rfl
  replace h := dpf0 h
  obtain ⟨d, c, B, _, rfl, L, _, k⟩ := h
  refine ⟨_, (pss_cons (ps_set (i := 1) sc_thing.nd rfl (Or.inl rfl) (pe_cal C_of (hr.mono (by decide)) (by rfl) pass0 (pa_cons (pv 0) (pa_cons (pe_lst (pa_cons pe_int (pa_cons pe_int (pa_cons (pe_un un_neg pe_int) (pa_cons pe_int (pa_cons (pe_op op_add (pe_op op_pow pe_int pe_int) (pe_cal C_any (hr.mono (by decide)) (by rfl) pass0 (pa_cons (pv 0) (pa_cons pe_int pa_nil)))) pa_nil)))))) pa_nil))))
    (pss_one (ps_ret (pe_cal C_of (hr.mono (by decide)) (by rfl) pass0 (pa_cons (pv 0) (pa_cons (pe_lst (pa_cons pe_non (pa_cons pe_bl (pa_cons (pv 1) (pa_cons pe_str (pa_cons pe_str (pa_cons (pe_lst (pa_cons (pv 1) pa_nil)) (pa_cons (pe_tup pa_nil) (pa_cons (pe_tup (pa_cons (pv 1) pa_nil)) (pa_cons (pe_tup (pa_cons (pv 1) (pa_cons pe_int pa_nil))) (pa_cons (pe_tup (pa_cons pe_str pa_nil)) (pa_cons (pe_tup (pa_cons (pe_tup pa_nil) (pa_cons (pe_tup (pa_cons pe_int pa_nil)) (pa_cons (pe_tup (pa_cons pe_int (pa_cons pe_int pa_nil))) pa_nil)))) pa_nil)))))))))))) pa_nil)))))), ?_⟩
  have oneI : ∀ {σ : L2.St} {B : Hp} {n : Int}, n.natAbs < 2 ^ 41 → Dw (tC (.int n)) σ d c B (intP fun k => k.natAbs < 2 ^ 41) := fun h => .cv Dw.int fun _ _ ⟨j, hj, hv⟩ => ⟨j, by rw [hj]; exact h, hv⟩
  refine s_w L (Dw.pick (S := intP fun k => k.natAbs < 2 ^ 41) rfl (.cons (oneI (by decide)) (.cons (oneI (by decide)) (.cons (.cv (.of (De.negI (K := K) (n := 1) .int)) fun _ _ h => ⟨-1, by decide, dat_int h⟩) (.cons (oneI (by decide)) (.cons ?_ .nil))))) (by decide) (by decide)) fun u1 B1 H1 e1 ⟨n, hn, en⟩ => ?_
  · refine Dw.op (R := intP fun k => k = 10 ^ 12) (S := intP fun r => 0 ≤ r ∧ r < 9) (.cv (Dw.of (R := dat K (.int (10 ^ 12))) (De.op (De.int (K := K)) (De.int (K := K)) (Rv.I (C := CPow) (i := 10) (j := 12) (f := fun i j => i ^ j.toNat) ⟨by decide, by decide, by decide⟩))) fun _ _ h => ⟨_, rfl, dat_int h⟩) (Dw.any (K := K) rfl .int (by decide) (by decide)) fun B x y B1 H1 s1 s2 ⟨i, hi, hx⟩ ⟨j, hj, hy⟩ Q q => ⟨i, j, hx, hy, q _ B1 H1 (.refl s2) ⟨_, ?_, rfl⟩⟩
    subst hi
    omega
  subst en
  have nE : ∀ {B : Hp} {σ : L2.St}, σ[1]? = some (some (.int n)) → De (tVar 1) σ B (dat K (.int n)) := fun h => .var (Dp.int n) h
  have n9 : ∀ {k W : Nat}, Sm 41 k W (.int n) := .int hn
  have th : ∀ {x : PyData} {te : TE} {σ : L2.St} {B : Hp}, De te σ B (dat K x) → ThP x → Dw te σ d c B (datP K ThP) := fun h t => Dw.D1 h t
  have leafP : ∀ {x : PyData}, Sm 41 2 9 x → (∀ es, x ≠ .tuple es) → ThP x := fun h n => ⟨h, fun es e => absurd e (n es)⟩
  have tupP : ∀ {es : List PyData}, es.length ≤ 3 → (∀ y ∈ es, Sm 41 1 2 y) → ThP (.tuple es) := fun l h => ⟨sm_tuple h 3 l _ (by decide), fun fs e => by
    injection e with e
    subst e
    exact ⟨l, h⟩⟩
  have t1 : ∀ z : Str, z.length ≤ 2 → (∀ c ∈ z.cps.toList, c < 128) → ∀ {k W : Nat}, 2 ≤ W → Sm 41 k W (.str z) := fun z h1 h2 k W hW => .str ⟨by omega, h2⟩
  refine s_retW e1.dl (Dw.pick (S := datP K ThP) rfl (.cons (th .non (leafP .none fun es z => nomatch z)) (.cons (th .bl (leafP (.bool _) fun es z => nomatch z)) (.cons (th (nE rfl) (leafP n9 fun es z => nomatch z)) (.cons (th .str (leafP (t1 _ (by decide +kernel) (by decide +kernel) (by decide)) fun es z => nomatch z)) (.cons (th .str (leafP (t1 _ (by decide +kernel) (by decide +kernel) (by decide)) fun es z => nomatch z)) (.cons (th (De.lstD (.cons (nE rfl) .nil) (by show 1 ≤ sizeLine; decide)) (leafP (sm_list (k := 1) (W := 0) (mem1 n9) 1 (Nat.le_refl 1) _ (by decide)) fun es z => nomatch z)) (.cons (th (De.tupD .nil (by show 0 ≤ sizeLine; decide)) (tupP (es := []) (by decide) fun y hy => nomatch hy)) (.cons (th (De.tupD (.cons (nE rfl) .nil) (by show 1 ≤ sizeLine; decide)) (tupP (show 1 ≤ 3 by decide) (mem1 n9))) (.cons (th (De.tupD (.cons (nE rfl) (.cons .int .nil)) (by show 2 ≤ sizeLine; decide)) (tupP (show 2 ≤ 3 by decide) (mem2 n9 (.int (by decide))))) (.cons (th (De.tupD (.cons .str .nil) (by show 1 ≤ sizeLine; decide)) (tupP (show 1 ≤ 3 by decide) (mem1 (t1 _ (by decide +kernel) (by decide +kernel) (by decide))))) (.cons (th (De.tupD (.cons (De.tupD .nil (by show 0 ≤ sizeLine; decide)) (.cons (De.tupD (.cons .int .nil) (by show 1 ≤ sizeLine; decide)) (.cons (De.tupD (.cons .int (.cons .int .nil)) (by show 2 ≤ sizeLine; decide)) .nil))) (by show 3 ≤ sizeLine; decide)) (tupP (show 3 ≤ 3 by decide) (mem3 (sm_tuple (ds := []) (k := 0) (W := 0) (fun y hy => nomatch hy) 0 (Nat.le_refl 0) _ (by decide)) (sm_tuple (k := 0) (W := 0) (mem1 (.int (by decide))) 1 (Nat.le_refl 1) _ (by decide)) (sm_tuple (k := 0) (W := 0) (mem2 (.int (by decide)) (.int (by decide))) 2 (Nat.le_refl 2) _ (by decide))))) .nil))))))))))) (by decide) (by decide)) fun v B' H' e h => k v B' H' (e1.trans L e) h
theorem thg {σ : L2.St} {d c : Addr} {B : Hp} {E : XK} (h : σ[0]? = some (some (.ref d))) : Dw (tCall (sp_thing K) [] E (tCons (tVar 0) tNil)) σ d c B (datP K ThP) := Dw.def1 (args := fun _ : Unit => []) (res := fun _ => datP K ThP) () h .nil trivial
theorem ne_test {σ : L2.St} {B : Hp} {v : V} {x : PyData} (hv : dat K x B v) (h1 : σ[1]? = some (some v)) : Dt (tOr (tNot (tB (tCB (rIsi K) (tCons (tVar 1) (tCons (tC (.ty "tuple")) tNil))))) (tTest (tOp rEq (tCB (Wv.rLen K) (tCons (tVar 1) tNil)) (tC (.int 0))))) σ B (!tupNE x) := by
  cases ht : isD "tuple" x with
  | false =>
    have e : tupNE x = false := by cases x <;> first | rfl | cases ht
    rw [e]
    exact Dt.or (a := true) (b := true) (Dt.eq (Dt.not (Dt.tB (De.isi (.var hv h1) (by simp)))) (by rw [ht]; rfl)) fun z => nomatch z
  | true =>
    obtain ⟨ds, rfl⟩ : ∃ ds, x = .tuple ds := by cases x <;> first | exact ⟨_, rfl⟩ | cases ht
    refine Dt.or (a := false) (Dt.eq (Dt.not (Dt.tB (De.isi (.var hv h1) (by simp)))) rfl) fun _ => Dt.eq (Dt.test (De.op (r := rEq) (De.lenT (.var hv h1)) (De.int (n := 0)) Rv.eqI)) ?_
    cases ds with
    | nil => rfl
    | cons y l => exact decide_eq_false (by rw [List.length_cons]; omega)
theorem sc_near : FnScope ["deal", "thing", "at", "other"] ["deal", "thing"] (defScope s_near) := ⟨rfl, rfl, rfl, by decide +kernel, rfl, by decide +kernel, by decide +kernel⟩
theorem ok_near (D : Def K mg "_law_near" s_near ["deal", "thing"]) (n_tuple : mg "tuple" = none) (n_isinstance : mg "isinstance" = none) (n_len : mg "len" = none) (C_of : Cal P w K mg base CX0 2 "_law_of" s_of ["deal", "some"] (spOf K)) (C_thing : Cal P w K mg base CX0 3 "_law_thing" s_thing ["deal"] (sp_thing K)) (C_any : Cal P w K mg base CX0 1 "_law_any" s_any ["deal", "bound"] spAny) (n_int : mg "int" = none) (n_list : mg "list" = none) : Cal P w K mg base CX0 4 "_law_near" s_near ["deal", "thing"] (sp_near K) := by
  refine D.ok sc_near (fun vs H Q E h => ?_) (fun cdv f A outer s H vs Q E hr h => ?_)
  · exact dpf_len h fun _ => rfl
  replace h := dpf1 h
  obtain ⟨d, v, c, B, ⟨j, x⟩, rfl, L, hv, ⟨j1, pp⟩, k⟩ := h
  refine ⟨_, (pss_cons (ps_if (PW.pt (pw_or (pt_not (pt_val (pe_callB call_isi (by rfl) n_isinstance (by decide +kernel) (pa_cons (pv 1) (pa_cons (pe_bltn (by rfl) n_tuple (by decide +kernel) (show RelV (.ty "tuple") (.type "tuple") from rfl)) pa_nil))))) (pw_or1 (pt_cmpR op_eq (pe_callB call_len (by rfl) n_len (by decide +kernel) (pa_cons (pv 1) pa_nil)) pe_int (nomark _))))) (pss_one (ps_ret (pe_cal C_of (hr.mono (by decide)) (by rfl) pass0 (pa_cons (pv 0) (pa_cons (pe_lst (pa_cons (pe_tup (pa_cons pe_str pa_nil)) (pa_cons (pe_cal C_thing (hr.mono (by decide)) (by rfl) pass0 (pa_cons (pv 0) pa_nil)) (pa_cons (pe_tup (pa_cons pe_int pa_nil)) (pa_cons (pe_tup (pa_cons (pe_op op_sub pe_int pe_int) (pa_cons (pe_op op_sub pe_int pe_int) pa_nil))) pa_nil))))) pa_nil))))) pss_nil)
    (pss_cons (ps_set (i := 2) sc_near.nd rfl (Or.inl rfl) (pe_cal C_any (hr.mono (by decide)) (by rfl) pass0 (pa_cons (pv 0) (pa_cons (pe_callB call_len (by rfl) n_len (by decide +kernel) (pa_cons (pv 1) pa_nil)) pa_nil))))
    (pss_cons (ps_set (i := 3) sc_near.nd rfl (Or.inl rfl) (pe_cal C_of (hr.mono (by decide)) (by rfl) pass0 (pa_cons (pv 0) (pa_cons (pe_lst (pa_cons (pe_cal C_thing (hr.mono (by decide)) (by rfl) pass0 (pa_cons (pv 0) pa_nil)) (pa_cons (pe_ix ix_tup (pv 1) (pv 2) (fun _ _ => rfl)) (pa_cons pe_str (pa_cons pe_int (pa_cons (pe_op op_sub pe_int pe_int) (pa_cons pe_int (pa_cons pe_int (pa_cons pe_int pa_nil))))))))) pa_nil))))
    (pss_cons (ps_if (pt_val (pe_callB call_isi (by rfl) n_isinstance (by decide +kernel) (pa_cons (pe_ix ix_tup (pv 1) (pv 2) (fun _ _ => rfl)) (pa_cons (pe_bltn (by rfl) n_int (by decide +kernel) (show RelV (.ty "int") (.type "int") from rfl)) pa_nil)))) (pss_one (ps_set (i := 3) sc_near.nd rfl (Or.inl rfl) (pe_cal C_of (hr.mono (by decide)) (by rfl) pass0 (pa_cons (pv 0) (pa_cons (pe_lst (pa_cons (pv 3) (pa_cons (pe_op op_addBI (pe_ix ix_tup (pv 1) (pv 2) (fun _ _ => rfl)) pe_int) (pa_cons (pe_op op_subBI (pe_ix ix_tup (pv 1) (pv 2) (fun _ _ => rfl)) pe_int) (pa_cons (pe_op op_subIB pe_int (pe_ix ix_tup (pv 1) (pv 2) (fun _ _ => rfl))) (pa_cons (pe_op op_mulIB pe_int (pe_ix ix_tup (pv 1) (pv 2) (fun _ _ => rfl))) pa_nil)))))) pa_nil))))) pss_nil)
    (pss_one (ps_ret (pe_cal C_of (hr.mono (by decide)) (by rfl) pass0 (pa_cons (pv 0) (pa_cons (pe_lst (pa_cons (pe_op op_catA (pe_op op_catA (pe_slice sl_tupA (pv 1) po_none (po_some (pv 2))) (pe_tup (pa_cons (pv 3) pa_nil))) (pe_slice sl_tupA (pv 1) (po_some (pe_op op_add (pv 2) pe_int)) po_none)) (pa_cons (pe_op op_catA (pe_op op_catA (pe_slice sl_tupA (pv 1) po_none (po_some (pv 2))) (pe_tup (pa_cons (pv 3) pa_nil))) (pe_slice sl_tupA (pv 1) (po_some (pe_op op_add (pv 2) pe_int)) po_none)) (pa_cons (pe_callTy call_list_of (by rfl) n_list (by decide +kernel) (pa_cons (pv 1) pa_nil)) (pa_cons (pe_op op_catA (pv 1) (pe_tup (pa_cons (pv 3) pa_nil))) (pa_cons (pe_slice sl_tupA (pv 1) po_none (po_some (pv 2))) pa_nil)))))) pa_nil))))))))), ?_⟩
  have line := sizeLine_eq
  have hv : dat K x B v := hv
  have pp : PartP j x := pp
  have j1 : j ≤ 1 := j1
  have k : ∀ (v : V) (B' H' : Hp), ExtD d c B H B' H' → datP K (PartP (j + 1)) B' v → Q v H' := k
  have smI : ∀ {i : Int}, i.natAbs ≤ 8 → Sm (42 + (j + 1)) 2 9 (.int i) := fun h => .int (by have : 2 ^ 4 ≤ 2 ^ (42 + (j + 1)) := Nat.pow_le_pow_right (by decide) (by omega); omega)
  refine s_ifS (b := !tupNE x) (ne_test hv rfl) L.bh (fun t B1 H1 e1 => ?_) fun f B1 H1 e1 => ?_
  · have eL := ExtD.of L e1
    have qs1 : Sm (42 + (j + 1)) 2 9 (.str (Str.ofString "q")) := .str ⟨by decide +kernel, by decide +kernel⟩
    exact s_retW eL.dl (Dw.pick (S := datP K (PartP (j + 1))) rfl (.cons (Dw.D1 (De.tupD (.cons .str .nil) (by show 1 ≤ sizeLine; omega)) (part_of (by show 1 ≤ _; omega) (mem1 qs1))) (.cons (Dw.cv (thg rfl) fun _ _ ⟨y, hy, h⟩ => ⟨y, hy.part _, h⟩) (.cons (Dw.D1 (De.tupD (.cons .int .nil) (by show 1 ≤ sizeLine; omega)) (part_of (by show 1 ≤ _; omega) (mem1 (smI (by decide))))) (.cons (Dw.D1 (De.tupD (.cons (De.op (De.int (n := 0)) (De.int (n := 1)) Rv.I0) (.cons (De.op (De.int (n := 0)) (De.int (n := 1)) Rv.I0) .nil)) (by show 2 ≤ sizeLine; omega)) (part_of (by show 2 ≤ _; omega) (mem2 (smI (by decide)) (smI (by decide))))) .nil)))) (by decide) (by decide)) fun v B' H' e h => k v B' H' (eL.trans L e) h
  · obtain ⟨y0, l0, ex⟩ := tupNE_form (d := x) (by simpa using f)
    generalize hds : y0 :: l0 = ds at ex
    have pos : 1 ≤ ds.length := by rw [← hds, List.length_cons]; omega
    subst ex
    obtain ⟨len, ely⟩ := pp.2 ds rfl
    have eL := ExtD.of L e1
    have hv := Mo.mo e1.bb hv
    dsimp only [tNext]
    refine s_raw (c_any (K := K) (n := (ds.length : Int)) eL.dl rfl (De.lenT (.var hv rfl)) (by omega) (by omega) fun r B2 H2 r0 r1 e2 => ?_)
    obtain ⟨i, rfl⟩ := Int.eq_ofNat_of_zero_le r0
    have il : i < ds.length := by omega
    have hi : ds[i]? = some ds[i] := List.getElem?_eq_getElem il
    have eA := eL.trans L e2
    have hv := Mo.mo e2.bb hv
    have so : Sm (42 + j) 2 9 ds[i] := ely _ (List.getElem_mem il)
    have ixE : ∀ {B3 : Hp} {σ : L2.St}, Same B2 B3 → σ[1]? = some (some v) → σ[2]? = some (some (.int (i : Int))) → De (tOp (rIxT K) (tVar 1) (tVar 2)) σ B3 (dat K ds[i]) := fun s h1 h2 => De.op (r := rIxT K) (.var (Mo.mo s hv) h1) (.var (Dp.int (i : Int)) h2) (Rv.ixTD (d := ds[i]) (atI_nat hi))
    change tSeq _ _ _ [some (.ref d), some v, some (.int (i : Int)), none] H2
    have b1 : Sm (42 + (j + 1)) 2 9 (.str (Str.ofString "b")) := .str ⟨by decide +kernel, by decide +kernel⟩
    refine s_w eA.dl (Dw.pick (S := datP K (Sm (42 + (j + 1)) 2 9)) rfl (.cons (Dw.cv (thg rfl) fun _ _ ⟨y, hy, h⟩ => ⟨y, hy.1.mono (by omega) (by omega) (by omega), h⟩) (.cons (Dw.D1 (ixE (Same.refl _) rfl rfl) (so.mono (by omega) (by omega) (by omega))) (.cons (Dw.D1 .str b1) (.cons (Dw.D1 .int (smI (by decide))) (.cons (Dw.D1 (De.op (De.int (n := 0)) (De.int (n := 1)) Rv.I0) (smI (by decide))) (.cons (Dw.D1 .int (smI (by decide))) (.cons (Dw.D1 .int (smI (by decide))) (.cons (Dw.D1 .int (smI (by decide))) .nil)))))))) (by decide) (by decide)) fun u3 B3 H3 e3 h3 => ?_
    have eB := eA.trans L e3
    refine s_ifB (fun σ2 H2 => ∃ v4 B4 x, σ2 = [some (.ref d), some v, some (.int (i : Int)), some v4] ∧ ExtD d c B H B4 H2 ∧ Same B2 B4 ∧ Sm (42 + (j + 1)) 2 9 x ∧ dat K x B4 v4) (Dt.tB (De.isi (ixE e3.bb rfl rfl) (by simp))) eB.bh (fun t B4 H4 e4 Z hZ => ?_) (fun _ B4 H4 e4 => ?_) ?_
    · obtain ⟨x, hx, h3⟩ := h3
      obtain ⟨n1, n2, n3, n4, n5⟩ := num_bits t so (by omega)
      have eC := eB.trans L (.of eB.dl e4)
      have s24 := e3.bb.trans e4.bb
      have nI : ∀ {m : Int}, m.natAbs < 2 ^ (42 + j + 1) → Sm (42 + (j + 1)) 2 9 (.int m) := fun h => .int h
      have cm : CMul 2 (numOf ds[i]) := .inl ⟨by decide, by decide⟩
      refine s_wE eC.dl (Dw.pick (S := datP K (Sm (42 + (j + 1)) 2 9)) rfl (.cons (Dw.D1 (.var (Mo.mo e4.bb h3) rfl) hx) (.cons (Dw.D1 (De.op (r := rAddBI) (ixE s24 rfl rfl) .int (Rv.addBI t)) (nI n2)) (.cons (Dw.D1 (De.op (r := rSubBI) (ixE s24 rfl rfl) .int (Rv.subBI t)) (nI n3)) (.cons (Dw.D1 (De.op (r := rSubIB) .int (ixE s24 rfl rfl) (Rv.subIB t)) (nI n4)) (.cons (Dw.D1 (De.op (r := rMulIB) .int (ixE s24 rfl rfl) (Rv.mulIB t cm)) (nI n5)) .nil))))) (by decide) (by decide)) fun u4 B5 H5 e5 ⟨x5, hx5, h5⟩ => hZ _ _ ⟨u4, B5, x5, rfl, eC.trans L e5, s24.trans e5.bb, hx5, h5⟩
    · obtain ⟨x, hx, h3⟩ := h3
      exact ⟨u3, B4, x, rfl, eB.trans L (.of eB.dl e4), e3.bb.trans e4.bb, hx, Mo.mo e4.bb h3⟩
    · rintro σ2 H4 ⟨v4, B4, x, rfl, e4, s4, sx, h4⟩
      have hv := Mo.mo s4 hv
      have row : De (tVar 1) [some (.ref d), some v, some (.int (i : Int)), some v4] B4 (dat K (.tuple ds)) := .var hv rfl
      have tl : (ds.take i).length = i := by rw [List.length_take]; omega
      have dl : (ds.drop (i + 1)).length = ds.length - (i + 1) := List.length_drop
      have ely2 : ∀ y ∈ ds, Sm (42 + (j + 1)) 2 9 y := fun y hy => (ely y hy).mono (by omega) (by omega) (by omega)
      have cutE : Dw (tOp (rCatA K) (tOp (rCatA K) (L2.tSl (rSlA K) (tVar 1) tNoPart (tPart (tVar 2))) (tTup (tCons (tVar 3) tNil))) (L2.tSl (rSlA K) (tVar 1) (tPart (tOp (rI0 fun i j => V.int (i + j)) (tVar 2) (tC (.int 1)))) tNoPart)) [some (.ref d), some v, some (.int (i : Int)), some v4] d c B4 (datP K (PartP (j + 1))) := by
        refine Dw.D1 (x := .tuple ((ds.take i ++ [x]) ++ ds.drop (i + 1))) (De.op (r := rCatA K) (De.op (r := rCatA K) (De.eq (De.slT (lo := none) (hi := some (i : Int)) row .none (.some (K := K) (.var (Dp.int (i : Int)) rfl))) (by rw [cut_to])) (De.tupD (ds := [x]) (.cons (.var h4 rfl) .nil) (by show 1 ≤ sizeLine; omega)) (Rv.catT (by rw [line, tl]; show _ + 1 ≤ _; omega))) (De.eq (De.slT (lo := some ((i + 1 : Nat) : Int)) (hi := none) row (.some (K := K) (De.eq (De.op (.var (Dp.int (i : Int)) rfl) .int Rv.I0) (e := .int ((i + 1 : Nat) : Int)) (congrArg PyData.int (by omega)))) .none) (by rw [cut_from])) (Rv.catT (by rw [line, List.length_append, tl, dl]; show _ + 1 + _ ≤ _; omega))) (part_of ?_ fun y hy => ?_)
        · rw [List.length_append, List.length_append, tl, dl]
          show i + 1 + _ ≤ _
          omega
        · rcases List.mem_append.mp hy with h | h
          · rcases List.mem_append.mp h with h | h
            · exact ely2 y (List.mem_of_mem_take h)
            · rw [List.mem_singleton.mp h]
              exact sx
          · exact ely2 y (List.mem_of_mem_drop h)
      refine s_retW e4.dl (Dw.pick (S := datP K (PartP (j + 1))) rfl (.cons cutE (.cons cutE (.cons (Dw.D1 (De.listT row) (part_list (by omega) ely2)) (.cons (Dw.D1 (De.op (r := rCatA K) row (De.tupD (ds := [x]) (.cons (.var h4 rfl) .nil) (by show 1 ≤ sizeLine; omega)) (Rv.catT (by rw [line]; show _ + 1 ≤ _; omega))) (part_of (by rw [List.length_append]; show _ + 1 ≤ _; omega) fun y hy => ?_)) (.cons (Dw.D1 (De.eq (De.slT (lo := none) (hi := some (i : Int)) row .none (.some (K := K) (.var (Dp.int (i : Int)) rfl))) (by rw [cut_to])) (part_of (by rw [tl]; omega) fun y hy => ely2 y (List.mem_of_mem_take hy))) .nil))))) (by decide) (by decide)) fun v B' H' e h => k v B' H' (e4.trans L e) h
      rcases List.mem_append.mp hy with h | h
      · exact ely2 y h
      · rw [List.mem_singleton.mp h]
        exact sx
end
end K05

set_option Elab.async false
set_option linter.all false
set_option maxRecDepth 100000
set_option maxHeartbeats 1000000
/-! We6: lists made out of a hidden list, hidden too. -/
namespace Wv
open PySem PySem.Spec PyProof.Rows L2 Wb
section
variable {d c : Addr} {B H : Hp}
/-- what is new was not there before -/
theorem ExtD.old {B' H' : Hp} {p : Addr} (L : Dl B H d c) (e : ExtD d c B H B' H') (h : H' p = none) : H p = none := by
  cases z : H p with
  | none => rfl
  | some o =>
    by_cases n1 : p = d
    · rw [n1] at h
      exact absurd h (Deal.atD e.deal).1
    · by_cases n2 : p = c
      · rw [n2] at h
        exact absurd h (Deal.atD e.deal).2
      · rw [e.keep z n1 n2] at h
        cases h
end
/-- te makes (or is) a hidden list, new since Hz, of so many things of a kind, while the list at M holds xs -/
def Dm (te : TE) (σ : L2.St) (d c M : Addr) (xs : List V) (B B0 Hz : Hp) (S : Rel) (n : Nat) : Prop := ∀ B1 H1, ExtD d c B0 Hz B1 H1 → Same B B1 → Ml d c B1 H1 M xs → ∀ Q : VK, (∀ p zs B2 H2, ExtD d c B1 H1 B2 H2 → Ml d c B2 H2 p zs → Hz p = none → zs.length = n → (∀ z ∈ zs, S B2 z) → Q (.ref p) H2) → te σ H1 Q
section
variable {K : PySem.W.Frag} {σ : L2.St} {d c M : Addr} {B B0 H Hz : Hp} {xs : List V} {S : Rel} {te tf : TE} {E : XK} {i j n m : Nat}
theorem Dm.var [mo : Mo S] (fr : Hz M = none) (h : σ[j]? = some (some (.ref M))) (hx : ∀ z ∈ xs, S B z) : Dm (tVar j) σ d c M xs B B0 Hz S xs.length := fun B1 H1 e s ml Q q => ⟨.ref M, h, q M xs B1 H1 (.refl e.dl) ml fr rfl fun z hz => mo.mo s (hx z hz)⟩
theorem Dm.cat [mo : Mo S] (L : Dl B0 Hz d c) (h1 : Dm te σ d c M xs B B0 Hz S n) (h2 : Dm tf σ d c M xs B B0 Hz S m) (few : n + m ≤ 1000) : Dm (tOp (rCatS K) te tf) σ d c M xs B B0 Hz S (n + m) := fun B1 H1 e0 s ml Q q =>
  h1 B1 H1 e0 s ml _ fun p zs B2 H2 e m1 _ l1 s1 => h2 B2 H2 (e0.trans L e) (s.trans e.bb) (ml.ext e) _ fun p2 zs2 B3 H3 e2 m2 _ l2 s2 => by
    have m1 := m1.ext e2
    refine ⟨p, p2, zs, zs2, rfl, rfl, SqL.of m1.at_, SqL.of m2.at_, by rw [sizeLine_eq]; omega, fun u hu => ?_⟩
    obtain ⟨m3, e3⟩ := Ml.new (xs := zs ++ zs2) e2.dl hu
    refine q u _ B3 _ ((e.trans e0.dl e2).trans e0.dl e3) m3 (ExtD.old L ((e0.trans L e).trans L e2) hu) (by rw [List.length_append]; omega) fun z hz => ?_
    rcases List.mem_append.mp hz with h | h
    · exact mo.mo e2.bb (s1 z h)
    · exact s2 z h
theorem Dm.one [mo : Mo S] (L : Dl B0 Hz d c) (h : Dw te σ d c B S) : Dm (tLst (tCons te tNil)) σ d c M xs B B0 Hz S 1 := fun B1 H1 e0 s ml Q q =>
  h B1 H1 s e0.dl _ fun v B2 H2 e hv => ⟨by rw [sizeLine_eq]; show 1 ≤ _; omega, fun u hu => by
    obtain ⟨m3, e3⟩ := Ml.new (xs := [v]) e.dl hu
    exact q u _ B2 _ (e.trans e0.dl e3) m3 (ExtD.old L (e0.trans L e) hu) rfl fun z hz => by rw [List.mem_singleton.mp hz]; exact hv⟩
theorem Dm.oneIx [mo : Mo S] {r : Nat} {v : V} (L : Dl B0 Hz d c) (hj : σ[j]? = some (some (.ref M))) (hi : σ[i]? = some (some (.int (r : Int)))) (hv : xs[r]? = some v) (hx : ∀ z ∈ xs, S B z) : Dm (tLst (tCons (tOp (rIxL K) (tVar j) (tVar i)) tNil)) σ d c M xs B B0 Hz S 1 := fun B1 H1 e0 s ml Q q =>
  ⟨.ref M, hj, .int r, hi, M, xs, r, v, rfl, rfl, SqL.of ml.at_, atIn hv, by rw [sizeLine_eq]; show 1 ≤ _; omega, fun u hu => by
    obtain ⟨m3, e3⟩ := Ml.new (xs := [v]) e0.dl hu
    exact q u _ B1 _ e3 m3 (ExtD.old L e0 hu) rfl fun z hz => by rw [List.mem_singleton.mp hz]; exact mo.mo s (hx v (List.mem_of_getElem? hv))⟩
theorem Dm.slFrom [mo : Mo S] {r : Nat} (L : Dl B0 Hz d c) (hj : σ[j]? = some (some (.ref M))) (hi : σ[i]? = some (some (.int (r : Int)))) (hr : r ≤ xs.length) (hx : ∀ z ∈ xs, S B z) : Dm (L2.tSl (rSlL K) (tVar j) (tPart (tVar i)) tNoPart) σ d c M xs B B0 Hz S (xs.length - r) := fun B1 H1 e0 s ml Q q =>
  ⟨.ref M, hj, .int r, hi, r, rfl, M, xs, rfl, SqL.of ml.at_, fun u hu => by
    obtain ⟨m3, e3⟩ := Ml.new (xs := cutV xs (some (r : Int)) none) e0.dl hu
    refine q u _ B1 _ e3 m3 (ExtD.old L e0 hu) ?_ fun z hz => mo.mo s (hx z (List.mem_of_mem_drop (List.mem_of_mem_take hz)))
    unfold cutV
    rw [HT.sIx_none, HT.sIx_nat, List.length_take, List.length_drop, Nat.min_eq_left hr, Nat.min_self]⟩
theorem Dm.slTo [mo : Mo S] {r : Nat} (L : Dl B0 Hz d c) (hj : σ[j]? = some (some (.ref M))) (hi : σ[i]? = some (some (.int (r : Int)))) (hr : r ≤ xs.length) (hx : ∀ z ∈ xs, S B z) : Dm (L2.tSl (rSlL K) (tVar j) tNoPart (tPart (tVar i))) σ d c M xs B B0 Hz S r := fun B1 H1 e0 s ml Q q =>
  ⟨.ref M, hj, .int r, hi, r, rfl, M, xs, rfl, SqL.of ml.at_, fun u hu => by
    obtain ⟨m3, e3⟩ := Ml.new (xs := cutV xs none (some (r : Int))) e0.dl hu
    refine q u _ B1 _ e3 m3 (ExtD.old L e0 hu) ?_ fun z hz => mo.mo s (hx z (List.mem_of_mem_drop (List.mem_of_mem_take hz)))
    unfold cutV
    rw [HT.sIx_none, HT.sIx_nat, List.length_take, List.length_drop, Nat.min_eq_left hr]
    omega⟩
/-- hidden lists, one by one -/
def Dms (ta : TA) (σ : L2.St) (d c M : Addr) (xs : List V) (B B0 Hz : Hp) (S : Rel) (lo hi k : Nat) : Prop := ∀ B1 H1, ExtD d c B0 Hz B1 H1 → Same B B1 → Ml d c B1 H1 M xs → ∀ Q : List V → Hp → Prop,
  (∀ vs B2 H2, ExtD d c B1 H1 B2 H2 → vs.length = k → (∀ v ∈ vs, ∃ p zs, v = .ref p ∧ Ml d c B2 H2 p zs ∧ Hz p = none ∧ lo ≤ zs.length ∧ zs.length ≤ hi ∧ ∀ z ∈ zs, S B2 z) → Q vs H2) → ta σ H1 Q
theorem Dms.nil {lo hi : Nat} : Dms tNil σ d c M xs B B0 Hz S lo hi 0 := fun B1 H1 e s ml Q q => q [] B1 H1 (.refl e.dl) rfl fun v h => nomatch h
theorem Dms.cons [mo : Mo S] {tr : TA} {lo hi k : Nat} (L : Dl B0 Hz d c) (h : Dm te σ d c M xs B B0 Hz S n) (t : Dms tr σ d c M xs B B0 Hz S lo hi k) (l1 : lo ≤ n) (l2 : n ≤ hi) : Dms (tCons te tr) σ d c M xs B B0 Hz S lo hi (k + 1) := fun B1 H1 e0 s ml Q q =>
  h B1 H1 e0 s ml _ fun p zs B2 H2 e m1 fr ln sz => t B2 H2 (e0.trans L e) (s.trans e.bb) (ml.ext e) _ fun vs B3 H3 e2 lv hvs => q _ B3 H3 (e.trans e0.dl e2) (by simp [lv]) fun v hv => by
    rcases List.mem_cons.mp hv with rfl | hv
    · exact ⟨p, zs, rfl, m1.ext e2, fr, by omega, by omega, fun z hz => mo.mo e2.bb (sz z hz)⟩
    · exact hvs v hv
/-- one of some hidden lists -/
theorem c_ixHid {tr : TA} {lo hi k r : Nat} {B1 : Hp} {Q : VK} (e0 : ExtD d c B0 Hz B1 H) (s : Same B B1) (ml : Ml d c B1 H M xs) (h : Dms tr σ d c M xs B B0 Hz S lo hi k) (k1 : k ≤ 1000) (hi2 : σ[i]? = some (some (.int (r : Int)))) (hr : r < k)
    (q : ∀ p zs B2 H2, ExtD d c B1 H B2 H2 → Ml d c B2 H2 p zs → Hz p = none → lo ≤ zs.length → zs.length ≤ hi → (∀ z ∈ zs, S B2 z) → Q (.ref p) H2) : tOp (rIxL K) (tLst tr) (tVar i) σ H Q :=
  h B1 H e0 s ml _ fun vs B2 H2 e lv hvs => ⟨by rw [sizeLine_eq]; omega, fun u hu => by
    have hv : vs[r]? = some (vs[r]'(by omega)) := List.getElem?_eq_getElem (by omega)
    obtain ⟨p, zs, ep, mp, fr, l1, l2, sz⟩ := hvs _ (List.getElem_mem (show r < vs.length by omega))
    have e3 : ExtD d c B2 H2 B2 (upd H2 u (.lst vs)) := .of e.dl (.own e.bh hu)
    refine ⟨.int r, hi2, u, vs, r, vs[r]'(by omega), rfl, rfl, SqL.of upd_same, atIn hv, ?_⟩
    rw [ep]
    exact q p zs B2 _ (e.trans e0.dl e3) (mp.ext e3) fr l1 l2 sz⟩
end
end Wv

set_option Elab.async false
set_option linter.all false
set_option maxRecDepth 100000
set_option maxHeartbeats 1000000
/-! K05l: rows that are spoilt. -/
namespace K05
open PySem PySem.Spec PyProof.Rows L2 Wb Wv Fm Wf Fq
abbrev sp_bent (K : PySem.W.Frag) : Sp := DPf (α := List PyData) (fun rs => [dat K (.list rs)]) (fun rs => 1 ≤ rs.length ∧ rs.length ≤ 16 ∧ ∀ r ∈ rs, RowP 0 r) (fun _ => datP K (listOf fun rs => 1 ≤ rs.length ∧ rs.length ≤ 18 ∧ ∀ r ∈ rs, RowP 2 r))
theorem RowP.list {j : Nat} {es : List PyData} (h : RowP j (.tuple es)) : RowP j (.list es) := ⟨by
  obtain ⟨k, W, e, hs, hl⟩ := h.1.tupInv
  rw [e]
  exact .list hs hl, fun fs e => nomatch e⟩
theorem cutV_all (xs : List V) : cutV xs none none = xs := by
  unfold cutV
  rw [HT.sIx_none, HT.sIx_none]
  simp
section
variable {P : Program} {w : World} {K : PySem.W.Frag} {mg : Str → Option Value} {base : Heap} {C_Form C_Book C_Sheets C_InvalidForm C_InvalidBook C_InvalidSheets C_InvalidSize C_BlankError a_ZERO a_ONE : Addr} {t_MOST_QUESTIONS : Tok}
theorem sc_bent : FnScope ["deal", "rows", "turn", "at", "form", "row", "place"] ["deal", "rows"] (defScope s_bent) := ⟨rfl, rfl, rfl, by decide +kernel, rfl, by decide +kernel, by decide +kernel⟩
theorem ok_bent (D : Def K mg "_law_bent" s_bent ["deal", "rows"]) (n_range : mg "range" = none) (C_of : Cal P w K mg base CX0 2 "_law_of" s_of ["deal", "some"] (spOf K)) (C_any : Cal P w K mg base CX0 1 "_law_any" s_any ["deal", "bound"] spAny) (n_len : mg "len" = none) (C_thing : Cal P w K mg base CX0 3 "_law_thing" s_thing ["deal"] (sp_thing K)) (n_list : mg "list" = none) (n_tuple : mg "tuple" = none) (n_isinstance : mg "isinstance" = none) (C_near : Cal P w K mg base CX0 4 "_law_near" s_near ["deal", "thing"] (sp_near K)) : Cal P w K mg base CX0 5 "_law_bent" s_bent ["deal", "rows"] (sp_bent K) := by
  refine D.ok sc_bent (fun vs H Q E h => ?_) (fun cdv f A outer s H vs Q E hr h => ?_)
  · exact dpf_len h fun _ => rfl
  replace h := dpf1 h
  obtain ⟨d, v, c, B, rs, rfl, L, hv, ⟨l1, l16, rp⟩, k⟩ := h
  refine ⟨_, (pss_cons (ps_set (i := 1) sc_bent.nd rfl (Or.inl rfl) (pe_slice sl_list (pv 1) po_none po_none))
    (pss_cons (ps_for PassesOwn.never rfl (pi_range1 rfl n_range (pa_cons (pe_cal C_of (hr.mono (by decide)) (by rfl) pass0 (pa_cons (pv 0) (pa_cons (pe_lst (pa_cons pe_int (pa_cons pe_int (pa_cons pe_int (pa_cons pe_int (pa_cons pe_int pa_nil)))))) pa_nil))) pa_nil)) (pg_name (i := 2) sc_bent.nd rfl (Or.inl rfl)) (pss_cons (ps_par (i := 3) (j := 4) rfl sc_bent.nd rfl rfl (by decide) rfl rfl (pa_cons (pe_cal C_any (hr.mono (by decide)) (by rfl) pass0 (pa_cons (pv 0) (pa_cons (pe_callB call_len (by rfl) n_len (by decide +kernel) (pa_cons (pv 1) pa_nil)) pa_nil))) (pa_cons (pe_cal C_any (hr.mono (by decide)) (by rfl) pass0 (pa_cons (pv 0) (pa_cons pe_int pa_nil))) pa_nil)) (by rfl))
      (pss_cons (ps_set (i := 5) sc_bent.nd rfl (Or.inl rfl) (pe_ix ix_list (pv 1) (pv 3) (fun _ _ => rfl)))
      (pss_cons (ps_if (pt_cmpR op_eq (pv 4) pe_int (nomark _)) (pss_one (ps_asg (pe_cal C_of (hr.mono (by decide)) (by rfl) pass0 (pa_cons (pv 0) (pa_cons (pe_lst (pa_cons (pe_cal C_thing (hr.mono (by decide)) (by rfl) pass0 (pa_cons (pv 0) pa_nil)) (pa_cons (pe_ifExp (pt_val (pe_callB call_isi (by rfl) n_isinstance (by decide +kernel) (pa_cons (pv 5) (pa_cons (pe_bltn (by rfl) n_tuple (by decide +kernel) (show RelV (.ty "tuple") (.type "tuple") from rfl)) pa_nil)))) (pe_callTy call_list_of (by rfl) n_list (by decide +kernel) (pa_cons (pv 5) pa_nil)) (pv 5)) (pa_cons (pv 5) pa_nil)))) pa_nil))) (pg_sub (pv 1) (pv 3) set_list))) pss_nil)
      (pss_cons (ps_if (pt_cmpR op_eq (pv 4) pe_int (nomark _)) (pss_one (ps_expr (pe_bm PySem.F.plainAttrs_list PySem.F.slot_list_insert PySem.F.type_list_insert mt_insert (pv 1) (pa_cons (pe_cal C_any (hr.mono (by decide)) (by rfl) pass0 (pa_cons (pv 0) (pa_cons (pe_op op_add (pe_callB call_len (by rfl) n_len (by decide +kernel) (pa_cons (pv 1) pa_nil)) pe_int) pa_nil))) (pa_cons (pv 5) pa_nil))))) pss_nil)
      (pss_cons (ps_if (PW.pt (pw_and (pt_cmpR op_eq (pv 4) pe_int (nomark _)) (pw_and1 (pt_cmpR op_gt (pe_callB call_len (by rfl) n_len (by decide +kernel) (pa_cons (pv 1) pa_nil)) pe_int (nomark _))))) (pss_one (ps_expr (pe_bm PySem.F.plainAttrs_list PySem.F.slot_list_pop PySem.F.type_list_pop mt_popAt (pv 1) (pa_cons (pv 3) pa_nil)))) pss_nil)
      (pss_cons (ps_if (pt_cmpR op_eq (pv 4) pe_int (nomark _)) (pss_one (ps_set (i := 1) sc_bent.nd rfl (Or.inl rfl) (pe_op op_catS (pe_slice sl_list (pv 1) (po_some (pv 3)) po_none) (pe_slice sl_list (pv 1) po_none (po_some (pv 3)))))) pss_nil)
      (pss_cons (ps_if (PW.pt (pw_and (pt_cmpR op_gt (pv 4) pe_int (nomark _)) (pw_and (pt_val (pe_callB call_isi (by rfl) n_isinstance (by decide +kernel) (pa_cons (pv 5) (pa_cons (pe_bltn (by rfl) n_tuple (by decide +kernel) (show RelV (.ty "tuple") (.type "tuple") from rfl)) pa_nil)))) (pw_and1 (pt_cmpR op_gt (pe_callB call_len (by rfl) n_len (by decide +kernel) (pa_cons (pv 5) pa_nil)) pe_int (nomark _)))))) (pss_cons (ps_set (i := 6) sc_bent.nd rfl (Or.inl rfl) (pe_cal C_of (hr.mono (by decide)) (by rfl) pass0 (pa_cons (pv 0) (pa_cons (pe_lst (pa_cons (pe_op op_sub (pe_callB call_len (by rfl) n_len (by decide +kernel) (pa_cons (pv 5) pa_nil)) pe_int) (pa_cons (pe_cal C_any (hr.mono (by decide)) (by rfl) pass0 (pa_cons (pv 0) (pa_cons (pe_callB call_len (by rfl) n_len (by decide +kernel) (pa_cons (pv 5) pa_nil)) pa_nil))) pa_nil))) pa_nil))))
        (pss_one (ps_asg (pe_op op_catA (pe_op op_catA (pe_slice sl_tupA (pv 5) po_none (po_some (pv 6))) (pe_tup (pa_cons (pe_cal C_near (hr.mono (by decide)) (by rfl) pass0 (pa_cons (pv 0) (pa_cons (pe_ix ix_tup (pv 5) (pv 6) (fun _ _ => rfl)) pa_nil))) pa_nil))) (pe_slice sl_tupA (pv 5) (po_some (pe_op op_add (pv 6) pe_int)) po_none)) (pg_sub (pv 1) (pv 3) set_list)))) pss_nil)
      (pss_one (ps_if (pt_cmpR (op_eqD hr.units) (pv 1) (pe_lst pa_nil) (nomark _)) (pss_one (ps_set (i := 1) sc_bent.nd rfl (Or.inl rfl) (pe_lst (pa_cons (pe_cal C_thing (hr.mono (by decide)) (by rfl) pass0 (pa_cons (pv 0) pa_nil)) pa_nil)))) pss_nil))))))))))
    (pss_one (ps_ret (pv 1))))), ?_⟩
  have line := sizeLine_eq
  have hv : dat K (.list rs) B v := hv
  have l1 : 1 ≤ rs.length := l1
  have l16 : rs.length ≤ 16 := l16
  have rp : ∀ r ∈ rs, RowP 0 r := rp
  have k : ∀ (v : V) (B' H' : Hp), ExtD d c B H B' H' → datP K (listOf fun rs => 1 ≤ rs.length ∧ rs.length ≤ 18 ∧ ∀ r ∈ rs, RowP 2 r) B' v → Q v H' := k
  obtain ⟨p0, xs0, rfl, hs0, hR0⟩ := dat_lstR hv
  have lx : xs0.length = rs.length := by
    have := allR_len hR0
    rw [List.length_map] at this
    exact this
  refine s_raw ⟨.ref p0, rfl, p0, xs0, rfl, L.bh.seq hs0, fun M hM => ?_⟩
  rw [cutV_all]
  obtain ⟨m0, e0⟩ := Ml.new (xs := xs0) L hM
  have st : ∀ v ∈ xs0, datP K (RowP 0) B v := ds_all hR0 rp
  change tSeq _ _ _ [some (.ref d), some (.ref M), none, none, none, none, none] (upd H M (.lst xs0))
  refine s_forR (c_ofL (K := K) (ds := [.int 0, .int 1, .int 1, .int 1, .int 2]) e0.dl rfl (De.lstD (.cons .int (.cons .int (.cons .int (.cons .int (.cons .int .nil))))) (by show 5 ≤ sizeLine; omega)) (by simp) (by show 5 ≤ 1000; decide) fun y u B1 H1 hy e1 hu => ?_)
  obtain ⟨tn, t2, rfl⟩ : ∃ t : Nat, t ≤ 2 ∧ y = .int (t : Int) := by
    simp only [List.mem_cons, List.not_mem_nil, or_false] at hy
    rcases hy with rfl | rfl | rfl | rfl | rfl
    · exact ⟨0, by decide, rfl⟩
    · exact ⟨1, by decide, rfl⟩
    · exact ⟨1, by decide, rfl⟩
    · exact ⟨1, by decide, rfl⟩
    · exact ⟨2, by decide, rfl⟩
  have hu := dat_int hu
  subst hu
  refine ⟨(tn : Int), rfl, by omega, by omega, ?_⟩
  have e01 := e0.trans L e1
  refine s_forD L e01 (Di.itr (K := K)) (fun i σ B' H' => ∃ M v2 v3 v4 v5 v6, σ = [some (.ref d), some (.ref M), v2, v3, v4, v5, v6] ∧ H M = none ∧ ∃ xs, Ml d c B' H' M xs ∧ 1 ≤ xs.length ∧ xs.length ≤ 16 + i ∧ ∀ v ∈ xs, datP K (RowP i) B' v) (fun Bq Hq eq => ⟨M, _, _, _, _, _, rfl, hM, xs0, (m0.ext e1).ext eq, by omega, by omega, fun v hv => Mo.mo (e1.bb.trans eq.bb) (st v hv)⟩) ?_ ?_
  · rintro B10 i R x σ' Bc Hc Bn Hn sB hR ex sx0 ⟨M, v2, v3, v4, v5, v6, rfl, frM, xs, mx, x1, x16, sx⟩ ey hxx
    have i1 : i ≤ 1 := by
      have := (List.getElem?_eq_some_iff.mp hR).1
      rw [List.length_map, List.length_range] at this
      omega
    have exy := ex.trans L ey
    have my := mx.ext ey
    refine s_parR (c_anyLen (K := K) exy.dl rfl rfl my x1 (by omega) fun r H11 hr e11 => c_any (K := K) e11.dl rfl .int (by decide) (by decide) fun w B12 H12 w0 w8 e12 => ?_)
    have m12 := (my.ext e11).ext e12
    have eE := (exy.trans L e11).trans L e12
    have sc12 := (ey.bb.trans e11.bb).trans e12.bb
    have s12 : ∀ v ∈ xs, datP K (RowP i) B12 v := fun v hv => Mo.mo sc12 (sx v hv)
    obtain ⟨wn, rfl⟩ := Int.eq_ofNat_of_zero_le w0
    have hel : xs[r]? = some xs[r] := List.getElem?_eq_getElem hr
    obtain ⟨xd, hxd, hxr⟩ := s12 xs[r] (List.getElem_mem hr)
    refine s_raw ⟨.ref M, rfl, .int (r : Int), rfl, M, xs, (r : Int), xs[r], rfl, rfl, SqL.of m12.at_, atIn hel, ?_⟩
    generalize xs[r] = u5 at hxr
    change tSeq _ _ _ [some (.ref d), some (.ref M), some x, some (.int (r : Int)), some (.int (wn : Int)), some u5, v6] H12
    -- what holds between the tests
    let Pst : Prop → Nat → Nat → L2.St → Hp → Prop := fun cc n j σ2 H2 => ∃ M v6 xs B', σ2 = [some (.ref d), some (.ref M), some x, some (.int (r : Int)), some (.int (wn : Int)), some u5, v6] ∧ H M = none ∧ ExtD d c B H B' H2 ∧ Same B12 B' ∧ Ml d c B' H2 M xs ∧ 1 ≤ xs.length ∧ xs.length ≤ n ∧ (cc → r < xs.length) ∧ ∀ v ∈ xs, datP K (RowP j) B' v
    have formE : ∀ {σ : L2.St} {B : Hp} {m : Int}, σ[4]? = some (some (.int (wn : Int))) → Dt (tTest (tOp rEq (tVar 4) (tC (.int m)))) σ B (decide ((wn : Int) = m)) := fun h => Dt.test (K := K) (De.op (r := rEq) (.var (Dp.int (wn : Int)) h) .int Rv.eqI)
    -- another one in its place
    refine s_ifB (Pst True (16 + i) i) (formE (m := 0) rfl) eE.bh (fun t B13 H13 e13 Z hZ => ?_) (fun _ B13 H13 e13 => ⟨M, v6, xs, B13, rfl, frM, eE.trans L (.of eE.dl e13), e13.bb, m12.ext (.of eE.dl e13), x1, x16, fun _ => hr, fun v hv => Mo.mo e13.bb (s12 v hv)⟩) ?_
    · have eF := eE.trans L (.of eE.dl e13)
      have m13 := m12.ext (.of eE.dl e13)
      have hxr := Mo.mo e13.bb hxr
      have row : ∀ {σ : L2.St}, σ[5]? = some (some u5) → De (tVar 5) σ B13 (dat K xd) := fun h => .var hxr h
      have dw : Dw (tCall (spOf K) [] E0 (tCons (tVar 0) (tCons (tLst (tCons (tCall (sp_thing K) [] E0 (tCons (tVar 0) tNil)) (tCons (tIf (tB (tCB (rIsi K) (tCons (tVar 5) (tCons (tC (.ty "tuple")) tNil)))) (tCB (Wv.rLst K) (tCons (tVar 5) tNil)) (tVar 5)) (tCons (tVar 5) tNil)))) tNil))) [some (.ref d), some (.ref M), some x, some (.int (r : Int)), some (.int (wn : Int)), some u5, v6] d c B13 (datP K (RowP i)) := by
        refine Dw.pick (S := datP K (RowP i)) rfl (.cons (Dw.cv (thg rfl) fun _ _ ⟨y, hy, h⟩ => ⟨y, hy.row _, h⟩) (.cons (Dw.iteB (b := isD "tuple" xd) (Dt.tB (De.isi (row rfl) (by simp))) (fun t => ?_) fun _ => Dw.D1 (row rfl) hxd) (.cons (Dw.D1 (row rfl) hxd) .nil))) (by decide) (by decide)
        obtain ⟨es, rfl⟩ : ∃ es, xd = .tuple es := by cases xd <;> first | exact ⟨_, rfl⟩ | cases t
        exact Dw.D1 (De.listT (row rfl)) hxd.list
      refine dw B13 H13 (Same.refl _) eF.dl _ fun u B14 H14 e14 hu => ?_
      have m14 := m13.ext e14
      have eG := eF.trans L e14
      refine ⟨.ref M, rfl, .int (r : Int), rfl, M, xs, (r : Int), r, rfl, rfl, m14.at_, ixNn hr, hZ _ _ ⟨M, v6, xs.set r u, B14, rfl, frM, eG.setL m14 frM, e13.bb.trans e14.bb, (Ml.set eG.dl m14).1, by rw [List.length_set]; exact x1, by rw [List.length_set]; exact x16, fun _ => by rw [List.length_set]; exact hr, fun z hz => ?_⟩⟩
      rcases List.mem_or_eq_of_mem_set hz with h | h
      · exact Mo.mo (e13.bb.trans e14.bb) (s12 z h)
      · rw [h]
        exact hu
    clear s12 m12 eE hel mx my sx
    rintro σ2 H2 ⟨M, v6, xs, B2, rfl, frM, eE, sE, mx, x1, x16, hr, sx⟩
    -- once more
    refine s_ifB (Pst True (17 + i) i) (formE (m := 1) rfl) eE.bh (fun t B13 H13 e13 Z hZ => ?_) (fun _ B13 H13 e13 => ⟨M, v6, xs, B13, rfl, frM, eE.trans L (.of eE.dl e13), sE.trans e13.bb, mx.ext (.of eE.dl e13), x1, by omega, hr, fun v hv => Mo.mo e13.bb (sx v hv)⟩) ?_
    · have eF := eE.trans L (.of eE.dl e13)
      have m13 := mx.ext (.of eE.dl e13)
      have hxr := Mo.mo (sE.trans e13.bb) hxr
      refine s_dropE (c_insAny (K := K) (i := 0) (j := 1) (n := 5) eF.dl rfl rfl m13 (by omega) rfl fun r2 H14 e14 m14 => ?_)
      have eG := eF.trans L e14
      have ln : (xs.take r2 ++ [u5] ++ xs.drop r2).length = xs.length + 1 := by
        rw [List.length_append, List.length_append, List.length_take, List.length_drop]
        show _ + 1 + _ = _
        omega
      refine hZ _ _ ⟨M, v6, xs.take r2 ++ [u5] ++ xs.drop r2, B13, rfl, frM, eG.setL m14 frM, sE.trans e13.bb, (Ml.set eG.dl m14).1, by omega, by omega, fun h => by have := hr h; omega, fun z hz => ?_⟩
      rcases List.mem_append.mp hz with h | h
      · rcases List.mem_append.mp h with h | h
        · exact Mo.mo e13.bb (sx z (List.mem_of_mem_take h))
        · rw [List.mem_singleton.mp h]
          exact ⟨xd, hxd, hxr⟩
      · exact Mo.mo e13.bb (sx z (List.mem_of_mem_drop h))
    clear mx sx x16 hr x1 sE eE frM
    rintro σ2 H2 ⟨M, v6, xs, B2, rfl, frM, eE, sE, mx, x1, x17, hr, sx⟩
    -- left out
    obtain ⟨ds, hds, lds, sds⟩ := all_ds sx
    obtain ⟨k1, k2⟩ := mx.look eE.dl
    have hM := mx.dat hds
    refine s_ifB (Pst (wn ≠ 2) (17 + i) i) (b := decide ((wn : Int) = 2) && decide ((1 : Int) < (ds.length : Int))) (Dt.and (formE rfl) fun _ => Dt.test (K := K) (De.op (De.lenL (.var hM rfl)) (De.int (n := 1)) Rv.I0b)) k2 (fun t B13 H13 e13 Z hZ => ?_) (fun _ B13 H13 e13 => ?_) ?_
    · rw [Bool.and_eq_true, decide_eq_true_eq, decide_eq_true_eq] at t
      have e13 := Ml.looked eE.dl e13
      have eF := eE.trans L e13
      have m13 := mx.ext e13
      have w2 : wn = 2 := by omega
      have hrx := hr trivial
      have ln : (xs.eraseIdx r).length = xs.length - 1 := List.length_eraseIdx_of_lt hrx
      refine s_dropE ⟨.ref M, rfl, .inl ⟨rfl, xs, SqL.of m13.at_⟩, .int (r : Int), rfl, M, xs, (r : Int), r, xs[r], rfl, rfl, m13.at_, by omega, by omega, seqIx hrx, List.getElem?_eq_getElem hrx, hZ _ _ ⟨M, v6, xs.eraseIdx r, B2, rfl, frM, eF.setL m13 frM, sE, (Ml.set eF.dl m13).1, by omega, by omega, fun h => absurd w2 h, fun z hz => sx z (List.mem_of_mem_eraseIdx hz)⟩⟩
    · have e13 := Ml.looked eE.dl e13
      exact ⟨M, v6, xs, B2, rfl, frM, eE.trans L e13, sE, mx.ext e13, x1, x17, fun _ => hr trivial, sx⟩
    clear mx sx x17 hr x1 sE eE frM hds sds k1 k2 hM
    rintro σ2 H2 ⟨M, v6, xs, B2, rfl, frM, eE, sE, mx, x1, x17, hr, sx⟩
    -- turned round
    refine s_ifB (Pst (wn ≠ 2) (17 + i) i) (formE (m := 3) rfl) eE.bh (fun t B13 H13 e13 Z hZ => ?_) (fun _ B13 H13 e13 => ⟨M, v6, xs, B13, rfl, frM, eE.trans L (.of eE.dl e13), sE.trans e13.bb, mx.ext (.of eE.dl e13), x1, x17, hr, fun v hv => Mo.mo e13.bb (sx v hv)⟩) ?_
    · have t : (wn : Int) = 3 := of_decide_eq_true t
      have hrx := hr (by omega)
      have eF := eE.trans L (.of eE.dl e13)
      have m13 := mx.ext (.of eE.dl e13)
      have sx13 : ∀ v ∈ xs, datP K (RowP i) B13 v := fun v hv => Mo.mo e13.bb (sx v hv)
      have dm := Dm.cat (K := K) L (Dm.slFrom (K := K) (σ := [some (.ref d), some (.ref M), some x, some (.int (r : Int)), some (.int (wn : Int)), some u5, v6]) (Hz := H) (j := 1) (i := 3) L rfl rfl (Nat.le_of_lt hrx) sx13) (Dm.slTo (K := K) (j := 1) (i := 3) L rfl rfl (Nat.le_of_lt hrx) sx13) (by omega)
      refine s_rawE (dm B13 H13 eF (Same.refl _) m13 _ fun p zs B14 H14 e14 mp frp ln sz => hZ _ _ ⟨p, v6, zs, B14, rfl, frp, eF.trans L e14, (sE.trans e13.bb).trans e14.bb, mp, by omega, by omega, fun _ => by omega, sz⟩)
    clear mx sx x17 hr x1 sE eE frM
    rintro σ2 H2 ⟨M, v6, xs, B2, rfl, frM, eE, sE, mx, x1, x17, hr, sx⟩
    -- a part of it
    have hx5 := Mo.mo (R := dat K xd) sE hxr
    have row0 : ∀ {σ : L2.St} {B : Hp}, Same B2 B → σ[5]? = some (some u5) → De (tVar 5) σ B (dat K xd) := fun s h => .var (Mo.mo s hx5) h
    have tst : Dt (tAnd (tTest (tOp (rI0 fun i j => V.bl (decide (j < i))) (tVar 4) (tC (.int 3)))) (tAnd (tB (tCB (rIsi K) (tCons (tVar 5) (tCons (tC (.ty "tuple")) tNil)))) (tTest (tOp (rI0 fun i j => V.bl (decide (j < i))) (tCB (Wv.rLen K) (tCons (tVar 5) tNil)) (tC (.int 0)))))) [some (.ref d), some (.ref M), some x, some (.int (r : Int)), some (.int (wn : Int)), some u5, v6] B2 (decide ((3 : Int) < (wn : Int)) && tupNE xd) := by
      refine Dt.and (Dt.test (K := K) (De.op (.var (Dp.int (wn : Int)) rfl) (De.int (n := 3)) Rv.I0b)) fun _ => ?_
      cases ht : isD "tuple" xd with
      | false =>
        have e : tupNE xd = false := by cases xd <;> first | rfl | cases ht
        rw [e]
        exact Dt.and (a := false) (b := false) (Dt.eq (Dt.tB (De.isi (row0 (Same.refl _) rfl) (by simp))) ht) fun z => nomatch z
      | true =>
        obtain ⟨es, rfl⟩ : ∃ es, xd = .tuple es := by cases xd <;> first | exact ⟨_, rfl⟩ | cases ht
        refine Dt.and (a := true) (Dt.eq (Dt.tB (De.isi (row0 (Same.refl _) rfl) (by simp))) ht) fun _ => Dt.eq (Dt.test (K := K) (De.op (De.lenT (row0 (Same.refl _) rfl)) (De.int (n := 0)) Rv.I0b)) ?_
        cases es with
        | nil => rfl
        | cons a l => exact decide_eq_true (by rw [List.length_cons]; omega)
    refine s_ifB (Pst False (17 + i) (i + 1)) tst eE.bh (fun t B13 H13 e13 Z hZ => ?_) (fun _ B13 H13 e13 => ⟨M, v6, xs, B13, rfl, frM, eE.trans L (.of eE.dl e13), sE.trans e13.bb, mx.ext (.of eE.dl e13), x1, x17, fun z => z.elim, fun v hv => by
      obtain ⟨q, h1, h2⟩ := sx v hv
      exact ⟨q, h1.up, Mo.mo e13.bb h2⟩⟩) ?_
    · rw [Bool.and_eq_true, decide_eq_true_eq] at t
      obtain ⟨y0, es0, ex⟩ := tupNE_form t.2
      have hrx := hr (by omega)
      have eF := eE.trans L (.of eE.dl e13)
      have m13 := mx.ext (.of eE.dl e13)
      have row1 : ∀ {σ : L2.St} {B : Hp}, Same B13 B → σ[5]? = some (some u5) → De (tVar 5) σ B (dat K xd) := fun s h => row0 (e13.bb.trans s) h
      generalize hes : y0 :: es0 = es at ex
      have pos : 1 ≤ es.length := by rw [← hes, List.length_cons]; omega
      subst ex
      obtain ⟨e3, parts⟩ := hxd.2 es rfl
      refine s_w eF.dl (Dw.pick (S := intP fun q => 0 ≤ q ∧ q < (es.length : Int)) rfl (.cons (.cv (Dw.of (De.op (De.lenT (row1 (Same.refl _) rfl)) (De.int (n := 1)) Rv.I0)) fun _ _ h => ⟨_, by omega, dat_int h⟩) (.cons (Dw.any (K := K) rfl (De.lenT (row1 (Same.refl _) rfl)) (by omega) (by omega)) .nil)) (by decide) (by decide)) fun u6 B14 H14 e14 ⟨q, ⟨q0, q1⟩, eq⟩ => ?_
      subst eq
      obtain ⟨qn, rfl⟩ := Int.eq_ofNat_of_zero_le q0
      have ql : qn < es.length := by omega
      have hq : es[qn]? = some es[qn] := List.getElem?_eq_getElem ql
      have pq := parts _ (List.getElem_mem ql)
      have eG := eF.trans L e14
      have m14 := m13.ext e14
      have row : ∀ {σ : L2.St}, σ[5]? = some (some u5) → De (tVar 5) σ B14 (dat K (.tuple es)) := fun h => row1 e14.bb h
      have tl : (es.take qn).length = qn := by rw [List.length_take]; omega
      have dl : (es.drop (qn + 1)).length = es.length - (qn + 1) := List.length_drop
      have p1 : Dw (L2.tSl (rSlA K) (tVar 5) tNoPart (tPart (tVar 6))) [some (.ref d), some (.ref M), some x, some (.int (r : Int)), some (.int (wn : Int)), some u5, some (.int (qn : Int))] d c B14 (datP K (tupOf fun ds => ds = es.take qn)) := Dw.D1 (De.eq (De.slT (lo := none) (hi := some (qn : Int)) (row rfl) .none (.some (K := K) (.var (Dp.int (qn : Int)) rfl))) (by rw [cut_to])) ⟨_, rfl, rfl⟩
      have p3 : Dw (L2.tSl (rSlA K) (tVar 5) (tPart (tOp (rI0 fun i j => V.int (i + j)) (tVar 6) (tC (.int 1)))) tNoPart) [some (.ref d), some (.ref M), some x, some (.int (r : Int)), some (.int (wn : Int)), some u5, some (.int (qn : Int))] d c B14 (datP K (tupOf fun ds => ds = es.drop (qn + 1))) := Dw.D1 (De.eq (De.slT (lo := some ((qn + 1 : Nat) : Int)) (hi := none) (row rfl) (.some (K := K) (De.eq (De.op (.var (Dp.int (qn : Int)) rfl) .int Rv.I0) (e := .int ((qn + 1 : Nat) : Int)) (congrArg PyData.int (by omega)))) .none) (by rw [cut_from])) ⟨_, rfl, rfl⟩
      have p2 : Dw (tCall (sp_near K) [] E0 (tCons (tVar 0) (tCons (tOp (rIxT K) (tVar 5) (tVar 6)) tNil))) [some (.ref d), some (.ref M), some x, some (.int (r : Int)), some (.int (wn : Int)), some u5, some (.int (qn : Int))] d c B14 (datP K (PartP (i + 1))) := Dw.def1 (args := fun a : Nat × PyData => [dat K a.2]) (res := fun a => datP K (PartP (a.1 + 1))) (i, es[qn]) rfl (.cons (De.op (r := rIxT K) (row rfl) (.var (Dp.int (qn : Int)) rfl) (Rv.ixTD (d := es[qn]) (atI_nat hq))) .nil) ⟨i1, pq⟩
      have dw := Dw.op (r := rCatA K) (Dw.op (r := rCatA K) p1 (Dw.tup1 p2) fun B => Rv.catTP fun a b ha ⟨y, _, hb⟩ => by rw [ha, hb, tl]; show _ + 1 ≤ _; omega) p3 fun B => Rv.catTP fun a b ⟨a1, a2, h1, ⟨y, _, h2⟩, h3⟩ hb => by rw [h3, hb, h1, h2, List.length_append, tl, dl]; show _ + 1 + _ ≤ _; omega
      refine dw B14 H14 (Same.refl _) eG.dl _ fun u B15 H15 e15 ⟨_, ⟨_, rfl, a, b, ⟨a1, a2, h1, ⟨y, hy, h2⟩, h3⟩, hb, rfl⟩, hu⟩ => ?_
      have m15 := m14.ext e15
      have eH := eG.trans L e15
      have s1315 := (e13.bb.trans e14.bb).trans e15.bb
      refine ⟨.ref M, rfl, .int (r : Int), rfl, M, xs, (r : Int), r, rfl, rfl, m15.at_, ixNn hrx, hZ _ _ ⟨M, _, xs.set r u, B15, rfl, frM, eH.setL m15 frM, sE.trans s1315, (Ml.set eH.dl m15).1, by rw [List.length_set]; exact x1, by rw [List.length_set]; exact x17, fun z => z.elim, fun z hz => ?_⟩⟩
      rcases List.mem_or_eq_of_mem_set hz with h | h
      · obtain ⟨q, h1, h2⟩ := sx z h
        exact ⟨q, h1.up, Mo.mo s1315 h2⟩
      · rw [h]
        refine ⟨_, row_of ?_ fun z2 hz2 => ?_, hu⟩
        · rw [h3, h1, h2, hb, List.length_append, List.length_append, tl, dl]
          show _ + 1 + _ ≤ _
          omega
        · rw [h3, h1, h2, hb] at hz2
          rcases List.mem_append.mp hz2 with h | h
          · rcases List.mem_append.mp h with h | h
            · exact (parts z2 (List.mem_of_mem_take h)).up
            · rw [List.mem_singleton.mp h]
              exact hy
          · exact (parts z2 (List.mem_of_mem_drop h)).up
    clear mx sx x17 hr x1 sE eE frM hx5 row0 tst
    rintro σ2 H2 ⟨M, v6, xs, B2, rfl, frM, eE, sE, mx, x1, x17, hr, sx⟩
    -- never empty
    obtain ⟨ds, hds, lds, sds⟩ := all_ds sx
    obtain ⟨k1, k2⟩ := mx.look eE.dl
    have hM := mx.dat hds
    have sh : SeqAt.shaped (.list ds) = true := (sm_list (k := 4) (fun x hx => (sds x hx).1) ds.length (Nat.le_refl _) _ (Nat.le_refl _)).shaped
    refine s_skip' (Dt.eq (Dt.test (De.op (r := rEqD K) (.var hM rfl) (De.lstD (K := K) .nil (by show 0 ≤ sizeLine; omega)) (Rv.eqD sh rfl))) (by rw [eqv_nil]; exact decide_eq_false fun z => by rw [z] at lds; simp at lds; omega)) k2 fun B13 H13 e13 => ?_
    have e13 := Ml.looked eE.dl e13
    exact ⟨B2, eE.trans L e13, sx0.trans (sc12.trans sE), M, _, _, _, _, _, rfl, frM, xs, mx.ext e13, x1, by omega, sx⟩
  · rintro σ' B10 H10 ex sx0 ⟨M, v2, v3, v4, v5, v6, rfl, frM, xs, mx, x1, x16, sx⟩
    rw [List.length_map, List.length_range] at x16 sx
    obtain ⟨ds, hds, lds, sds⟩ := all_ds sx
    have eS := ex.settle mx frM
    have hM := mx.dat hds
    refine s_retW eS.dl (Dw.of (.var (R := dat K (.list ds)) hM rfl)) fun v B' H' e h => k v B' H' (eS.trans L e) ⟨_, ⟨ds, rfl, by omega, by omega, fun r hr => ?_⟩, h⟩
    have up : ∀ m, m ≤ 2 → RowP m r → RowP 2 r := fun m hm h => by
      rcases (show m = 0 ∨ m = 1 ∨ m = 2 by omega) with rfl | rfl | rfl
      · exact h.up.up
      · exact h.up
      · exact h
    exact up _ (by omega) (sds r hr)
end
end K05

set_option Elab.async false
set_option linter.all false
set_option maxRecDepth 100000
set_option maxHeartbeats 1000000
/-! K05m: what the law says of any value. -/
namespace K05
open PySem PySem.Spec PyProof.Rows L2 Wb Wv Fm Wf Fq
abbrev sp_lisIn (K : PySem.W.Frag) : Sp := Pf (α := PyData × Int × Int) (fun a => [dat K a.1, dat K (.int a.2.1), dat K (.int a.2.2)]) (fun _ => True) (fun a => dat K (.bool (isInD a.1 a.2.1 a.2.2)))
abbrev sp_lisRow (K : PySem.W.Frag) : Sp := Pf (α := Qs × PyData × Int) (fun a => [dat K (qsD a.1), dat K a.2.1, dat K (.int a.2.2)]) (fun a => a.1.length ≤ 8) (fun a => dat K (.bool (isRowD a.1 a.2.2 a.2.1)))
abbrev sp_lisShare (K : PySem.W.Frag) : Sp := Pf (α := PyData) (fun d => [dat K d]) (fun d => ∃ b k W, b ≤ 90 ∧ Sm b k W d) (fun d => dat K (.bool (posFr d)))
def keyD (way : Bool) (l t : PyData) : PyData := .tuple (if way = true then [l] else [l, t])
def wayI (way : Bool) : Int := if way = true then 1 else 0
abbrev sp_lisKey (K : PySem.W.Frag) : Sp := Pf (α := Qs × Bool × PyData × PyData) (fun a => [dat K (qsD a.1), dat K (keyD a.2.1 a.2.2.1 a.2.2.2), dat K (.int (wayI a.2.1))]) (fun a => Good a.1 ∧ ∃ b k W, b ≤ 90 ∧ k ≤ 50 ∧ W ≤ 100000 ∧ Sm b k W a.2.2.1) (fun a => dat K (.bool (if a.2.1 = true then isRowD a.1 (-1) a.2.2.1 else partD (Fm.names a.1) a.2.2.1 && isRowD a.1 0 a.2.2.2)))
abbrev sp_wrong (K : PySem.W.Frag) : Sp := Pf (α := Qs × PyData × Bool) (fun a => [dat K (qsD a.1), dat K a.2.1, dat K (.int (wayI a.2.2))]) (fun a => Good a.1 ∧ (∃ b k W, b ≤ 90 ∧ k ≤ 50 ∧ W ≤ 100000 ∧ Sm b k W a.2.1) ∧ ∀ ds, a.2.1 = .tuple ds → ds.length ≤ 40) (fun a => dat K (rowsFault a.2.2 a.1 a.2.1))
def stepBad (ws : List Str) (m : Nat) : Bool := match ws[m]?, ws[m + 1]? with
  | some a, some b => !decide (a.cps.toList < b.cps.toList)
  | _, _ => false
theorem step_law {zs ws : List Str} (asc : zs.Pairwise Sl) (sub : ∀ w ∈ ws, w ∈ zs) : decide (((List.range ((ws.length : Int) - 1).toNat).filter (stepBad ws)).map (fun m : Nat => PyData.int (1 + (m : Int))) = []) = partD zs (.tuple (ws.map .str)) := by
  rw [Bool.eq_iff_iff, decide_eq_true_eq, List.map_eq_nil_iff, filter_nil, part_names asc sub]
  constructor
  · intro h
    refine sl_chain fun i hi => ?_
    have := h i (List.mem_range.mpr (by omega))
    unfold stepBad at this
    rw [List.getElem?_eq_getElem (by omega), List.getElem?_eq_getElem hi] at this
    simpa [Sl] using this
  · intro h i hi
    have hi := List.mem_range.mp hi
    have hj : i + 1 < ws.length := by omega
    unfold stepBad
    rw [List.getElem?_eq_getElem (by omega), List.getElem?_eq_getElem hj]
    have := List.pairwise_iff_getElem.mp h i (i + 1) (by omega) hj (by omega)
    have : ws[i].cps.toList < ws[i + 1].cps.toList := this
    simp [this]

theorem De.lrow {P : Program} {w : World} {K : PySem.W.Frag} {σ : L2.St} {B : Hp} {te tf tg : TE} {E : XK} {qs : Qs} {d : PyData} {lo : Int} (h : De te σ B (dat K (qsD qs))) (h2 : De tf σ B (dat K d)) (h3 : De tg σ B (dat K (.int lo))) (few : qs.length ≤ 8) : De (tCall (sp_lisRow K) [] E (tCons te (tCons tf (tCons tg tNil)))) σ B (dat K (.bool (isRowD qs lo d))) := De.call (args := fun a : Qs × PyData × Int => [dat K (qsD a.1), dat K a.2.1, dat K (.int a.2.2)]) (res := fun a => dat K (.bool (isRowD a.1 a.2.2 a.2.1))) (qs, d, lo) (.cons h (.cons h2 (.cons h3 .nil))) few
section
variable {P : Program} {w : World} {K : PySem.W.Frag} {mg : Str → Option Value} {base : Heap} {C_Form C_Book C_Sheets C_InvalidForm C_InvalidBook C_InvalidSheets C_InvalidSize C_BlankError a_ZERO a_ONE : Addr} {t_MOST_QUESTIONS : Tok}
theorem Rv.ltS {B : Hp} {a b : Str} : Rv (fun x y H Q => ∃ i j, x = .str i ∧ y = .str j ∧ Q (.bl (decide (i.cps.toList < j.cps.toList))) H) B (dat K (.str a)) (dat K (.str b)) (dat K (.bool (decide (a.cps.toList < b.cps.toList)))) := fun x y B1 H _ s2 hx hy Q q => ⟨a, b, dat_str hx, dat_str hy, q _ B1 H (.refl s2) (Dp.bl _)⟩
theorem De.lisIn {σ : L2.St} {B : Hp} {te tl th : TE} {E : XK} {d : PyData} {lo hi : Int} (h : De te σ B (dat K d)) (h1 : De tl σ B (dat K (.int lo))) (h2 : De th σ B (dat K (.int hi))) : De (tCall (sp_lisIn K) [] E (tCons te (tCons tl (tCons th tNil)))) σ B (dat K (.bool (isInD d lo hi))) :=
  De.call (args := fun a : PyData × Int × Int => [dat K a.1, dat K (.int a.2.1), dat K (.int a.2.2)]) (res := fun a => dat K (.bool (isInD a.1 a.2.1 a.2.2))) (d, lo, hi) (.cons h (.cons h1 (.cons h2 .nil))) trivial
theorem sc_lisIn : FnScope ["value", "least", "most"] ["value", "least", "most"] (defScope s_lisIn) := ⟨rfl, rfl, rfl, by decide +kernel, rfl, by decide +kernel, by decide +kernel⟩
theorem ok_lisIn (D : Def K mg "_law_is_in" s_lisIn ["value", "least", "most"]) (n_int : mg "int" = none) (n_isinstance : mg "isinstance" = none) (n_bool : mg "bool" = none) : Cal P w K mg base CX0 1 "_law_is_in" s_lisIn ["value", "least", "most"] (sp_lisIn K) := by
  refine D.ok sc_lisIn (fun vs H Q E h => ?_) (fun cdv f A outer s H vs Q E hr h => ?_)
  · exact pf_len h fun _ => rfl
  replace h := pf3 h
  obtain ⟨v, v1, v2, B, ⟨d, lo, hi⟩, rfl, hB, hv, hv1, hv2, _, k⟩ := h
  refine ⟨_, (pss_one (ps_ret (pe_and (pe_callB call_isi (by rfl) n_isinstance (by decide +kernel) (pa_cons (pv 0) (pa_cons (pe_bltn (by rfl) n_int (by decide +kernel) (show RelV (.ty "int") (.type "int") from rfl)) pa_nil))) (pe_and (pe_not (pe_callB call_isi (by rfl) n_isinstance (by decide +kernel) (pa_cons (pv 0) (pa_cons (pe_bltn (by rfl) n_bool (by decide +kernel) (show RelV (.ty "bool") (.type "bool") from rfl)) pa_nil)))) (pe_and (pe_cmpR op_le (pv 1) (pv 0) (nomark _)) (pe_one (pe_cmpR op_le (pv 0) (pv 2) (nomark _)))))))), ?_⟩
  have hv : dat K d B v := hv
  have hv1 : dat K (.int lo) B v1 := hv1
  have hv2 : dat K (.int hi) B v2 := hv2
  have k : ∀ (v : V) (B' H' : Hp), Ext B H B' H' → dat K (.bool (isInD d lo hi)) B' v → Q v H' := k
  cases hd : d with
  | int i =>
    subst hd
    exact s_ret (De.eq (De.andV (a := true) (De.isi (.var hv rfl) (by simp)) fun _ => De.andV (a := true) (De.notV (De.isi (.var hv rfl) (by simp))) fun _ => De.andV (De.op (.var hv1 rfl) (.var hv rfl) Rv.I0b) fun _ => De.op (.var hv rfl) (.var hv2 rfl) Rv.I0b) rfl) hB k
  | bool b =>
    subst hd
    exact s_ret (De.andV (a := true) (b := false) (De.isi (.var hv rfl) (by simp)) fun _ => De.andV (a := false) (b := false) (De.notV (De.isi (.var hv rfl) (by simp))) fun z => nomatch z) hB k
  | _ =>
    subst hd
    exact s_ret (De.andV (a := false) (b := false) (De.isi (.var hv rfl) (by simp)) fun z => nomatch z) hB k
theorem sc_lisRow : FnScope ["questions", "row", "least", "at"] ["questions", "row", "least"] (defScope s_lisRow) := ⟨rfl, rfl, rfl, by decide +kernel, rfl, by decide +kernel, by decide +kernel⟩
theorem ok_lisRow (D : Def K mg "_law_is_row" s_lisRow ["questions", "row", "least"]) (n_tuple : mg "tuple" = none) (n_isinstance : mg "isinstance" = none) (n_len : mg "len" = none) (n_range : mg "range" = none) (C_lisIn : Cal P w K mg base CX0 1 "_law_is_in" s_lisIn ["value", "least", "most"] (sp_lisIn K)) : Cal P w K mg base CX0 2 "_law_is_row" s_lisRow ["questions", "row", "least"] (sp_lisRow K) := by
  refine D.ok sc_lisRow (fun vs H Q E h => ?_) (fun cdv f A outer s H vs Q E hr h => ?_)
  · exact pf_len h fun _ => rfl
  replace h := pf3 h
  obtain ⟨v, v1, v2, B, ⟨qs, d, lo⟩, rfl, hB, hv, hv1, hv2, few, k⟩ := h
  refine ⟨_, (pss_cons (ps_if (PW.pt (pw_or (pt_not (pt_val (pe_callB call_isi (by rfl) n_isinstance (by decide +kernel) (pa_cons (pv 1) (pa_cons (pe_bltn (by rfl) n_tuple (by decide +kernel) (show RelV (.ty "tuple") (.type "tuple") from rfl)) pa_nil))))) (pw_or1 (pt_cmpR op_ne (pe_callB call_len (by rfl) n_len (by decide +kernel) (pa_cons (pv 1) pa_nil)) (pe_callB call_len (by rfl) n_len (by decide +kernel) (pa_cons (pv 0) pa_nil)) (nomark _))))) (pss_one (ps_ret pe_bl)) pss_nil)
    (pss_one (ps_ret (pe_cmpR (op_eqD hr.units) (pe_lc (own := [("at", 3)]) (g := gName 3) rfl sc_lisRow.nd (pi_range1 rfl n_range (pa_cons (pe_callB call_len (by rfl) n_len (by decide +kernel) (pa_cons (pv 1) pa_nil)) pa_nil)) (blkOk_by (own := [("at", 3)]) (N := ["questions", "row", "least", "at"]) (sc := defScope s_lisRow) (by decide +kernel)) (fun _ _ _ _ _ => (pg_name (i := 3) sc_lisRow.nd rfl (Or.inl rfl))) (fun _ _ _ _ _ => pts_one (pt_not (pt_val (pe_cal C_lisIn (hr.mono (by decide)) (by rfl) pass0 (pa_cons (pe_ix (r := rIxT K) ix_tup (pv 1) (pv 3) (fun _ _ => rfl)) (pa_cons (pv 2) (pa_cons (pe_op op_sub (pe_ix (r := rIxT K) ix_tup (pe_ix (r := rIxT K) ix_tup (pv 0) (pv 3) (fun _ _ => rfl)) pe_int (fun _ _ => rfl)) pe_int) pa_nil))))))) (fun _ _ _ _ _ => (pv 3))) (pe_lst pa_nil) (nomark _))))), ?_⟩
  have hv : dat K (qsD qs) B v := hv
  have hv1 : dat K d B v1 := hv1
  have hv2 : dat K (.int lo) B v2 := hv2
  have few : qs.length ≤ 8 := few
  have k : ∀ (v : V) (B' H' : Hp), Ext B H B' H' → dat K (.bool (isRowD qs lo d)) B' v → Q v H' := k
  have lq : ∀ {σ : L2.St}, σ[0]? = some (some v) → De (tCB (Wv.rLen K) (tCons (tVar 0) tNil)) σ B (dat K (.int (qs.length : Int))) := fun h => De.eq (De.lenT (ds := qs.map encQ) (.var hv h)) (by rw [List.length_map])
  cases ht : isD "tuple" d with
  | false =>
    have e : isRowD qs lo d = false := by cases d <;> first | rfl | cases ht
    rw [e] at k
    refine s_ifS (b := true) (Dt.or (a := true) (b := true) (Dt.eq (Dt.not (Dt.tB (De.isi (.var hv1 rfl) (by simp)))) (by rw [ht]; rfl)) fun z => nomatch z) hB (fun _ B1 H1 e1 => ?_) fun z => nomatch z
    exact s_ret (De.bl (K := K)) e1.bh fun v B' H' e h => k v B' H' (e1.trans e) h
  | true =>
    obtain ⟨ds, rfl⟩ : ∃ ds, d = .tuple ds := by cases d <;> first | exact ⟨_, rfl⟩ | cases ht
    refine s_ifS (b := !decide ((ds.length : Int) = (qs.length : Int))) (Dt.or (a := false) (Dt.eq (Dt.not (Dt.tB (De.isi (.var hv1 rfl) (by simp)))) rfl) fun _ => Dt.test (K := K) (De.op (r := rNe) (De.lenT (.var hv1 rfl)) (lq rfl) Rv.neI)) hB (fun t B1 H1 e1 => ?_) fun f B1 H1 e1 => ?_
    · have ne : ¬ ds.length = qs.length := fun h => by simp [h] at t
      have e : isRowD qs lo (.tuple ds) = false := by
        unfold isRowD
        simp [ne]
      rw [e] at k
      exact s_ret (De.bl (K := K)) e1.bh fun v B' H' e h => k v B' H' (e1.trans e) h
    · have hl : ds.length = qs.length := by
        have : (ds.length : Int) = (qs.length : Int) := by simpa using f
        omega
      have hw := Mo.mo e1.bb hv
      have hw1 := Mo.mo e1.bb hv1
      have hw2 := Mo.mo e1.bb hv2
      have sh : SeqAt.shaped (.list (((List.range ds.length).filter (rowBad qs lo ds)).map (fun i : Nat => PyData.int (i : Int)))) = true := (sm_list (b := 20) (k := 0) (W := 1) (fun x hx => by
        obtain ⟨c, hc, rfl⟩ := List.mem_map.mp hx
        have := List.mem_range.mp (List.mem_filter.mp hc).1
        exact .int (by omega)) 8 (by
          rw [List.length_map]
          refine Nat.le_trans (List.length_filter_le _ _) ?_
          rw [List.length_range]
          omega) 16 (by decide)).shaped
      refine s_ret (De.eq (De.op (r := rEqD K) (De.lcD (K := K) (as := List.range ds.length) (r := fun i : Nat => dat K (.int (i : Int))) (Di.rng (De.lenT (.var hw1 rfl)) (by omega)) (rowBad qs lo ds) (fun i => .int (i : Int)) (by rw [List.length_range, sizeLine_eq]; omega) fun i x Bn Hn hi sn sh hx => ⟨[some v, some v1, some v2, some x], fun Q q => q, rfl, ?_, fun _ => .var hx rfl⟩) (De.lstD (K := K) .nil (by show 0 ≤ sizeLine; decide)) (Rv.eqD sh rfl)) (by rw [eqv_nil, row_law hl])) e1.bh fun v B' H' e h => k v B' H' (e1.trans e) h
      have il := List.mem_range.mp hi
      have h1 : ds[i]? = some ds[i] := List.getElem?_eq_getElem il
      have h2 : qs[i]? = some (qs[i]'(by omega)) := List.getElem?_eq_getElem (by omega)
      have h3 : (qs.map encQ)[i]? = some (encQ (qs[i]'(by omega))) := by rw [List.getElem?_map, h2]; rfl
      refine Dt.eq (Dt.not (Dt.tB (De.lisIn (De.op (r := rIxT K) (.var (Mo.mo sn hw1) rfl) (.var hx rfl) (Rv.ixTD (d := ds[i]) (atI_nat h1))) (.var (Mo.mo sn hw2) rfl) (De.op (De.op (r := rIxT K) (De.op (r := rIxT K) (.var (Mo.mo sn hw) rfl) (.var hx rfl) (Rv.ixTD (ds := qs.map encQ) (d := encQ (qs[i]'(by omega))) (atI_nat h3))) .int (Rv.ixTD rfl)) .int Rv.I0)))) ?_
      unfold rowBad
      rw [h1, h2]

theorem pow60 : (10 : Int) ^ ((60 : Int)).toNat = 1000000000000000000000000000000000000000000000000000000000000 := by decide
theorem De.big {σ : L2.St} {B : Hp} : De (tOp (rI CPow fun i j => V.int (i ^ j.toNat)) (tC (.int 10)) (tC (.int 60))) σ B (dat K (.int 1000000000000000000000000000000000000000000000000000000000000)) := De.eq (De.op (De.int (K := K)) (De.int (K := K)) (Rv.I (C := CPow) (i := 10) (j := 60) (f := fun i j => i ^ j.toNat) ⟨by decide, by decide, by decide⟩)) (congrArg PyData.int pow60)
theorem sc_lisShare : FnScope ["value"] ["value"] (defScope s_lisShare) := ⟨rfl, rfl, rfl, by decide +kernel, rfl, by decide +kernel, by decide +kernel⟩
theorem ok_lisShare (D : Def K mg "_law_is_share" s_lisShare ["value"]) (n_tuple : mg "tuple" = none) (n_isinstance : mg "isinstance" = none) (n_len : mg "len" = none) (C_lisIn : Cal P w K mg base CX0 1 "_law_is_in" s_lisIn ["value", "least", "most"] (sp_lisIn K)) (C_lcommon : Cal P w K mg base CX0 1 "_law_common" s_lcommon ["one", "other"] (sp_lcommon K)) : Cal P w K mg base CX0 2 "_law_is_share" s_lisShare ["value"] (sp_lisShare K) := by
  refine D.ok sc_lisShare (fun vs H Q E h => ?_) (fun cdv f A outer s H vs Q E hr h => ?_)
  · exact pf_len h fun _ => rfl
  replace h := pf1 h
  obtain ⟨v, B, d, rfl, hB, hv, ⟨b, kk, W, hb, sm⟩, k⟩ := h
  refine ⟨_, (pss_cons (ps_if (PW.pt (pw_or (pt_not (pt_val (pe_callB call_isi (by rfl) n_isinstance (by decide +kernel) (pa_cons (pv 0) (pa_cons (pe_bltn (by rfl) n_tuple (by decide +kernel) (show RelV (.ty "tuple") (.type "tuple") from rfl)) pa_nil))))) (pw_or (pt_cmpR op_ne (pe_callB call_len (by rfl) n_len (by decide +kernel) (pa_cons (pv 0) pa_nil)) pe_int (nomark _)) (pw_or (pt_not (pt_val (pe_cal C_lisIn (hr.mono (by decide)) (by rfl) pass0 (pa_cons (pe_ix ix_tup (pv 0) pe_int (fun _ _ => rfl)) (pa_cons pe_int (pa_cons (pe_op op_pow pe_int pe_int) pa_nil)))))) (pw_or1 (pt_not (pt_val (pe_cal C_lisIn (hr.mono (by decide)) (by rfl) pass0 (pa_cons (pe_ix ix_tup (pv 0) pe_int (fun _ _ => rfl)) (pa_cons pe_int (pa_cons (pe_op op_pow pe_int pe_int) pa_nil))))))))))) (pss_one (ps_ret pe_bl)) pss_nil)
    (pss_one (ps_ret (pe_cmpR op_eq (pe_cal C_lcommon (hr.mono (by decide)) (by rfl) pass0 (pa_cons (pe_ix ix_tup (pv 0) pe_int (fun _ _ => rfl)) (pa_cons (pe_ix ix_tup (pv 0) pe_int (fun _ _ => rfl)) pa_nil))) pe_int (nomark _))))), ?_⟩
  have hv : dat K d B v := hv
  have sm : Sm b kk W d := sm
  have k : ∀ (v : V) (B' H' : Hp), Ext B H B' H' → dat K (.bool (posFr d)) B' v → Q v H' := k
  cases ht : isTupD d 2 with
  | false =>
    have e : posFr d = false := by
      unfold posFr
      split
      · cases ht
      · rfl
    rw [e] at k
    refine s_ifS (b := true) ?_ hB (fun _ B1 H1 e1 => ?_) fun z => nomatch z
    · cases hd : isD "tuple" d with
      | false => exact Dt.or (a := true) (b := true) (Dt.eq (Dt.not (Dt.tB (De.isi (.var hv rfl) (by simp)))) (by rw [hd]; rfl)) fun z => nomatch z
      | true =>
        obtain ⟨ds, rfl⟩ : ∃ ds, d = .tuple ds := by cases d <;> first | exact ⟨_, rfl⟩ | cases hd
        have ne : ¬ ((ds.length : Int) = 2) := of_decide_eq_false ht
        exact Dt.or (a := false) (b := true) (Dt.eq (Dt.not (Dt.tB (De.isi (.var hv rfl) (by simp)))) rfl) fun _ => Dt.or (a := true) (b := true) (Dt.eq (Dt.test (K := K) (De.op (r := rNe) (De.lenT (.var hv rfl)) (De.int (n := 2)) Rv.neI)) (by rw [decide_eq_false ne]; rfl)) fun z => nomatch z
    · exact s_ret (De.bl (K := K)) e1.bh fun v B' H' e h => k v B' H' (e1.trans e) h
  | true =>
    obtain ⟨x, y, rfl⟩ := isTup2 ht
    have sx : Sm b kk W x := sm.elem (by simp)
    have sy : Sm b kk W y := sm.elem (by simp)
    have ex : ∀ {B2 : Hp}, Same B B2 → De (tOp (rIxT K) (tVar 0) (tC (.int 0))) [some v] B2 (dat K x) := fun s => De.op (r := rIxT K) (.var (Mo.mo s hv) rfl) .int (Rv.ixTD rfl)
    have ey : ∀ {B2 : Hp}, Same B B2 → De (tOp (rIxT K) (tVar 0) (tC (.int 1))) [some v] B2 (dat K y) := fun s => De.op (r := rIxT K) (.var (Mo.mo s hv) rfl) .int (Rv.ixTD rfl)
    refine s_ifS (b := !(isInD x 1 1000000000000000000000000000000000000000000000000000000000000 && isInD y 1 1000000000000000000000000000000000000000000000000000000000000)) (Dt.or (a := false) (Dt.eq (Dt.not (Dt.tB (De.isi (.var hv rfl) (by simp)))) rfl) fun _ => Dt.or (a := false) (Dt.eq (Dt.test (K := K) (De.op (r := rNe) (De.lenT (.var hv rfl)) (De.int (n := 2)) Rv.neI)) rfl) fun _ => Dt.eq (Dt.or (Dt.not (Dt.tB (De.lisIn (ex (Same.refl _)) .int De.big))) fun _ => Dt.not (Dt.tB (De.lisIn (ey (Same.refl _)) .int De.big))) bool_or_not) hB (fun t B1 H1 e1 => ?_) fun f B1 H1 e1 => ?_
    · have e : posFr (.tuple [x, y]) = false := by
        rw [Bool.eq_false_iff]
        intro z
        obtain ⟨a, c, e, ha, hc, _⟩ := posFr_form z
        cases e
        have up : 2 ^ b ≤ 2 ^ 90 := Nat.pow_le_pow_right (by decide) hb
        have a1 := sx.intInv
        have c1 := sy.intInv
        have : (isInD (.int a) 1 1000000000000000000000000000000000000000000000000000000000000 && isInD (.int c) 1 1000000000000000000000000000000000000000000000000000000000000) = true := by
          show ((decide (1 ≤ a) && decide (a ≤ 1000000000000000000000000000000000000000000000000000000000000)) && (decide (1 ≤ c) && decide (c ≤ 1000000000000000000000000000000000000000000000000000000000000))) = true
          simp only [Bool.and_eq_true, decide_eq_true_eq]
          omega
        rw [this] at t
        cases t
      rw [e] at k
      exact s_ret (De.bl (K := K)) e1.bh fun v B' H' e h => k v B' H' (e1.trans e) h
    · have f : (isInD x 1 1000000000000000000000000000000000000000000000000000000000000 && isInD y 1 1000000000000000000000000000000000000000000000000000000000000) = true := by simpa only [Bool.not_eq_false'] using f
      rw [Bool.and_eq_true] at f
      obtain ⟨a, rfl⟩ := inD_int f.1
      obtain ⟨c, rfl⟩ := inD_int f.2
      have f1 : (decide (1 ≤ a) && decide (a ≤ 1000000000000000000000000000000000000000000000000000000000000)) = true := f.1
      have f2 : (decide (1 ≤ c) && decide (c ≤ 1000000000000000000000000000000000000000000000000000000000000)) = true := f.2
      rw [Bool.and_eq_true, decide_eq_true_eq, decide_eq_true_eq] at f1 f2
      have up : 2 ^ b ≤ 2 ^ 4000 := Nat.pow_le_pow_right (by decide) (by omega)
      have c1 := sy.intInv
      have e : posFr (.tuple [.int a, .int c]) = decide (((Nat.gcd a.natAbs c.natAbs : Nat) : Int) = 1) := by
        show (decide (0 < a) && (decide (0 < c) && decide (Nat.gcd a.natAbs c.natAbs = 1))) = _
        rw [decide_eq_true (by omega), decide_eq_true (by omega), Bool.true_and, Bool.true_and]
        exact decide_eq_decide.mpr (by omega)
      rw [e] at k
      exact s_ret (De.op (r := rEq) (De.call (args := fun a : Int × Int => [dat K (.int a.1), dat K (.int a.2)]) (res := fun a => dat K (.int ((Nat.gcd a.1.natAbs a.2.natAbs : Nat) : Int))) (a, c) (.cons (ex e1.bb) (.cons (ey e1.bb) .nil)) (Nat.lt_of_lt_of_le c1 up)) (De.int (n := 1)) Rv.eqI) e1.bh fun v B' H' e h => k v B' H' (e1.trans e) h
theorem sc_lisKey : FnScope ["questions", "key", "way", "names", "name", "many", "at"] ["questions", "key", "way"] (defScope s_lisKey) := ⟨rfl, rfl, rfl, by decide +kernel, rfl, by decide +kernel, by decide +kernel⟩
theorem ok_lisKey (D : Def K mg "_law_is_key" s_lisKey ["questions", "key", "way"]) (C_lisRow : Cal P w K mg base CX0 2 "_law_is_row" s_lisRow ["questions", "row", "least"] (sp_lisRow K)) (n_tuple : mg "tuple" = none) (n_isinstance : mg "isinstance" = none) (n_range : mg "range" = none) (n_len : mg "len" = none) : Cal P w K mg base CX0 3 "_law_is_key" s_lisKey ["questions", "key", "way"] (sp_lisKey K) := by
  refine D.ok sc_lisKey (fun vs H Q E h => ?_) (fun cdv f A outer s H vs Q E hr h => ?_)
  · exact pf_len h fun _ => rfl
  replace h := pf3 h
  obtain ⟨v, v1, v2, B, ⟨qs, way, l, t⟩, rfl, hB, hv, hv1, hv2, ⟨g, b, kk, WW, hb, hk, hW, sm⟩, k⟩ := h
  refine ⟨_, (pss_cons (ps_if (pt_cmpR op_eq (pv 2) pe_int (nomark _)) (pss_one (ps_ret (pe_cal C_lisRow (hr.mono (by decide)) (by rfl) pass0 (pa_cons (pv 0) (pa_cons (pe_ix ix_tup (pv 1) pe_int (fun _ _ => rfl)) (pa_cons (pe_op op_sub pe_int pe_int) pa_nil)))))) pss_nil)
    (pss_cons (ps_set (i := 3) sc_lisKey.nd rfl (Or.inr rfl) (pe_lc (own := [("name", 4), ("many", 5)]) (g := gTup K 2 (gCons (gName 4) (gCons (gName 5) gNil))) (tt := tYes) rfl sc_lisKey.nd (pi_tup (pv 0)) (blkOk_by (own := [("name", 4), ("many", 5)]) (N := ["questions", "key", "way", "names", "name", "many", "at"]) (sc := defScope s_lisKey) (by decide +kernel)) (fun _ _ _ _ _ => (pg_tup rfl (pgs_cons (pg_name (i := 4) sc_lisKey.nd rfl (Or.inl rfl)) (pgs_cons (pg_name (i := 5) sc_lisKey.nd rfl (Or.inl rfl)) pgs_nil)))) (fun _ _ _ _ _ => pts_nil) (fun _ _ _ _ _ => (pv 4))))
    (pss_cons (ps_if (PW.pt (pw_or (pt_not (pt_val (pe_callB call_isi (by rfl) n_isinstance (by decide +kernel) (pa_cons (pe_ix ix_tup (pv 1) pe_int (fun _ _ => rfl)) (pa_cons (pe_bltn (by rfl) n_tuple (by decide +kernel) (show RelV (.ty "tuple") (.type "tuple") from rfl)) pa_nil))))) (pw_or1 (pt_cmpR (op_neD hr.units) (pe_lc (own := [("name", 4)]) (g := gName 4) rfl sc_lisKey.nd (pi_tup (pe_ix ix_tup (pv 1) pe_int (fun _ _ => rfl))) (blkOk_by (own := [("name", 4)]) (N := ["questions", "key", "way", "names", "name", "many", "at"]) (sc := defScope s_lisKey) (by decide +kernel)) (fun _ _ _ _ _ => (pg_name (i := 4) sc_lisKey.nd rfl (Or.inl rfl))) (fun _ _ _ _ _ => pts_one (pt_not (pt_cmpR (r := rInD K) (op_inD hr.u65) (pv 4) (pv 3) rfl))) (fun _ _ _ _ _ => (pv 4))) (pe_lst pa_nil) (nomark _))))) (pss_one (ps_ret pe_bl)) pss_nil)
    (pss_one (ps_ret (pe_and (pe_cmpR (op_eqD hr.units) (pe_lc (own := [("at", 6)]) (g := gName 6) rfl sc_lisKey.nd (pi_range2 (by rfl) n_range (pa_cons pe_int (pa_cons (pe_callB call_len (by rfl) n_len (by decide +kernel) (pa_cons (pe_ix ix_tup (pv 1) pe_int (fun _ _ => rfl)) pa_nil)) pa_nil))) (blkOk_by (own := [("at", 6)]) (N := ["questions", "key", "way", "names", "name", "many", "at"]) (sc := defScope s_lisKey) (by decide +kernel)) (fun _ _ _ _ _ => (pg_name (i := 6) sc_lisKey.nd rfl (Or.inl rfl))) (fun _ _ _ _ _ => pts_one (pt_not (pt_cmpR op_lt_str (pe_ix (r := rIxT K) ix_tup (pe_ix (r := rIxT K) ix_tup (pv 1) pe_int (fun _ _ => rfl)) (pe_op op_sub (pv 6) pe_int) (fun _ _ => rfl)) (pe_ix (r := rIxT K) ix_tup (pe_ix (r := rIxT K) ix_tup (pv 1) pe_int (fun _ _ => rfl)) (pv 6) (fun _ _ => rfl)) (nomark _)))) (fun _ _ _ _ _ => (pv 6))) (pe_lst pa_nil) (nomark _)) (pe_one (pe_cal C_lisRow (hr.mono (by decide)) (by rfl) pass0 (pa_cons (pv 0) (pa_cons (pe_ix ix_tup (pv 1) pe_int (fun _ _ => rfl)) (pa_cons pe_int pa_nil))))))))))), ?_⟩
  have line := sizeLine_eq
  have hv : dat K (qsD qs) B v := hv
  have g : Good qs := g
  have sm : Sm b kk WW l := sm
  have q8 := g.few
  cases way with
  | true =>
    have hv1 : dat K (.tuple [l]) B v1 := hv1
    have hv2 : dat K (.int 1) B v2 := hv2
    refine s_ifS (b := true) (Dt.eq (Dt.test (De.op (r := rEq) (.var hv2 rfl) (De.int (n := 1)) Rv.eqI)) rfl) hB (fun _ B1 H1 e1 => ?_) fun z => nomatch z
    exact s_ret (De.lrow (P := P) (w := w) (.var (Mo.mo e1.bb hv) rfl) (De.op (r := rIxT K) (.var (Mo.mo e1.bb hv1) rfl) .int (Rv.ixTD rfl)) (De.eq (De.op (De.int (n := 0)) (De.int (n := 1)) Rv.I0) (e := .int (-1)) rfl) q8) e1.bh fun v B' H' e h => k v B' H' (e1.trans e) h
  | false =>
    have hv1 : dat K (.tuple [l, t]) B v1 := hv1
    have hv2 : dat K (.int 0) B v2 := hv2
    have k : ∀ (v : V) (B' H' : Hp), Ext B H B' H' → dat K (.bool (partD (Fm.names qs) l && isRowD qs 0 t)) B' v → Q v H' := k
    refine s_skip (Dt.eq (Dt.test (De.op (r := rEq) (.var hv2 rfl) (De.int (n := 1)) Rv.eqI)) rfl) hB fun B0 H0 e0 => ?_
    have hv := Mo.mo e0.bb hv
    have hv1 := Mo.mo e0.bb hv1
    have zl : (Fm.names qs).length = qs.length := by unfold Fm.names; rw [List.length_map]
    refine s_set (De.eq (De.lcA (K := K) (as := qs) (r := fun q => dat K (encQ q)) (Di.tupM (f := encQ) (.var hv rfl)) (fun q => .str q.1) (by omega) fun q x Bn Hn hq sn sh hx => ?_) (e := .list ((Fm.names qs).map .str)) (by unfold Fm.names; rw [List.map_map]; rfl)) e0.bh fun v3 B1 H1 e1 h2 => ?_
    · obtain ⟨y, z, hy, hz, go⟩ := gTup2 sh (dat_pair hx)
      exact ⟨[some v, some v1, some v2, none, some y, some z, none], fun Q q => go Q q, rfl, .var hy rfl⟩
    have h2 : dat K (.list ((Fm.names qs).map .str)) B1 v3 := h2
    have hv1 := Mo.mo e1.bb hv1
    have hv := Mo.mo e1.bb hv
    have eA := e0.trans e1
    have lotE : ∀ {σ : L2.St} {B2 : Hp}, Same B1 B2 → σ[1]? = some (some v1) → De (tOp (rIxT K) (tVar 1) (tC (.int 0))) σ B2 (dat K l) := fun s h => De.op (r := rIxT K) (.var (Mo.mo s hv1) h) .int (Rv.ixTD rfl)
    have nsh := shaped_strsL (l := Fm.names qs) fun z hz => NmL.nm20 (g.nm z hz)
    cases ht : isD "tuple" l with
    | false =>
      have e : partD (Fm.names qs) l = false := by cases l <;> first | rfl | cases ht
      rw [e, Bool.false_and] at k
      refine s_ifS (b := true) (Dt.or (a := true) (b := true) (Dt.eq (Dt.not (Dt.tB (De.isi (lotE (Same.refl _) rfl) (by simp)))) (by rw [ht]; rfl)) fun z => nomatch z) e1.bh (fun _ B2 H2 e2 => ?_) fun z => nomatch z
      exact s_ret (De.bl (K := K)) e2.bh fun v B' H' e h => k v B' H' ((eA.trans e2).trans e) h
    | true =>
      obtain ⟨ds, rfl⟩ : ∃ ds, l = .tuple ds := by cases l <;> first | exact ⟨_, rfl⟩ | cases ht
      have few : ds.length ≤ 100000 := Nat.le_trans sm.count hW
      have fsh : SeqAt.shaped (.list ((ds.filter fun x => !okNm (Fm.names qs) x).map fun x => x)) = true := (Sm.list (b := b) (k := kk) (W := WW) (fun x hx => by
        rw [List.map_id'] at hx
        exact sm.elem (List.mem_filter.mp hx).1) (Nat.le_refl _)).shaped (by omega)
      refine s_ifS (b := !decide ((ds.filter fun x => !okNm (Fm.names qs) x) = [])) (Dt.or (a := false) (Dt.eq (Dt.not (Dt.tB (De.isi (lotE (Same.refl _) rfl) (by simp)))) rfl) fun _ => Dt.eq (Dt.test (De.op (r := rNeD K) (De.lcD (K := K) (as := ds) (r := fun x => dat K x) (Di.tupD (lotE (Same.refl _) rfl)) (fun x => !okNm (Fm.names qs) x) (fun x => x) (by omega) fun x u Bn Hn hx sn sh hu => ⟨[some v, some v1, some v2, some v3, some u, none, none], fun Q q => q, rfl, ?_, fun _ => .var hu rfl⟩) (De.lstD (K := K) .nil (by show 0 ≤ sizeLine; decide)) (Rv.neD fsh rfl))) (by rw [eqv_nil, List.map_id']; rfl)) e1.bh (fun t B2 H2 e2 => ?_) fun f B2 H2 e2 => ?_
      · exact Dt.eq (Dt.not (Dt.test (De.op (r := rInD K) (.var hu rfl) (.var (Mo.mo sn h2) rfl) (Rv.inL ((sm.elem hx).shaped (by omega)) nsh)))) rfl
      · have ne : ¬ (ds.filter fun x => !okNm (Fm.names qs) x) = [] := by simpa using t
        obtain ⟨x, hx, bad⟩ : ∃ x ∈ ds, okNm (Fm.names qs) x = false := by
          cases hf : ds.filter fun x => !okNm (Fm.names qs) x with
          | nil => exact absurd hf ne
          | cons x r =>
            have m : x ∈ ds.filter fun x => !okNm (Fm.names qs) x := by rw [hf]; exact List.mem_cons_self
            obtain ⟨m1, m2⟩ := List.mem_filter.mp m
            exact ⟨x, m1, by simpa using m2⟩
        rw [part_bad g.nm hx bad, Bool.false_and] at k
        exact s_ret (De.bl (K := K)) e2.bh fun v B' H' e h => k v B' H' ((eA.trans e2).trans e) h
      · have emp : (ds.filter fun x => !okNm (Fm.names qs) x) = [] := by simpa using f
        rw [filter_nil] at emp
        obtain ⟨ws, rfl, sub⟩ := all_names (zs := Fm.names qs) fun x hx => by simpa using emp x hx
        rw [List.length_map] at few
        have hw := Mo.mo e2.bb hv1
        have lotF : ∀ {σ : L2.St} {B3 : Hp}, Same B2 B3 → σ[1]? = some (some v1) → De (tOp (rIxT K) (tVar 1) (tC (.int 0))) σ B3 (dat K (.tuple (ws.map .str))) := fun s h => lotE (e2.bb.trans s) h
        have ish : SeqAt.shaped (.list (((List.range ((ws.length : Int) - 1).toNat).filter (stepBad ws)).map (fun m : Nat => PyData.int (1 + (m : Int))))) = true := (Sm.list (b := 40) (k := 0) (W := 1) (fun x hx => by
          obtain ⟨c, hc, rfl⟩ := List.mem_map.mp hx
          have := List.mem_range.mp (List.mem_filter.mp hc).1
          exact .int (by omega)) (Nat.le_refl _)).shaped
        refine s_ret (De.andV (De.eq (De.op (r := rEqD K) (De.lcD (K := K) (as := List.range ((ws.length : Int) - 1).toNat) (r := fun m : Nat => dat K (.int (1 + (m : Int)))) (Di.rng2 (.cons .int (.cons (De.eq (De.lenT (lotF (Same.refl _) rfl)) (e := .int (ws.length : Int)) (by rw [List.length_map])) .nil)) (by omega)) (stepBad ws) (fun m => .int (1 + (m : Int))) (by rw [List.length_range]; omega) fun m x Bn Hn hm sn sh hx => ⟨[some v, some v1, some v2, some v3, none, none, some x], fun Q q => q, rfl, ?_, fun _ => .var hx rfl⟩) (De.lstD (K := K) .nil (by show 0 ≤ sizeLine; decide)) (Rv.eqD ish rfl)) (by rw [eqv_nil, step_law g.asc sub])) fun _ => De.lrow (P := P) (w := w) (.var (Mo.mo e2.bb hv) rfl) (De.op (r := rIxT K) (.var hw rfl) .int (Rv.ixTD rfl)) .int q8) e2.bh fun v B' H' e h => k v B' H' ((eA.trans e2).trans e) h
        have hm := List.mem_range.mp hm
        have h1 : ws[m]? = some (ws[m]'(by omega)) := List.getElem?_eq_getElem (by omega)
        have h3 : ws[m + 1]? = some (ws[m + 1]'(by omega)) := List.getElem?_eq_getElem (by omega)
        have i1 : (ws.map PyData.str)[m]? = some (.str (ws[m]'(by omega))) := by rw [List.getElem?_map, h1]; rfl
        have i3 : (ws.map PyData.str)[m + 1]? = some (.str (ws[m + 1]'(by omega))) := by rw [List.getElem?_map, h3]; rfl
        refine Dt.eq (Dt.not (Dt.test (De.op (De.op (r := rIxT K) (lotF sn rfl) (De.eq (De.op (.var hx rfl) .int Rv.I0) (e := .int (m : Int)) (by rw [show 1 + (m : Int) - 1 = (m : Int) by omega])) (Rv.ixTD (atI_nat i1))) (De.op (r := rIxT K) (lotF sn rfl) (De.eq (.var hx rfl) (e := .int ((m + 1 : Nat) : Int)) (by rw [show 1 + (m : Int) = ((m + 1 : Nat) : Int) by omega])) (Rv.ixTD (atI_nat i3))) Rv.ltS))) ?_
        unfold stepBad
        rw [h1, h3]
end
end K05

set_option Elab.async false
set_option linter.all false
set_option maxRecDepth 100000
set_option maxHeartbeats 4000000
/-! Wt0: try with several clauses 'except X as n'. -/
namespace Wb
open PySem PySem.Spec PyProof.Rows L2
/-- a clause: its class, its name's slot, its suite -/
abbrev Cls3 := Value × Nat × (Addr → Value → Option Addr → TS)
/-- the clauses' wishes, each else the next one's -/
def wAses (K : PySem.W.Frag) (Wo : WX) (D : Ends) : List Cls3 → WX
  | [] => Wo
  | q :: r => wAs K q.1 q.2.1 q.2.2 (wAses K Wo D r) D
inductive Clauses (X : Cx) : List ExceptHandler → List Cls3 → Prop
  | nil : Clauses X [] []
  | cons {x n : Str} {c : Value} {i : Nat} {ts : Addr → Value → Option Addr → TS} {s0 : Stmt} {ss : List Stmt} {p1 p2 : Pos} {hs : List ExceptHandler} {l : List Cls3}
      (at_ : X.N[i]? = some n) (lo : X.env.kindOf n = some .local) (nm : Names X x c)
      (su : ∀ (a : Addr) (oe : Obj) (cl : Value) (d : Option Addr) (pn : List (Addr × Obj)), Zc cl d oe → (∃ vs, oe.data = .fields vs) → PSs (X.suite a ((a, oe) :: pn)) (s0 :: ss) (ts a cl d))
      (more : Clauses X hs l) : Clauses X (.ExceptHandler (some (.Name x p1)) (some n) (s0 :: ss) p2 :: hs) ((c, i, ts) :: l)
section
variable {X : Cx} {body : List Stmt} {h0 : ExceptHandler} {hs : List ExceptHandler} {l : List Cls3} {pos : Pos} {tb : WX → TS} {Wo : WX}
theorem not_frame {es : List Env} {h : Heap} {o : Obj} {vs : Array Value} {Bt : Heap} {ea : Addr} (ff : h.FunFrames Bt es) (at_ : h.get? ea = some o) (dt : o.data = .fields vs) : ea ∉ frs es := by
  intro mem
  obtain ⟨_, o2, at2, no⟩ := ff.mem mem
  rw [at_] at at2
  injection at2 with at2
  subst at2
  exact no _ dt
theorem ps_try_ases (hst : X.stack = X.env :: X.outer) (hfr : X.env.frame = some X.env.locals) (nd : X.N.Nodup) (tk : Takes X Wo)
    (hb : ∀ (W : WX) (pn : List (Addr × Obj)) (xe : Value → Shared → Prop), Takes (X.tr pn xe) W → PassesOwn (model X.prog X.w) X.A X.env xe → PSs (X.tr pn xe) body (tb W))
    (hh : Clauses X (h0 :: hs) l) : PS X (.Try body (h0 :: hs) [] [] pos) (fun D σ H => tb (wAses X.K Wo D l) D σ H) := by
  constructor
  intro pins s σ H D I wish
  have well := I.ok
  have stk : X.A.frames = some (X.env :: X.outer) := well.frames.trans (congrArg some hst)
  apply wpAny_Try_except
  let xe2 : Value → Shared → Prop := fun e t1 => wpAny (model X.prog X.w) X.A (noteFrame e X.env) (fun _ t2 => wpAny (model X.prog X.w) X.A (setFlight e none) (fun _ t3 => wpAny (model X.prog X.w) X.A (handleBy e X.env (h0 :: hs)) (SP X pins D) X.xe t3) X.xe t2) X.xe t1
  have caught : Takes (X.tr (X.pn ++ pins) xe2) (wAses X.K Wo D l) := by
    rintro u t ⟨ea, Bt, s0, pq, τ, G, cl, dd, rfl, jt, b1, b2, b3, fa, o1, g1, want⟩
    have J := jt.ofTry well
    have b3' : Sky Bt (X.env :: X.outer) ea (Zc cl dd) X.env.locals t.heap := hst ▸ b3
    change wpAny (model X.prog X.w) X.A (noteFrame (.ref ea) X.env) _ _ _
    refine Sky.land Zc.steady stk hfr b3' fun k1 fl1 up1 => ?_
    have J1 : Inv X pins τ G { t with heap := k1 } := J.landed b1 fl1.1 (b2.trans up1) o1 g1
    obtain ⟨ob, vs, hob, hz, hd⟩ := fl1.there
    have apart := not_frame fl1.2.2.1 hob hd
    have nL : ea ≠ X.env.locals := by
      intro z
      refine apart (List.mem_filterMap.mpr ⟨X.env, List.mem_cons_self, ?_⟩)
      rw [hfr, z]
    have nF : ea ∉ X.fs := by
      intro mem
      obtain ⟨e, he, q⟩ := List.mem_filterMap.mp mem
      exact apart (List.mem_filterMap.mpr ⟨e, List.mem_cons_of_mem _ he, q⟩)
    have JS := J1.suite hob hd fa nL nF
    suffices each : ∀ {hs2 : List ExceptHandler} {l2 : List Cls3}, Clauses X hs2 l2 → wAses X.K Wo D l2 cl dd τ G → wpAny (model X.prog X.w) X.A (handleBy (.ref ea) X.env hs2) (SP X pins D) X.xe { t with heap := k1 } from each hh want
    intro hs2 l2 cs
    induction cs with
    | nil =>
      intro want
      apply wpAny_handleBy_nil
      obtain ⟨y1, y2, y3, oe, us, T, oT, us2, he, _, hde, ht, _⟩ := id fl1
      unfold PySem.passOn
      refine wpAny_bind (wpAny_field he hde ht ?_)
      have nn : ¬ ((Value.ref T == Value.none) = true) := by simp
      rw [if_neg nn]
      have out : wpAny (model X.prog X.w) X.A (setFlight (.ref ea) X.env.frame) (fun _ t4 => wpAny (model X.prog X.w) X.A (throw (.ref ea) : Sem Flow) (SP X pins D) X.xe t4) X.xe { t with heap := k1 } := by
        rw [hfr]
        refine HandSPX.setFlight_upZ fl1 fun k2 u2 up2 => wpAny_throw (tk _ _ ⟨ea, Bt, s0, pins, τ, G, cl, dd, rfl, J, b1, (b2.trans up1).trans up2, ?_, fa, o1, g1, want⟩)
        rw [hst]
        exact .inr (.inr u2)
      first
        | exact wpAny_bind (wpAny_pure (wpAny_bind out))
        | exact wpAny_bind out
    | @cons x n c i ts st0 ss p1 p2 hs3 l3 at_ lo nm su more ih =>
      rintro ⟨yes, one, w1, w2⟩
      refine wpAny_handleBy_cons (codeAny_handlers_test ?_) (fun q => nomatch q)
      have looks : PySem.W.Looks (model X.prog X.w) k1 (typeOf (.ref ea)) cl := by
        intro A Q E s k q
        exact wpAny_typeOf_ref (k _ _ hob) (hz.1 ▸ q)
      have match_ := PySem.W.exm_one (M := model X.prog X.w) J1.kIn looks one
      have named : ∀ {Q E : Value → Shared → Prop}, Q c { t with heap := k1 } → wpAny (model X.prog X.w) (X.A.mark (some (.ref ea))) (eval (.Name x p1) X.env) Q E { t with heap := k1 } := by
        intro Q E q
        obtain ⟨g, db, m | ⟨m, v, ne⟩⟩ := nm
        · exact ld_glob (X := X.suite ea ((ea, ob) :: (X.pn ++ pins))) JS g m q db
        · exact ld_blt (X := X.suite ea ((ea, ob) :: (X.pn ++ pins))) JS g m v q ne db
      refine named (match_.here ?_)
      cases yes with
      | false =>
        change wpAny _ X.A (handleBy (.ref ea) X.env hs3) _ _ _
        exact ih (w2 rfl)
      | true =>
        apply codeAny_handlers_suite_as
        refine HandSPX.lands_againZ fl1 fun k2 fl2 up2 => ?_
        have J2 : Inv X pins τ G { t with heap := k2 } := J.landed b1 fl2.1 ((b2.trans up1).trans up2) o1 g1
        obtain ⟨o2, vs2, ho2, hz2, hd2⟩ := fl2.there
        refine store_ok (X := X.suite ea ((ea, o2) :: (X.pn ++ pins))) (v := .ref ea) (J2.suite ho2 hd2 fa nL nF) nd at_ (.inl lo) rfl (fun t5 S5 => ?_) (.inr lo)
        have ends : ∀ {τ6 : L2.St} {G6 : Hp} {t6 : Shared} {Q : Shared → Prop}, Inv (X.suite ea ((ea, o2) :: (X.pn ++ pins))) [] τ6 G6 t6 → (∀ t7, Inv X pins (τ6.set i none) G6 t7 → Q t7) → wpAny (model X.prog X.w) X.A (do bindName X.env n .none; unbindBehindTheSuite X.env n p2) (fun _ t7 => Q t7) X.xe t6 := by
          intro τ6 G6 t6 Q S6 q
          exact gone_ok (S6.unsuite well) nd at_ lo q
        refine wpAny_mono ((su ea o2 cl dd (X.pn ++ pins) hz2 ⟨_, hd2⟩).run [] t5 _ G _ S5 (w1 rfl ea fa)) (fun f t6 post => ?_) (fun _ _ z => z.elim)
        cases f with
        | ret u =>
          obtain ⟨v6, τ6, G6, S6, r6, q6⟩ := post
          exact ends S6 fun t7 J7 => ⟨v6, _, G6, J7, r6, q6⟩
        | next | brk | cont =>
          obtain ⟨τ6, G6, S6, q6⟩ := post
          exact ends S6 fun t7 J7 => ⟨_, G6, J7, q6⟩
  refine wpAny_mono ((hb (wAses X.K Wo D l) (X.pn ++ pins) xe2 caught PassesOwn.looking).run [] s σ H D (I.toTry _) wish) (fun f t1 post => ?_) (fun e t1 he => he)
  cases f with
  | ret u =>
    obtain ⟨v, τ, G, J, r, q⟩ := post
    exact ⟨v, τ, G, J.ofTry well, r, q⟩
  | next =>
    obtain ⟨τ, G, J, q⟩ := post
    exact wpAny_execs_nil ⟨τ, G, J.ofTry well, q⟩
  | brk | cont =>
    obtain ⟨τ, G, J, q⟩ := post
    exact ⟨τ, G, J.ofTry well, q⟩
end
end Wb

set_option Elab.async false
set_option linter.all false
set_option maxRecDepth 100000
set_option maxHeartbeats 1000000
/-! K05n: the first wrong row; what is told; forms that are spoilt. -/
namespace K05
open PySem PySem.Spec PyProof.Rows L2 Wb Wv Fm Wf Fq
abbrev sp_told (K : PySem.W.Frag) (CF CB CS : Addr) : Sp := Pf (α := SV × Bool) (fun a => [svR K CF CB CS a.1, dat K (.int (wayI a.2))]) (fun a => svOk a.1) (fun a => dat K (svFault a.2 a.1))
abbrev sp_lright (K : PySem.W.Frag) (CF CB CS : Addr) : Sp := Pf (α := SV × Bool) (fun a => [svR K CF CB CS a.1, dat K (.int (wayI a.2)), dat K (svFault a.2 a.1)]) (fun a => svOk a.1) (fun _ => dat K (.bool true))
/-- a form and whether it is one -/
def SpF (K : PySem.W.Frag) (C : Addr) (qs : Qs) : Rel := fun B v => ∃ b f r, lstR K [valR K C b f, dat K (.bool r)] B v ∧ Sm 41 5 2000 f ∧ (b = false → PyData.eqv f (.int 7) = false) ∧ (r = true → b = true ∧ f = qsD qs) ∧ (r = false → isNoneD (valFault b f) = false)
instance {K : PySem.W.Frag} {C : Addr} {qs : Qs} : Mo (SpF K C qs) := ⟨fun s ⟨b, f, r, h, t⟩ => ⟨b, f, r, Mo.mo s h, t⟩⟩
abbrev sp_spoiltForm (K : PySem.W.Frag) (C : Addr) : Sp := DPf (α := Qs) (fun qs => [formD K C (qsD qs)]) (fun qs => FOk qs) (fun qs => SpF K C qs)
theorem sm_qs {qs : Qs} (fo : FOk qs) : (∀ x ∈ qs.map encQ, Sm 41 3 20 x) ∧ (qs.map encQ).length ≤ 3 := by
  refine ⟨fun x hx => ?_, by rw [List.length_map]; exact fo.few⟩
  obtain ⟨q, hq, rfl⟩ := List.mem_map.mp hx
  have n := fo.nm q.1 (List.mem_map.mpr ⟨q, hq, rfl⟩)
  have t := fo.two q hq
  exact sm_tuple (k := 2) (W := 8) (mem2 (.str n.nmk) (.int (by omega))) 2 (Nat.le_refl 2) _ (by decide)
theorem bad_tail {ds : List PyData} : isNoneD (faultD (.tuple (ds ++ [.tuple [.str (Str.ofString "a"), .int 1]]))) = false := by
  cases hf : faultD (.tuple (ds ++ [.tuple [.str (Str.ofString "a"), .int 1]])) with
  | none =>
    obtain ⟨qs, e, g⟩ := good_of hf
    have e : ds ++ [.tuple [.str (Str.ofString "a"), .int 1]] = qs.map encQ := by injection e
    have m : (PyData.tuple [.str (Str.ofString "a"), .int 1]) ∈ qs.map encQ := by rw [← e]; exact List.mem_append_right _ (List.mem_singleton.mpr rfl)
    obtain ⟨q, hq, eq⟩ := List.mem_map.mp m
    have t := (g.two q hq).1
    unfold encQ at eq
    injection eq with eq
    injection eq with _ eq
    injection eq with eq _
    injection eq with eq
    omega
  | _ => rfl
theorem fault_shw {way : Bool} {t : SV} (ok : svOk t) : Shw (svFault way t) := by
  have m1 : Shw (.int (-1)) := (tb_int (by decide +kernel)).shw
  have big : ∀ i : Nat, i < 2 ^ 63 → Shw (.int (i : Int)) := fun i hi => (tb_int (by
    have : (2 : Nat) ^ 63 ≤ 2 ^ 1900 := Nat.pow_le_pow_right (by decide) (by decide)
    omega)).shw
  cases t with
  | dat d => exact m1
  | ins w b f r =>
    unfold svFault
    dsimp only
    split
    · split
      · cases r with
        | tuple ds =>
          have few := ok.2.2 ds rfl
          show Shw (sharesFault _ ds)
          unfold sharesFault
          split
          · rename_i i hi
            have := List.mem_range.mp (List.mem_of_find?_eq_some hi)
            exact big i (by omega)
          · split
            · exact tb_none.shw
            · exact big _ (by omega)
        | _ => exact m1
      · exact m1
    · exact m1
section
variable {P : Program} {w : World} {K : PySem.W.Frag} {mg : Str → Option Value} {base : Heap} {C_Form C_Book C_Sheets C_InvalidForm C_InvalidBook C_InvalidSheets C_InvalidSize C_BlankError a_ZERO a_ONE : Addr} {t_MOST_QUESTIONS : Tok}
theorem key_test {σ : L2.St} {B : Hp} {vq vw z : V} {qs : Qs} {way : Bool} {q : PyData} {b kk W : Nat} (hq : dat K (qsD qs) B vq) (h0 : σ[0]? = some (some vq)) (hw : dat K (.int (wayI way)) B vw) (h2 : σ[2]? = some (some vw)) (hz : dat K q B z) (h6 : σ[6]? = some (some z)) (g : Good qs) (hb : b ≤ 90) (hk : kk ≤ 50) (hW : W ≤ 100000) (sm : Sm b kk W q) :
    Dt (tOr (tNot (tB (tCB (rIsi K) (tCons (tVar 6) (tCons (tC (.ty "tuple")) tNil))))) (tOr (tTest (tOp rNe (tCB (Wv.rLen K) (tCons (tVar 6) tNil)) (tOp (rI0 fun i j => V.int (i - j)) (tC (.int 3)) (tVar 2)))) (tOr (tNot (tB (tCall (sp_lisKey K) [] E0 (tCons (tVar 0) (tCons (L2.tSl (rSlA K) (tVar 6) tNoPart (tPart (tUn (rU fun i => .int (-i)) (tC (.int 1))))) (tCons (tVar 2) tNil)))))) (tNot (tB (tCall (sp_lisShare K) [] E0 (tCons (tOp (rIxT K) (tVar 6) (tUn (rU fun i => .int (-i)) (tC (.int 1)))) tNil))))))) σ B (!keyB way qs q) := by
  cases ht : isD "tuple" q with
  | false =>
    have e : keyB way qs q = false := by
      unfold keyB pairB tripleB
      cases way <;> cases q <;> first | rfl | cases ht
    rw [e]
    exact Dt.or (a := true) (b := true) (Dt.eq (Dt.not (Dt.tB (De.isi (.var hz h6) (by simp)))) (by rw [ht]; rfl)) fun z => nomatch z
  | true =>
    obtain ⟨es, rfl⟩ : ∃ es, q = .tuple es := by cases q <;> first | exact ⟨_, rfl⟩ | cases ht
    refine Dt.or (a := false) (Dt.eq (Dt.not (Dt.tB (De.isi (.var hz h6) (by simp)))) rfl) fun _ => ?_
    have lenT : Dt (tTest (tOp rNe (tCB (Wv.rLen K) (tCons (tVar 6) tNil)) (tOp (rI0 fun i j => V.int (i - j)) (tC (.int 3)) (tVar 2)))) σ B (!decide ((es.length : Int) = 3 - wayI way)) := Dt.test (De.op (r := rNe) (De.lenT (.var hz h6)) (De.op (De.int (n := 3)) (.var hw h2) Rv.I0) Rv.neI)
    by_cases hl : (es.length : Int) = 3 - wayI way
    · refine Dt.or (a := false) (Dt.eq lenT (by rw [decide_eq_true hl]; rfl)) fun _ => ?_
      cases way with
      | true =>
        have hl : (es.length : Int) = 3 - 1 := hl
        match es, hl with
        | [l, s], _ =>
          have sl : Sm b kk W l := sm.elem (by simp)
          have ss : Sm b kk W s := sm.elem (by simp)
          have ke : De (L2.tSl (rSlA K) (tVar 6) tNoPart (tPart (tUn (rU fun i => .int (-i)) (tC (.int 1))))) σ B (dat K (keyD true l .none)) := De.keyE (ks := [l]) (x := s) (.var hz h6)
          have xe : De (tOp (rIxT K) (tVar 6) (tUn (rU fun i => .int (-i)) (tC (.int 1)))) σ B (dat K s) := De.op (r := rIxT K) (.var hz h6) (De.negI .int) (Rv.ixTD (atI_last' [l] s))
          refine Dt.eq (Dt.or (Dt.not (Dt.tB (De.call (args := fun a : Qs × Bool × PyData × PyData => [dat K (qsD a.1), dat K (keyD a.2.1 a.2.2.1 a.2.2.2), dat K (.int (wayI a.2.1))]) (res := fun a => dat K (.bool (if a.2.1 = true then isRowD a.1 (-1) a.2.2.1 else partD (Fm.names a.1) a.2.2.1 && isRowD a.1 0 a.2.2.2))) (qs, true, l, .none) (.cons (.var hq h0) (.cons ke (.cons (.var hw h2) .nil))) ⟨g, b, kk, W, hb, hk, hW, sl⟩))) fun _ => Dt.not (Dt.tB (De.call (args := fun d => [dat K d]) (res := fun d => dat K (.bool (posFr d))) s (.one xe) ⟨b, kk, W, hb, ss⟩))) ?_
          show (!isRowD qs (-1) l || !posFr s) = !(isRowD qs (-1) l && posFr s)
          exact bool_or_not
      | false =>
        have hl : (es.length : Int) = 3 - 0 := hl
        match es, hl with
        | [l, t, s], _ =>
          have sl : Sm b kk W l := sm.elem (by simp)
          have ss : Sm b kk W s := sm.elem (by simp)
          have ke : De (L2.tSl (rSlA K) (tVar 6) tNoPart (tPart (tUn (rU fun i => .int (-i)) (tC (.int 1))))) σ B (dat K (keyD false l t)) := De.keyE (ks := [l, t]) (x := s) (.var hz h6)
          have xe : De (tOp (rIxT K) (tVar 6) (tUn (rU fun i => .int (-i)) (tC (.int 1)))) σ B (dat K s) := De.op (r := rIxT K) (.var hz h6) (De.negI .int) (Rv.ixTD (atI_last' [l, t] s))
          refine Dt.eq (Dt.or (Dt.not (Dt.tB (De.call (args := fun a : Qs × Bool × PyData × PyData => [dat K (qsD a.1), dat K (keyD a.2.1 a.2.2.1 a.2.2.2), dat K (.int (wayI a.2.1))]) (res := fun a => dat K (.bool (if a.2.1 = true then isRowD a.1 (-1) a.2.2.1 else partD (Fm.names a.1) a.2.2.1 && isRowD a.1 0 a.2.2.2))) (qs, false, l, t) (.cons (.var hq h0) (.cons ke (.cons (.var hw h2) .nil))) ⟨g, b, kk, W, hb, hk, hW, sl⟩))) fun _ => Dt.not (Dt.tB (De.call (args := fun d => [dat K d]) (res := fun d => dat K (.bool (posFr d))) s (.one xe) ⟨b, kk, W, hb, ss⟩))) ?_
          show (!(partD (Fm.names qs) l && isRowD qs 0 t) || !posFr s) = !(partD (Fm.names qs) l && (isRowD qs 0 t && posFr s))
          rw [bool_or_not, Bool.and_assoc]
    · have e : keyB way qs (.tuple es) = false := by
        cases way with
        | true =>
          show pairB qs (.tuple es) = false
          unfold pairB
          split
          · rename_i l s h
            injection h with h
            subst h
            exact absurd rfl hl
          · rfl
        | false =>
          show tripleB qs (.tuple es) = false
          unfold tripleB
          split
          · rename_i l t s h
            injection h with h
            subst h
            exact absurd rfl hl
          · rfl
      rw [e]
      exact Dt.or (a := true) (b := true) (Dt.eq lenT (by rw [decide_eq_false hl]; rfl)) fun z => nomatch z
theorem sc_wrong : FnScope ["questions", "rows", "way", "top", "bottom", "at", "row"] ["questions", "rows", "way"] (defScope s_wrong) := ⟨rfl, rfl, rfl, by decide +kernel, rfl, by decide +kernel, by decide +kernel⟩
theorem ok_wrong (D : Def K mg "_law_wrong" s_wrong ["questions", "rows", "way"]) (n_tuple : mg "tuple" = none) (n_isinstance : mg "isinstance" = none) (n_range : mg "range" = none) (n_len : mg "len" = none) (C_lisKey : Cal P w K mg base CX0 3 "_law_is_key" s_lisKey ["questions", "key", "way"] (sp_lisKey K)) (C_lisShare : Cal P w K mg base CX0 2 "_law_is_share" s_lisShare ["value"] (sp_lisShare K)) (C_llow : Cal P w K mg base CX0 2 "_law_low" s_llow ["top", "bottom"] (sp_llow K)) : Cal P w K mg base CX0 4 "_law_wrong" s_wrong ["questions", "rows", "way"] (sp_wrong K) := by
  refine D.ok sc_wrong (fun vs H Q E h => ?_) (fun cdv f A outer s H vs Q E hr h => ?_)
  · exact pf_len h fun _ => rfl
  replace h := pf3 h
  obtain ⟨v, v1, v2, B, ⟨qs, r, way⟩, rfl, hB, hv, hv1, hv2, ⟨g, ⟨b, kk, W, hb, hk, hW, sm⟩, fw⟩, k⟩ := h
  refine ⟨_, (pss_cons (ps_if (pt_not (pt_val (pe_callB call_isi (by rfl) n_isinstance (by decide +kernel) (pa_cons (pv 1) (pa_cons (pe_bltn (by rfl) n_tuple (by decide +kernel) (show RelV (.ty "tuple") (.type "tuple") from rfl)) pa_nil))))) (pss_one (ps_ret (pe_op op_sub pe_int pe_int))) pss_nil)
    (pss_cons (ps_asg (pe_tup (pa_cons pe_int (pa_cons pe_int pa_nil))) (pg_tup rfl (pgs_cons (pg_name (i := 3) sc_wrong.nd rfl (Or.inl rfl)) (pgs_cons (pg_name (i := 4) sc_wrong.nd rfl (Or.inl rfl)) pgs_nil))))
    (pss_cons (ps_for PassesOwn.never rfl (pi_range1 rfl n_range (pa_cons (pe_callB call_len (by rfl) n_len (by decide +kernel) (pa_cons (pv 1) pa_nil)) pa_nil)) (pg_name (i := 5) sc_wrong.nd rfl (Or.inl rfl)) (pss_cons (ps_set (i := 6) sc_wrong.nd rfl (Or.inl rfl) (pe_ix ix_tup (pv 1) (pv 5) (fun _ _ => rfl)))
      (pss_cons (ps_if (PW.pt (pw_or (pt_not (pt_val (pe_callB call_isi (by rfl) n_isinstance (by decide +kernel) (pa_cons (pv 6) (pa_cons (pe_bltn (by rfl) n_tuple (by decide +kernel) (show RelV (.ty "tuple") (.type "tuple") from rfl)) pa_nil))))) (pw_or (pt_cmpR op_ne (pe_callB call_len (by rfl) n_len (by decide +kernel) (pa_cons (pv 6) pa_nil)) (pe_op op_sub pe_int (pv 2)) (nomark _)) (pw_or (pt_not (pt_val (pe_cal C_lisKey (hr.mono (by decide)) (by rfl) pass0 (pa_cons (pv 0) (pa_cons (pe_slice sl_tupA (pv 6) po_none (po_some (pe_un un_neg pe_int))) (pa_cons (pv 2) pa_nil)))))) (pw_or1 (pt_not (pt_val (pe_cal C_lisShare (hr.mono (by decide)) (by rfl) pass0 (pa_cons (pe_ix ix_tup (pv 6) (pe_un un_neg pe_int) (fun _ _ => rfl)) pa_nil))))))))) (pss_one (ps_ret (pv 5))) pss_nil)
      (pss_cons (ps_if (PW.pt (pw_and (pt_cmpR op_gt (pv 5) pe_int (nomark _)) (pw_and1 (pt_not (pt_cmpR (op_ltA hr.units) (pe_slice sl_tupA (pe_ix ix_tup (pv 1) (pe_op op_sub (pv 5) pe_int) (fun _ _ => rfl)) po_none (po_some (pe_un un_neg pe_int))) (pe_slice sl_tupA (pv 6) po_none (po_some (pe_un un_neg pe_int))) (nomark _)))))) (pss_one (ps_ret (pv 5))) pss_nil)
      (pss_one (ps_asg (pe_cal C_llow (hr.mono (by decide)) (by rfl) pass0 (pa_cons (pe_op op_add (pe_op op_mulW (pv 3) (pe_ix ix_tup (pe_ix ix_tup (pv 6) (pe_un un_neg pe_int) (fun _ _ => rfl)) pe_int (fun _ _ => rfl))) (pe_op op_mulW (pe_ix ix_tup (pe_ix ix_tup (pv 6) (pe_un un_neg pe_int) (fun _ _ => rfl)) pe_int (fun _ _ => rfl)) (pv 4))) (pa_cons (pe_op op_mulW (pv 4) (pe_ix ix_tup (pe_ix ix_tup (pv 6) (pe_un un_neg pe_int) (fun _ _ => rfl)) pe_int (fun _ _ => rfl))) pa_nil))) (pg_tup rfl (pgs_cons (pg_name (i := 3) sc_wrong.nd rfl (Or.inl rfl)) (pgs_cons (pg_name (i := 4) sc_wrong.nd rfl (Or.inl rfl)) pgs_nil)))))))))
    (pss_one (ps_ret (pe_ifExp (pt_cmpR (op_eqD hr.units) (pe_tup (pa_cons (pv 3) (pa_cons (pv 4) pa_nil))) (pe_tup (pa_cons pe_int (pa_cons pe_int pa_nil))) (nomark _)) pe_non (pe_callB call_len (by rfl) n_len (by decide +kernel) (pa_cons (pv 1) pa_nil)))))))), ?_⟩
  have line := sizeLine_eq
  have hv : dat K (qsD qs) B v := hv
  have hv1 : dat K r B v1 := hv1
  have hv2 : dat K (.int (wayI way)) B v2 := hv2
  have g : Good qs := g
  have sm : Sm b kk W r := sm
  have k : ∀ (v : V) (B' H' : Hp), Ext B H B' H' → dat K (rowsFault way qs r) B' v → Q v H' := k
  cases ht : isD "tuple" r with
  | false =>
    have e : rowsFault way qs r = .int (-1) := by cases r <;> first | rfl | cases ht
    rw [e] at k
    refine s_ifS (b := true) (Dt.eq (Dt.not (Dt.tB (De.isi (.var hv1 rfl) (by simp)))) (by rw [ht]; rfl)) hB (fun _ B1 H1 e1 => ?_) fun z => nomatch z
    exact s_ret (De.op (De.int (n := 0)) (De.int (K := K) (n := 1)) Rv.I0) e1.bh fun v B' H' e h => k v B' H' (e1.trans e) h
  | true =>
    obtain ⟨ds, rfl⟩ : ∃ ds, r = .tuple ds := by cases r <;> first | exact ⟨_, rfl⟩ | cases ht
    have few : ds.length ≤ 40 := fw ds rfl
    have k : ∀ (v : V) (B' H' : Hp), Ext B H B' H' → dat K (sharesFault (keyB way qs) ds) B' v → Q v H' := k
    have ok : SharesOk (keyB way qs) ds := keyB_ok ⟨⟨b, kk, W, by omega, hk, hW, sm⟩, fw⟩
    have ke : ∀ o, faultA (keyB way qs) ltK ds = o → sharesFault (keyB way qs) ds = (match o with | some i => .int (i : Int) | none => if sumR (ds.map fun d => ratOf (lastOf d)) = 1 then .none else .int (ds.length : Int)) := fun o ho => by
      unfold sharesFault
      rw [ho]
      all_goals (cases o <;> rfl)
    refine s_skip (Dt.eq (Dt.not (Dt.tB (De.isi (.var hv1 rfl) (by simp)))) rfl) hB fun B1 H1 e1 => ?_
    refine s_un2 (De.tup (K := K) (.cons (De.int (K := K)) (.cons (De.int (K := K)) .nil)) (by show 2 ≤ sizeLine; omega)) e1.bh fun x y B2 H2 e2 hx hy => ?_
    have hx := dat_int hx
    have hy := dat_int hy
    subst hx hy
    have e12 := e1.trans e2
    have hw := Mo.mo e12.bb hv
    have hw1 := Mo.mo e12.bb hv1
    have hw2 := Mo.mo e12.bb hv2
    change tSeq _ _ _ [some v, some v1, some v2, some (.int 0), some (.int 1), none, none] H2
    refine s_forS (Di.rng (K := K) (n := ds.length) (De.lenT (.var hw1 rfl)) (by omega)) e2.bh (fun i σ B => ∃ (v5 v6 : Option V) (q : Rat), σ = [some v, some v1, some v2, some (.int q.num), some (.int (q.den : Int)), v5, v6] ∧ (∀ j, j < i → okA (keyB way qs) ltK ds j = true) ∧ q = sumR ((ds.take i).map fun d => ratOf (lastOf d)) ∧ Sz (91 * i + 1) q) (fun B' s => ⟨none, none, 0, rfl, fun j h => absurd h (Nat.not_lt_zero j), rfl, ⟨by decide, by decide⟩⟩) ?_ ?_
    · rintro B3 H3 e3 i R x σ' Bc Bn Hn hR ⟨v5, v6, q, rfl, okk, hq, sq⟩ s e hx
      rw [List.getElem?_map] at hR
      obtain ⟨i', hi', rfl⟩ := Option.map_eq_some_iff.mp hR
      obtain ⟨il, rfl⟩ : i < ds.length ∧ i' = i := by
        rw [List.getElem?_eq_some_iff] at hi'
        obtain ⟨h1, h2⟩ := hi'
        rw [List.length_range] at h1
        rw [List.getElem_range] at h2
        exact ⟨h1, h2.symm⟩
      have hx := dat_int hx
      subst hx
      have hw := Mo.mo (e3.bb.trans e.bb) hw
      have hw1 := Mo.mo (e3.bb.trans e.bb) hw1
      have hw2 := Mo.mo (e3.bb.trans e.bb) hw2
      have hd : ds[i']? = some ds[i'] := List.getElem?_eq_getElem il
      have sd : Sm b kk W ds[i'] := sm.elem (List.getElem_mem il)
      change tSeq _ _ _ [some v, some v1, some v2, some (.int q.num), some (.int (q.den : Int)), some (.int (i' : Int)), v6] Hn
      refine s_set (De.op (r := rIxT K) (.var hw1 rfl) (.var (Dp.int (i' : Int)) rfl) (Rv.ixTD (d := ds[i']) (atI_nat hd))) e.bh fun z B4 H4 e4 hz => ?_
      have hz : dat K ds[i'] B4 z := hz
      have hw := Mo.mo e4.bb hw
      have hw1 := Mo.mo e4.bb hw1
      have hw2 := Mo.mo e4.bb hw2
      have e34 := ((e12.trans e3).trans e).trans e4
      change tSeq _ _ _ [some v, some v1, some v2, some (.int q.num), some (.int (q.den : Int)), some (.int (i' : Int)), some z] H4
      refine s_ifS (b := !keyB way qs ds[i']) (key_test hw rfl hw2 rfl hz rfl g hb hk hW sd) e4.bh (fun t B5 H5 e5 => ?_) fun f B5 H5 e5 => ?_
      · have bad : okA (keyB way qs) ltK ds i' = false := okA_bad hd (by simpa using t)
        have kk := ke _ (faultA_at il bad okk)
        rw [kk] at k
        exact s_ret (.var (Dp.int (i' : Int)) rfl) e5.bh fun v B' H' e6 h => k v B' H' ((e34.trans e5).trans e6) h
      have kd : keyB way qs ds[i'] = true := by simpa using f
      obtain ⟨ks, u, ed, pu, dk, _⟩ := keyB_form kd
      have hz5 := Mo.mo e5.bb hz
      rw [ed] at hz5
      have hw1 := Mo.mo e5.bb hw1
      have e35 := e34.trans e5
      dsimp only [tNext]
      have tst : Dt (tAnd (tTest (tOp (rI0 fun i j => V.bl (decide (j < i))) (tVar 5) (tC (.int 0)))) (tNot (tTest (tOp (rLtA K) (L2.tSl (rSlA K) (tOp (rIxT K) (tVar 1) (tOp (rI0 fun i j => V.int (i - j)) (tVar 5) (tC (.int 1)))) tNoPart (tPart (tUn (rU fun i => .int (-i)) (tC (.int 1))))) (L2.tSl (rSlA K) (tVar 6) tNoPart (tPart (tUn (rU fun i => .int (-i)) (tC (.int 1))))))))) [some v, some v1, some v2, some (.int q.num), some (.int (q.den : Int)), some (.int (i' : Int)), some z] B5 (!okA (keyB way qs) ltK ds i') := by
        cases i' with
        | zero =>
          rw [okA_zero hd, kd]
          exact Dt.and (a := false) (b := false) (Dt.eq (Dt.test (K := K) (De.op (.var (Dp.int ((0 : Nat) : Int)) rfl) (De.int (n := 0)) Rv.I0b)) rfl) fun z => nomatch z
        | succ j =>
          have hp : ds[j]? = some ds[j] := List.getElem?_eq_getElem (by omega)
          have wp := okA_ok hp (okk j (Nat.lt_succ_self j))
          have al := ok.al ds[j] (List.getElem_mem _) ds[j + 1] (List.getElem_mem il) wp kd
          obtain ⟨ks', u', e2, _, dk', _⟩ := keyB_form wp
          rw [okA_succ hp hd, kd, Bool.true_and]
          have lt : ltK ds[j] ds[j + 1] = PySem.W.dataLt (.tuple ks') (.tuple ks) := by
            unfold ltK
            rw [ed, e2, keyOf_cat, keyOf_cat]
          rw [lt]
          rw [ed, e2, keyOf_cat, keyOf_cat] at al
          have hp' : ds[j]? = some (.tuple (ks' ++ [u'])) := by rw [hp, e2]
          exact Dt.and (a := true) (Dt.eq (Dt.test (K := K) (De.op (.var (Dp.int ((j + 1 : Nat) : Int)) rfl) (De.int (n := 0)) Rv.I0b)) (decide_eq_true (by omega))) fun _ => Dt.not (Dt.test (De.op (r := rLtA K) (De.keyE (De.op (r := rIxT K) (.var hw1 rfl) (De.eq (De.op (.var (Dp.int ((j + 1 : Nat) : Int)) rfl) .int Rv.I0) (e := .int (j : Int)) (by rw [show ((j + 1 : Nat) : Int) - 1 = (j : Int) by omega])) (Rv.ixTD (atI_nat hp')))) (De.keyE (.var hz5 rfl)) (Rv.ltA al (fun z => nomatch z) (by omega))))
      refine s_ifS (b := !okA (keyB way qs) ltK ds i') tst e5.bh (fun t B6 H6 e6 => ?_) fun f B6 H6 e6 => ?_
      · have bad : okA (keyB way qs) ltK ds i' = false := by simpa using t
        have kk := ke _ (faultA_at il bad okk)
        rw [kk] at k
        exact s_ret (.var (Dp.int (i' : Int)) rfl) e6.bh fun v B' H' e7 h => k v B' H' ((e35.trans e6).trans e7) h
      have oki : okA (keyB way qs) ltK ds i' = true := by simpa using f
      have hz6 := Mo.mo e6.bb hz5
      dsimp only [tNext]
      have su : Sz b (ratOf u) := posFr_sz pu (by rw [ed] at sd; exact sd.elem (by simp))
      have s90 := su.mono hb
      have eu : u = frD (ratOf u) := posFr_frD pu
      have lastE : De (tOp (rIxT K) (tVar 6) (tUn (rU fun i => .int (-i)) (tC (.int 1)))) [some v, some v1, some v2, some (.int q.num), some (.int (q.den : Int)), some (.int (i' : Int)), some z] B6 (dat K (frD (ratOf u))) := De.eq (De.op (r := rIxT K) (.var hz6 rfl) (De.negI .int) (Rv.ixTD (atI_last' ks u))) eu
      have b1 : q.num.natAbs < 2 ^ 4000 := Nat.lt_of_lt_of_le sq.top (Nat.pow_le_pow_right (by decide) (by omega))
      have b2 : ((q.den : Int)).natAbs < 2 ^ 4000 := Nat.lt_of_lt_of_le (sz_den sq) (Nat.pow_le_pow_right (by decide) (by omega))
      have b3 : (ratOf u).num.natAbs < 2 ^ 4000 := Nat.lt_of_lt_of_le s90.top (Nat.pow_le_pow_right (by decide) (by decide))
      have b4 : (((ratOf u).den : Int)).natAbs < 2 ^ 4000 := Nat.lt_of_lt_of_le (sz_den s90) (Nat.pow_le_pow_right (by decide) (by decide))
      have mul : ∀ {i j : Int}, i.natAbs < 2 ^ 4000 → j.natAbs < 2 ^ 4000 → CMulW i j := fun h1 h2 => wide_mul (a := 4000) (b := 4000) h1 h2 (by decide) (by decide) (by decide)
      have lb : ((q.den : Int) * (ratOf u).den).natAbs < 2 ^ 4000 := Nat.lt_of_lt_of_le (lt_mulI (sz_den sq) (sz_den s90)) (Nat.pow_le_pow_right (by decide) (by omega))
      have low := De.low4 (K := K) (E := E0) (De.op (De.op (.var (i := 3) (Dp.int q.num) rfl) (De.den lastE) (Rv.I (f := fun i j => i * j) (mul b1 b4))) (De.op (De.num lastE) (.var (i := 4) (Dp.int (q.den : Int)) rfl) (Rv.I (f := fun i j => i * j) (mul b3 b2))) (Rv.I0 (f := fun i j => i + j))) (De.op (.var (i := 4) (Dp.int (q.den : Int)) rfl) (De.den lastE) (Rv.I (f := fun i j => i * j) (mul b2 b4))) (dens_pos q (ratOf u)) lb
      rw [add_val] at low
      refine s_un2E (De.conv low fun B v h => dat_pair h) e6.bh fun x y B7 H7 e7 hx hy => ?_
      have hx := dat_int hx
      have hy := dat_int hy
      subst hx hy
      refine ⟨B7, ((e.trans e4).trans (e5.trans e6)).trans e7, _, _, q + ratOf u, rfl, fun j hj => ?_, ?_, (sq.add s90).mono (by omega)⟩
      · by_cases ji : j = i'
        · subst ji
          exact oki
        · exact okk j (by omega)
      · rw [take_snoc hd, List.map_append, hq]
        show _ = sumR (_ ++ [ratOf (lastOf ds[i'])])
        rw [sumR_snoc, ed, lastOf_cat]
    · rintro σ' B' H' e3 ⟨v5, v6, q, rfl, okk, hq, sq⟩
      rw [List.length_map, List.length_range] at okk sq
      rw [List.length_map, List.length_range, List.take_length] at hq
      have kk := ke _ (faultA_none okk)
      rw [kk] at k
      have hw1 := Mo.mo e3.bb hw1
      refine s_ret (De.iteD (b := decide (q = 1)) (Dt.eq (Dt.test (De.op (r := rEqD K) (De.eq (De.tupI (.cons (.var (Dp.int q.num) rfl) (.cons (.var (Dp.int (q.den : Int)) rfl) .nil))) (e := frD q) rfl) (De.eq (De.tupI (.cons (De.int (K := K)) (.cons (De.int (K := K)) .nil))) (e := frD 1) (den1 1).symm) (Rv.eqD (frD_shaped _) (frD_shaped _)))) (by rw [frD_eqv])) (fun _ => .non) fun _ => De.lenT (.var hw1 rfl)) e3.bh fun v B H e h => k v B H ((e12.trans e3).trans e) ?_
      rw [← hq]
      by_cases z : q = 1
      · rw [decide_eq_true z] at h
        dsimp only
        rw [if_pos z]
        exact h
      · rw [decide_eq_false z] at h
        dsimp only
        rw [if_neg z]
        exact h
theorem sc_spoiltForm : FnScope ["deal", "form"] ["deal", "form"] (defScope s_spoiltForm) := ⟨rfl, rfl, rfl, by decide +kernel, rfl, by decide +kernel, by decide +kernel⟩
theorem ok_spoiltForm (D : Def K mg "_law_spoilt_form" s_spoiltForm ["deal", "form"]) (C_any : Cal P w K mg base CX0 1 "_law_any" s_any ["deal", "bound"] spAny) (C_of : Cal P w K mg base CX0 2 "_law_of" s_of ["deal", "some"] (spOf K)) (K_Form : CalC P w K mg base "Form" C_Form ["questions"]) (n_list : mg "list" = none) : Cal P w K mg base CX0 3 "_law_spoilt_form" s_spoiltForm ["deal", "form"] (sp_spoiltForm K C_Form) := by
  refine D.ok sc_spoiltForm (fun vs H Q E h => ?_) (fun cdv f A outer s H vs Q E hr h => ?_)
  · exact dpf_len h fun _ => rfl
  replace h := dpf1 h
  obtain ⟨d, v, c, B, qs, rfl, L, hv, fo, k⟩ := h
  refine ⟨_, (pss_cons (ps_if (pt_cmpR op_gt (pe_cal C_any (hr.mono (by decide)) (by rfl) pass0 (pa_cons (pv 0) (pa_cons pe_int pa_nil))) pe_int (nomark _)) (pss_one (ps_ret (pe_lst (pa_cons (pv 1) (pa_cons pe_bl pa_nil))))) pss_nil)
    (pss_one (ps_ret (pe_cal C_of (hr.mono (by decide)) (by rfl) pass0 (pa_cons (pv 0) (pa_cons (pe_lst (pa_cons (pe_lst (pa_cons (pe_fld (pv 1) rfl) (pa_cons pe_bl pa_nil))) (pa_cons (pe_lst (pa_cons pe_non (pa_cons pe_bl pa_nil))) (pa_cons (pe_lst (pa_cons (pe_calC K_Form hr (by decide) (by rfl) (pa_cons (pe_tup pa_nil) pa_nil)) (pa_cons pe_bl pa_nil))) (pa_cons (pe_lst (pa_cons (pe_calC K_Form hr (by decide) (by rfl) (pa_cons (pe_callTy call_list_of (by rfl) n_list (by decide +kernel) (pa_cons (pe_fld (pv 1) rfl) pa_nil)) pa_nil)) (pa_cons pe_bl pa_nil))) (pa_cons (pe_lst (pa_cons (pe_calC K_Form hr (by decide) (by rfl) (pa_cons (pe_op op_catA (pe_revT (pe_fld (pv 1) rfl)) (pe_tup (pa_cons (pe_tup (pa_cons pe_str (pa_cons pe_int pa_nil))) pa_nil))) pa_nil)) (pa_cons pe_bl pa_nil))) pa_nil)))))) pa_nil)))))), ?_⟩
  have line := sizeLine_eq
  have hv : formD K C_Form (qsD qs) B v := hv
  have fo : FOk qs := fo
  obtain ⟨sq, lq⟩ := sm_qs fo
  have sT : Sm 41 5 2000 (qsD qs) := (sm_tuple (k := 3) sq 3 lq _ (Nat.le_refl _)).mono (Nat.le_refl _) (by decide) (by decide)
  have sL : Sm 41 5 2000 (.list (qs.map encQ)) := (sm_list (k := 3) sq 3 lq _ (Nat.le_refl _)).mono (Nat.le_refl _) (by decide) (by decide)
  have two : ∀ {σ : L2.St} {B : Hp} {te : TE} {b : Bool} {f : PyData}, De te σ B (valR K C_Form b f) → Sm 41 5 2000 f → (b = false → PyData.eqv f (.int 7) = false) → isNoneD (valFault b f) = false → Dw (tLst (tCons te (tCons (tC (.bl false)) tNil))) σ d c B (SpF K C_Form qs) := fun {σ B te b f} h s n nf => Dw.cv (.of (De.lst (Rs := [valR K C_Form b f, dat K (.bool false)]) (.cons h (.cons .bl .nil)) (by show 2 ≤ sizeLine; omega))) fun _ _ hh => ⟨b, f, false, hh, s, n, (fun z => nomatch z), fun _ => nf⟩
  have mk : ∀ {σ : L2.St} {B : Hp} {te : TE} {f : PyData} {E : XK}, De te σ B (dat K f) → De (tMake C_Form (spIns C_Form ["questions"]) [] E (tCons te tNil)) σ B (valR K C_Form true f) := fun h => De.make (fs := ["questions"]) (Rs := [dat K _]) (.cons h .nil) rfl
  refine s_ifW L (Dtw.cmp (f := fun i j => decide (j < i)) (Dw.any (K := K) rfl .int (by decide) (by decide)) Dw.int) (fun B1 H1 e1 => ?_) fun B1 H1 e1 => ?_
  · exact s_retW e1.dl (Dw.cv (.of (De.lst (K := K) (Rs := [valR K C_Form true (qsD qs), dat K (.bool true)]) (.cons (.var (R := valR K C_Form true (qsD qs)) (Mo.mo (R := formD K C_Form (qsD qs)) e1.bb hv) rfl) (.cons .bl .nil)) (by show 2 ≤ sizeLine; omega))) fun _ _ hh => ⟨true, qsD qs, true, hh, sT, (fun z => nomatch z), fun _ => ⟨rfl, rfl⟩, fun z => nomatch z⟩) fun v B' H' e h => k v B' H' (e1.trans L e) h
  · have hv := Mo.mo e1.bb hv
    have qE : ∀ {σ : L2.St}, σ[1]? = some (some v) → De (tFld K (tVar 1) "questions") σ B1 (dat K (.tuple (qs.map encQ))) := fun h => fldD K_Form (.var hv h)
    dsimp only [tNext]
    refine s_retW e1.dl (Dw.pick (S := SpF K C_Form qs) rfl (.cons (two (b := false) (qE rfl) sT (fun _ => rfl) rfl) (.cons (two (b := false) (f := .none) .non .none (fun _ => rfl) rfl) (.cons (two (b := true) (mk (De.tupD (ds := []) .nil (by show 0 ≤ sizeLine; omega))) (sm_tuple (b := 41) (k := 4) (W := 0) (ds := []) (fun x hx => nomatch hx) 0 (Nat.le_refl 0) _ (by decide)) (fun z => nomatch z) rfl) (.cons (two (b := true) (mk (De.listT (qE rfl))) sL (fun z => nomatch z) rfl) (.cons (two (b := true) (mk (De.op (r := rCatA K) (De.revT (qE rfl)) (De.tupD (ds := [.tuple [.str (Str.ofString "a"), .int 1]]) (.cons (De.tupD (.cons .str (.cons .int .nil)) (by show 2 ≤ sizeLine; omega)) .nil) (by show 1 ≤ sizeLine; omega)) (Rv.catT (by rw [List.length_reverse]; show _ + 1 ≤ _; omega)))) ?_ (fun z => nomatch z) bad_tail) .nil))))) (by decide) (by decide)) fun v B' H' e h => k v B' H' (e1.trans L e) h
    refine sm_tuple (k := 4) (W := 20) (fun x hx => ?_) 4 (by rw [List.length_append, List.length_reverse]; show _ + 1 ≤ _; omega) _ (by decide)
    rcases List.mem_append.mp hx with h | h
    · exact (sq x (List.mem_reverse.mp h)).mono (Nat.le_refl _) (by decide) (by decide)
    · rw [List.mem_singleton.mp h]
      exact sm_tuple (k := 3) (W := 8) (mem2 (.str ⟨by decide +kernel, by decide +kernel⟩) (.int (by decide))) 2 (Nat.le_refl 2) _ (by decide)
end
end K05

set_option Elab.async false
set_option linter.all false
set_option maxRecDepth 100000
set_option maxHeartbeats 1000000
/-! K05q: what is told of any value. -/
namespace K05
open PySem PySem.Spec PyProof.Rows L2 Wb Wv Fm Wf Fq
theorem kw_isBook : Kw "is_book" s_isBook ["value"] ["value"] [0] := ⟨rfl, fun _ _ _ _ _ _ _ ws hl => match ws, hl with | [_], _ => .of_eq rfl⟩
theorem kw_isSheets : Kw "is_sheets" s_isSheets ["value"] ["value"] [0] := ⟨rfl, fun _ _ _ _ _ _ _ ws hl => match ws, hl with | [_], _ => .of_eq rfl⟩
theorem kw_needBook : Kw "need_book" s_needBook ["value"] ["value"] [0] := ⟨rfl, fun _ _ _ _ _ _ _ ws hl => match ws, hl with | [_], _ => .of_eq rfl⟩
theorem kw_needSheets : Kw "need_sheets" s_needSheets ["value"] ["value"] [0] := ⟨rfl, fun _ _ _ _ _ _ _ ws hl => match ws, hl with | [_], _ => .of_eq rfl⟩
theorem kw1 {R : Rel} {B : Hp} {vs : List V} (h : AllR [R] B vs) : AllR [R] B (kwV [0] vs) := by
  obtain ⟨x, r, rfl, hx, h⟩ := h
  have h : r = [] := h
  subst h
  exact ⟨x, [], rfl, hx, rfl⟩
section
variable {P : Program} {w : World} {K : PySem.W.Frag} {mg : Str → Option Value} {base : Heap} {C_Form C_Book C_Sheets C_InvalidForm C_InvalidBook C_InvalidSheets C_InvalidSize C_BlankError a_ZERO a_ONE : Addr} {t_MOST_QUESTIONS : Tok}
theorem sc_told : FnScope ["value", "way", "answer", "e"] ["value", "way"] (defScope s_told) := ⟨rfl, rfl, rfl, by decide +kernel, rfl, by decide +kernel, by decide +kernel⟩
theorem ok_told (D : Def K mg "_law_told" s_told ["value", "way"]) (C_needBook : Cal P w K mg base (L2.CX P w) 7 "need_book" s_needBook ["value"] (sp_needBook K C_Form C_Book C_Sheets C_InvalidBook)) (C_needSheets : Cal P w K mg base (L2.CX P w) 7 "need_sheets" s_needSheets ["value"] (sp_needSheets K C_Form C_Book C_Sheets C_InvalidSheets)) (Z_BlankError : ErrB K mg "BlankError" C_BlankError topB) (n_isinstance : mg "isinstance" = none) (Z_InvalidForm : Err P w K mg base "InvalidForm" "at" C_InvalidForm (topE C_BlankError)) (Z_InvalidSheets : Err P w K mg base "InvalidSheets" "at" C_InvalidSheets (topE C_BlankError)) (Z_InvalidBook : Err P w K mg base "InvalidBook" "at" C_InvalidBook (topE C_BlankError)) (ne1 : C_InvalidSheets ≠ C_InvalidBook) (ne2 : C_InvalidBook ≠ C_InvalidForm) (ne3 : C_InvalidSheets ≠ C_InvalidForm) (ne4 : C_InvalidBook ≠ C_BlankError) (ne5 : C_InvalidForm ≠ C_BlankError) : Cal P w K mg base CX0 8 "_law_told" s_told ["value", "way"] (sp_told K C_Form C_Book C_Sheets) := by
  refine D.ok sc_told (fun vs H Q E h => ?_) (fun cdv f A outer s H vs Q E hr h => ?_)
  · exact pf_len h fun _ => rfl
  replace h := pf2 h
  obtain ⟨v, v1, B, ⟨t, way⟩, rfl, hB, hv, hv1, ok, k⟩ := h
  refine ⟨_, (pss_cons (ps_try_ases rfl rfl sc_told.nd takes0 (fun W pn xe tk _ => (pss_one (ps_set (i := 2) sc_told.nd rfl (Or.inl rfl) (pe_ifExp (pt_cmpR op_eq (pv 1) pe_int (nomark _)) (pe_calS C_needBook (hr.mono (by decide)) (by rfl) (fun σ => passAt tk σ) (pa_cons (pv 0) pa_nil)) (pe_calS C_needSheets (hr.mono (by decide)) (by rfl) (fun σ => passAt tk σ) (pa_cons (pv 0) pa_nil)))))) (.cons (i := 3) rfl rfl ⟨rfl, by decide, .inl Z_InvalidBook.g⟩ (fun a oe cls d pn hz hf => (pss_one (ps_ret (pe_ifExp (PW.pt (pw_and (pt_cmpR op_eq (pv 1) pe_int (nomark _)) (pw_and (pt_val (pe_callB (call_isX hz hf) (by rfl) n_isinstance (by decide +kernel) (pa_cons (pv 3) (pa_cons (pe_glob (by rfl) Z_BlankError.g (show RelV (.ref C_BlankError) (.ref C_BlankError) from rfl)) pa_nil)))) (pw_and1 (pt_not (pt_val (pe_callB (call_isX hz hf) (by rfl) n_isinstance (by decide +kernel) (pa_cons (pv 3) (pa_cons (pe_glob (by rfl) Z_InvalidForm.g (show RelV (.ref C_InvalidForm) (.ref C_InvalidForm) from rfl)) pa_nil))))))))) (pe_errF hz hf (pv 3)) (pe_lst (pa_cons pe_str pa_nil)))))) (.cons (i := 3) rfl rfl ⟨rfl, by decide, .inl Z_InvalidSheets.g⟩ (fun a oe cls d pn hz hf => (pss_one (ps_ret (pe_ifExp (PW.pt (pw_and (pt_cmpR op_eq (pv 1) pe_int (nomark _)) (pw_and (pt_val (pe_callB (call_isX hz hf) (by rfl) n_isinstance (by decide +kernel) (pa_cons (pv 3) (pa_cons (pe_glob (by rfl) Z_BlankError.g (show RelV (.ref C_BlankError) (.ref C_BlankError) from rfl)) pa_nil)))) (pw_and1 (pt_not (pt_val (pe_callB (call_isX hz hf) (by rfl) n_isinstance (by decide +kernel) (pa_cons (pv 3) (pa_cons (pe_glob (by rfl) Z_InvalidForm.g (show RelV (.ref C_InvalidForm) (.ref C_InvalidForm) from rfl)) pa_nil))))))))) (pe_errF hz hf (pv 3)) (pe_lst (pa_cons pe_str pa_nil)))))) .nil)))
    (pss_one (ps_ret (pe_ifExp (pt_cmpR op_notN (pv 2) pe_non (nomark _)) pe_str pe_non)))), ?_⟩
  have hv : svR K C_Form C_Book C_Sheets t B v := hv
  have k : ∀ (v : V) (B' H' : Hp), Ext B H B' H' → dat K (svFault way t) B' v → Q v H' := k
  have ok : svOk t := ok
  have isB1 : PySem.W.kitOne K (.ref C_InvalidBook) (.ref C_BlankError) = some true := by
    rw [Z_InvalidBook.row.one_ref Z_BlankError.row]
    simp [topE]
  have isF1 : PySem.W.kitOne K (.ref C_InvalidBook) (.ref C_InvalidForm) = some false := by
    rw [Z_InvalidBook.row.one_ref Z_InvalidForm.row]
    simp [topE, ne2, ne2.symm, ne5, ne5.symm]
  have isB2 : PySem.W.kitOne K (.ref C_InvalidSheets) (.ref C_BlankError) = some true := by
    rw [Z_InvalidSheets.row.one_ref Z_BlankError.row]
    simp [topE]
  have isF2 : PySem.W.kitOne K (.ref C_InvalidSheets) (.ref C_InvalidForm) = some false := by
    rw [Z_InvalidSheets.row.one_ref Z_InvalidForm.row]
    simp [topE, ne3, ne3.symm, ne5, ne5.symm]
  have not1 : PySem.W.exmOne K (.ref C_InvalidSheets) (.ref C_InvalidBook) = some false := by
    rw [Z_InvalidSheets.row.exm_ref Z_InvalidBook.row rfl]
    simp [topE, ne1, ne1.symm, ne4, ne4.symm]
  cases way with
  | false =>
    have hv1 : dat K (.int 0) B v1 := hv1
    have hv1 := dat_int hv1
    subst hv1
    refine ⟨.int 0, rfl, rfl, _, rfl, ?_⟩
    refine ite2 (fun _ => ?_) (fun z => absurd rfl z)
    refine ⟨_, rfl, v, B, t, rfl, hB, hv, ok, fun hn u B' H' e hu => ?_, fun i hi B' H' dx e hdx => ?_⟩
    · rw [hn] at k
      have hu : u = .non := by cases hu; rfl
      subst hu
      exact s_ret (De.ite (b := false) (Dt.test (De.op (.var (Dp.non (K := K)) rfl) .non (Rv.notNone (d := .none)))) (fun z => nomatch z) fun _ => .non) e.bh fun v B2 H2 e2 h => k v B2 H2 (e.trans e2) h
    · rw [hi] at k
      have atd : upd H' dx (.xd [("at", .int i)]) dx = some (.xd [("at", .int i)]) := upd_same
      refine ⟨true, Z_InvalidBook.exm_self rfl, fun _ ae hae => ?_, fun q => nomatch q⟩
      refine ⟨.int 0, rfl, rfl, _, rfl, ?_⟩
      refine ite2 (fun _ => ?_) (fun z => absurd rfl z)
      refine ⟨_, rfl, C_InvalidBook, _, _, true, rfl, rfl, (fun dd e => by cases e; exact ⟨_, atd⟩), Z_InvalidBook.T, .own _, isB1, _, rfl, ?_⟩
      refine ite2 (fun _ => ?_) (fun z => absurd rfl z)
      refine ⟨_, rfl, C_InvalidBook, _, _, false, rfl, rfl, (fun dd e => by cases e; exact ⟨_, atd⟩), Z_InvalidBook.T, .own _, isF1, _, rfl, ?_⟩
      refine ite2 (fun _ => ?_) (fun z => absurd rfl z)
      have e2 := e.trans (.own (o := .xd [("at", .int i)]) e.bh hdx)
      exact ⟨_, rfl, rfl, C_InvalidBook, dx, _, rfl, rfl, Z_InvalidBook.T, Z_InvalidBook.no, atd, k _ _ _ e2 (Dp.int _)⟩
  | true =>
    have hv1 : dat K (.int 1) B v1 := hv1
    have hv1 := dat_int hv1
    subst hv1
    refine ⟨.int 1, rfl, rfl, _, rfl, ?_⟩
    refine ite2 (fun z => absurd z (by decide)) (fun _ => ?_)
    refine ⟨_, rfl, v, B, t, rfl, hB, hv, ok, fun hn u B' H' e hu => ?_, fun i hi B' H' dx e hdx => ?_⟩
    · rw [hn] at k
      have hu : u = .non := by cases hu; rfl
      subst hu
      exact s_ret (De.ite (b := false) (Dt.test (De.op (.var (Dp.non (K := K)) rfl) .non (Rv.notNone (d := .none)))) (fun z => nomatch z) fun _ => .non) e.bh fun v B2 H2 e2 h => k v B2 H2 (e.trans e2) h
    · rw [hi] at k
      have atd : upd H' dx (.xd [("at", .int i)]) dx = some (.xd [("at", .int i)]) := upd_same
      refine ⟨false, not1, (fun q => nomatch q), fun _ => ⟨true, Z_InvalidSheets.exm_self rfl, fun _ ae hae => ?_, fun q => nomatch q⟩⟩
      refine ⟨.int 1, rfl, rfl, _, rfl, ?_⟩
      refine ite2 (fun _ => ?_) (fun z => absurd rfl z)
      refine ⟨_, rfl, C_InvalidSheets, _, _, true, rfl, rfl, (fun dd e => by cases e; exact ⟨_, atd⟩), Z_InvalidSheets.T, .own _, isB2, _, rfl, ?_⟩
      refine ite2 (fun _ => ?_) (fun z => absurd rfl z)
      refine ⟨_, rfl, C_InvalidSheets, _, _, false, rfl, rfl, (fun dd e => by cases e; exact ⟨_, atd⟩), Z_InvalidSheets.T, .own _, isF2, _, rfl, ?_⟩
      refine ite2 (fun _ => ?_) (fun z => absurd rfl z)
      have e2 := e.trans (.own (o := .xd [("at", .int i)]) e.bh hdx)
      exact ⟨_, rfl, rfl, C_InvalidSheets, dx, _, rfl, rfl, Z_InvalidSheets.T, Z_InvalidSheets.no, atd, k _ _ _ e2 (Dp.int _)⟩
theorem bools_shw (n : Bool) : Shw (.tuple [.bool n, .bool n]) := (sm_tuple (b := 0) (k := 0) (W := 0) (mem2 (.bool n) (.bool n)) 2 (Nat.le_refl 2) 2 (by decide)).shw
theorem sc_lright : FnScope ["value", "way", "due", "told"] ["value", "way", "due"] (defScope s_lright) := ⟨rfl, rfl, rfl, by decide +kernel, rfl, by decide +kernel, by decide +kernel⟩
theorem ok_lright (D : Def K mg "_law_value_right" s_lright ["value", "way", "due"]) (C_told : Cal P w K mg base CX0 8 "_law_told" s_told ["value", "way"] (sp_told K C_Form C_Book C_Sheets)) (n_repr : mg "repr" = none) (C_isSheets : Cal P w K mg base CX0 7 "is_sheets" s_isSheets ["value"] (sp_isSheets K C_Form C_Book C_Sheets)) (C_isBook : Cal P w K mg base CX0 7 "is_book" s_isBook ["value"] (sp_isBook K C_Form C_Book C_Sheets)) (C_needSheets : Cal P w K mg base (L2.CX P w) 7 "need_sheets" s_needSheets ["value"] (sp_needSheets K C_Form C_Book C_Sheets C_InvalidSheets)) (C_needBook : Cal P w K mg base (L2.CX P w) 7 "need_book" s_needBook ["value"] (sp_needBook K C_Form C_Book C_Sheets C_InvalidBook)) : CalG P w K mg base CX0 9 "_law_value_right" s_lright ["value", "way", "due"] (sp_lright K C_Form C_Book C_Sheets) := by
  refine D.okG sc_lright (fun vs H Q E h => ?_) (fun cdv f A outer s H vs Q E gd hr h => ?_)
  · exact pf_len h fun _ => rfl
  replace h := pf3 h
  obtain ⟨v, v1, v2, B, ⟨t, way⟩, rfl, hB, hv, hv1, hv2, ok, k⟩ := h
  refine ⟨_, (pss_cons (ps_if (pt_cmpR op_ne (pe_callB (call_show gd hr.units) (by rfl) n_repr (by decide +kernel) (pa_cons (pe_cal C_told (hr.mono (by decide)) (by rfl) pass0 (pa_cons (pv 0) (pa_cons (pv 1) pa_nil))) pa_nil)) (pe_callB (call_show gd hr.units) (by rfl) n_repr (by decide +kernel) (pa_cons (pv 2) pa_nil)) (nomark _)) (pss_one (ps_ret pe_bl)) pss_nil)
    (pss_cons (ps_set (i := 3) sc_lright.nd rfl (Or.inl rfl) (pe_ifExp (pt_cmpR op_eq (pv 1) pe_int (nomark _)) (pe_tup (pa_cons (pe_cal C_isSheets (hr.mono (by decide)) (by rfl) pass0 (pa_cons (pv 0) pa_nil)) (pa_cons (pe_calK C_isSheets (hr.mono (by decide)) (by rfl) pass0 kw_isSheets (pk_cons (pv 0) pk_nil)) pa_nil))) (pe_tup (pa_cons (pe_cal C_isBook (hr.mono (by decide)) (by rfl) pass0 (pa_cons (pv 0) pa_nil)) (pa_cons (pe_calK C_isBook (hr.mono (by decide)) (by rfl) pass0 kw_isBook (pk_cons (pv 0) pk_nil)) pa_nil)))))
    (pss_cons (ps_if (pt_cmpR op_ne (pe_callB (call_show gd hr.units) (by rfl) n_repr (by decide +kernel) (pa_cons (pv 3) pa_nil)) (pe_callB (call_show gd hr.units) (by rfl) n_repr (by decide +kernel) (pa_cons (pe_tup (pa_cons (pe_cmpR op_isN (pv 2) pe_non (nomark _)) (pa_cons (pe_cmpR op_isN (pv 2) pe_non (nomark _)) pa_nil))) pa_nil)) (nomark _)) (pss_one (ps_ret pe_bl)) pss_nil)
    (pss_cons (ps_if (pt_cmpR op_notN (pv 2) pe_non (nomark _)) (pss_one (ps_ret pe_bl)) pss_nil)
    (pss_one (ps_ret (pe_ifExp (pt_cmpR op_eq (pv 1) pe_int (nomark _)) (pe_cmpR op_isN (pe_calK C_needSheets.quiet (hr.mono (by decide)) (by rfl) pass0 kw_needSheets (pk_cons (pv 0) pk_nil)) pe_non (nomark _)) (pe_cmpR op_isN (pe_calK C_needBook.quiet (hr.mono (by decide)) (by rfl) pass0 kw_needBook (pk_cons (pv 0) pk_nil)) pe_non (nomark _))))))))), ?_⟩
  have line := sizeLine_eq
  have hv : svR K C_Form C_Book C_Sheets t B v := hv
  have hv1 : dat K (.int (wayI way)) B v1 := hv1
  have hv2 : dat K (svFault way t) B v2 := hv2
  have ok : svOk t := ok
  have shF := fault_shw (way := way) ok
  have k : ∀ (v : V) (B' H' : Hp), Ext B H B' H' → dat K (.bool true) B' v → Q v H' := k
  refine s_skip (Dt.reprs (K := K) (d := svFault way t) (De.call (args := fun a : SV × Bool => [svR K C_Form C_Book C_Sheets a.1, dat K (.int (wayI a.2))]) (res := fun a => dat K (svFault a.2 a.1)) (t, way) (.cons (.var hv rfl) (.cons (.var hv1 rfl) .nil)) ok) (.var hv2 rfl) shF) hB fun B1 H1 e1 => ?_
  have hvA : svR K C_Form C_Book C_Sheets t B1 v := Mo.mo e1.bb hv
  have hv1 := Mo.mo e1.bb hv1
  have hv2 := Mo.mo e1.bb hv2
  have wayT : ∀ {σ : L2.St} {B2 : Hp}, Same B1 B2 → σ[1]? = some (some v1) → Dt (tTest (tOp rEq (tVar 1) (tC (.int 1)))) σ B2 (decide (wayI way = 1)) := fun s h => Dt.test (K := K) (De.op (r := rEq) (.var (Mo.mo s hv1) h) (De.int (n := 1)) Rv.eqI)
  refine s_set (De.ite (R := dat K (.tuple [.bool (isNoneD (svFault way t)), .bool (isNoneD (svFault way t))])) (wayT (Same.refl _) rfl) (fun z => ?_) fun z => ?_) e1.bh fun v3 B2 H2 e2 h3 => ?_
  · have : way = true := by cases way <;> first | rfl | cases z
    subst this
    exact De.tupD (.cons (De.call (args := fun t : SV => [svR K C_Form C_Book C_Sheets t]) (res := fun t => dat K (.bool (isNoneD (svFault true t)))) t (.cons (.var hvA rfl) .nil) ok) (.cons (De.callK (args := fun t : SV => [svR K C_Form C_Book C_Sheets t]) (res := fun t => dat K (.bool (isNoneD (svFault true t)))) t (.cons (.var hvA rfl) .nil) rfl (fun _ _ => kw1) ok) .nil)) (by show 2 ≤ sizeLine; omega)
  · have : way = false := by cases way <;> first | rfl | cases z
    subst this
    exact De.tupD (.cons (De.call (args := fun t : SV => [svR K C_Form C_Book C_Sheets t]) (res := fun t => dat K (.bool (isNoneD (svFault false t)))) t (.cons (.var hvA rfl) .nil) ok) (.cons (De.callK (args := fun t : SV => [svR K C_Form C_Book C_Sheets t]) (res := fun t => dat K (.bool (isNoneD (svFault false t)))) t (.cons (.var hvA rfl) .nil) rfl (fun _ _ => kw1) ok) .nil)) (by show 2 ≤ sizeLine; omega)
  have hv := Mo.mo e2.bb hvA
  have hv2 := Mo.mo e2.bb hv2
  have isN : ∀ {B : Hp} {σ : L2.St}, Same B2 B → σ[2]? = some (some v2) → De (tOp (fun x y H Q => y = .non ∧ Q (.bl (decide (x = .non))) H) (tVar 2) (tC .non)) σ B (dat K (.bool (isNoneD (svFault way t)))) := fun s h => De.op (.var (Mo.mo s hv2) h) .non Rv.isNone
  refine s_skip (Dt.reprs (K := K) (d := .tuple [.bool (isNoneD (svFault way t)), .bool (isNoneD (svFault way t))]) (.var h3 rfl) (De.tupD (.cons (isN (Same.refl _) rfl) (.cons (isN (Same.refl _) rfl) .nil)) (by show 2 ≤ sizeLine; omega)) (bools_shw _)) e2.bh fun B3 H3 e3 => ?_
  have e13 := (e1.trans e2).trans e3
  refine s_ifS (b := !isNoneD (svFault way t)) (Dt.test (K := K) (De.op (.var (Mo.mo e3.bb hv2) rfl) .non Rv.notNone)) e3.bh (fun _ B4 H4 e4 => ?_) fun f B4 H4 e4 => ?_
  · exact s_ret (De.bl (K := K)) e4.bh fun v B' H' e h => k v B' H' ((e13.trans e4).trans e) h
  · have no : svFault way t = .none := by
      rcases svFault_kinds way t with e | ⟨i, e⟩
      · exact e
      · rw [e] at f
        cases f
    have hv4 := Mo.mo (e3.bb.trans e4.bb) hv
    have s14 := (e2.bb.trans e3.bb).trans e4.bb
    dsimp only [tNext]
    refine s_ret (De.ite (R := dat K (.bool true)) (wayT s14 rfl) (fun z => ?_) fun z => ?_) e4.bh fun v B' H' e h => k v B' H' ((e13.trans e4).trans e) h
    · have : way = true := by cases way <;> first | rfl | cases z
      subst this
      exact De.op (R := dat K .none) (fun B1' H s1 s2 Q q => ⟨v, rfl, rfl, v, B1', t, rfl, s2, Mo.mo s1 hv4, ok, fun _ w B2 H2 e h => q w B2 H2 e h, fun i hi => by rw [no] at hi; cases hi⟩) .non (Rv.isNone (d := .none))
    · have : way = false := by cases way <;> first | rfl | cases z
      subst this
      exact De.op (R := dat K .none) (fun B1' H s1 s2 Q q => ⟨v, rfl, rfl, v, B1', t, rfl, s2, Mo.mo s1 hv4, ok, fun _ w B2 H2 e h => q w B2 H2 e h, fun i hi => by rw [no] at hi; cases hi⟩) .non (Rv.isNone (d := .none))
end
end K05

set_option Elab.async false
set_option linter.all false
set_option maxRecDepth 100000
set_option maxHeartbeats 400000
/-! K05r: the law itself. -/
namespace K05
open PySem PySem.Spec PyProof.Rows L2 Wb Wv Fm Wf Fq
def NfC (K : PySem.W.Frag) (C C' : Addr) : Prop := PySem.W.notFirst K C (.ref C') = true
theorem good_fo {qs : Qs} (fo : FOk qs) : Good qs := ⟨fo.pos, Nat.le_trans fo.few (by decide), fun q hq => ⟨(fo.two q hq).1, Nat.le_trans (fo.two q hq).2 (by decide)⟩, fo.nm, fo.asc⟩
theorem fok_fault {qs : Qs} (fo : FOk qs) : faultD (qsD qs) = .none := by
  have hl : 1 ≤ (qs.map encQ).length ∧ (qs.map encQ).length ≤ 8 := by
    rw [List.length_map]
    have := fo.few
    exact ⟨fo.pos, by omega⟩
  have ok : ∀ q ∈ qs, okP (encQ q) = true := fun q hq => by
    show (isNmS q.1 && isInD (.int (q.2 : Int)) 2 9) = true
    have n := fo.nm q.1 (List.mem_map.mpr ⟨q, hq, rfl⟩)
    have t := fo.two q hq
    rw [Bool.and_eq_true]
    refine ⟨?_, ?_⟩
    · unfold isNmS
      rw [n.ascii, n.alpha (by decide), n.lower (by decide), decide_eq_true ⟨n.1, n.2.1⟩]
      rfl
    · show (decide ((2 : Int) ≤ (q.2 : Int)) && decide ((q.2 : Int) ≤ 9)) = true
      rw [Bool.and_eq_true, decide_eq_true_eq, decide_eq_true_eq]
      omega
  have fn : faultN (qs.map encQ) = none := fault_none fun j hj => by
    rw [List.length_map] at hj
    cases j with
    | zero =>
      rw [okAt_zero (d := encQ qs[0]) (by rw [List.getElem?_map, List.getElem?_eq_getElem hj]; rfl)]
      exact ok _ (List.getElem_mem hj)
    | succ i =>
      rw [okAt_succ (p := encQ (qs[i]'(by omega))) (d := encQ qs[i + 1]) (by rw [List.getElem?_map, List.getElem?_eq_getElem (by omega)]; rfl) (by rw [List.getElem?_map, List.getElem?_eq_getElem hj]; rfl), ok _ (List.getElem_mem hj), Bool.true_and, decide_eq_true_eq]
      have asc := fo.asc
      unfold Fm.names at asc
      rw [List.pairwise_map, List.pairwise_iff_getElem] at asc
      exact asc i (i + 1) (by omega) hj (by omega)
  show (if 1 ≤ (qs.map encQ).length ∧ (qs.map encQ).length ≤ 8 then (match faultN (qs.map encQ) with | some i => PyData.int (i : Int) | none => .none) else .int (-1)) = .none
  rw [if_pos hl, fn]
/-- the rows as they stand -/
def FinP (r : PyData) : Prop := Sm 44 5 5000 r ∧ ∀ ds, r = .tuple ds → ds.length ≤ 40
theorem FinP.rok {r : PyData} (h : FinP r) : rOk r := ⟨⟨44, 5, 5000, by decide, by decide, by decide, h.1⟩, h.2⟩
def rowAt (k s : PyData) : PyData := match k with
  | .tuple es => .tuple (es ++ [s])
  | d => d
def chg (r : PyData) : PyData := match r with
  | .list ds => .tuple (ds ++ [.none])
  | .tuple ds => .tuple (ds ++ [.none])
  | d => .list [d]
theorem eqvAll_len : ∀ {xs ys : List PyData}, PyData.eqvAll xs ys = true → xs.length = ys.length
  | [], [], _ => rfl
  | [], _ :: _, h => by simp [PyData.eqvAll] at h
  | _ :: _, [], h => by simp [PyData.eqvAll] at h
  | x :: xs, y :: ys, h => by
    simp only [PyData.eqvAll, Bool.and_eq_true] at h
    rw [List.length_cons, List.length_cons, eqvAll_len h.2]
theorem eqv_chg (r : PyData) : PyData.eqv r (chg r) = false := by
  cases r with
  | list ds => simp [chg, PyData.eqv]
  | tuple ds =>
    rw [Bool.eq_false_iff]
    intro h
    simp only [chg, PyData.eqv] at h
    have := eqvAll_len h
    rw [List.length_append] at this
    simp at this
  | none => simp [chg, PyData.eqv]
  | bool b => simp [chg, PyData.eqv]
  | int i => simp [chg, PyData.eqv]
  | str z => simp [chg, PyData.eqv]
  | dict d => simp [chg, PyData.eqv]
theorem sm_chg {r : PyData} (h : Sm 44 5 5000 r) : Sm 44 6 20000 (chg r) := by
  have go : ∀ {ds : List PyData} {j W : Nat}, j + 1 = 5 → (∀ x ∈ ds, Sm 44 j W x) → ds.length * (W + 1) ≤ 5000 → Sm 44 6 20000 (.tuple (ds ++ [.none])) := fun {ds j W} hj hs hl => by
    obtain rfl : j = 4 := by omega
    rcases Nat.eq_zero_or_pos ds.length with h0 | h0
    · have := List.eq_nil_of_length_eq_zero h0
      subst this
      exact sm_tuple (k := 5) (W := 0) (mem1 .none) 1 (Nat.le_refl 1) _ (by decide)
    · refine .tuple (k := 5) (W := W) (fun x hx => ?_) ?_
      · rcases List.mem_append.mp hx with h | h
        · exact (hs x h).mono (Nat.le_refl _) (by decide) (Nat.le_refl _)
        · rw [List.mem_singleton.mp h]
          exact .none
      · rw [List.length_append]
        show (ds.length + 1) * (W + 1) ≤ _
        have : 1 * (W + 1) ≤ ds.length * (W + 1) := Nat.mul_le_mul_right _ h0
        rw [Nat.add_mul]
        omega
  have other : Sm 44 6 20000 (.list [r]) := sm_list (k := 5) (W := 5000) (mem1 h) 1 (Nat.le_refl 1) _ (by decide)
  cases r with
  | list ds =>
    cases h with
    | list hs hl => exact go rfl hs hl
  | tuple ds =>
    obtain ⟨j, W, e, hs, hl⟩ := h.tupInv
    exact go e.symm hs hl
  | none => exact other
  | bool b => exact other
  | int i => exact other
  | str z => exact other
  | dict d => exact other
theorem eqSV_self {way b : Bool} {f r : PyData} {b1 k1 W1 b2 k2 W2 : Nat} (h1 : Sm b1 k1 W1 f) (h2 : Sm b2 k2 W2 r) : eqSV way (b, f, r) (.ins way b f r) = true := by
  show ((way == way) && (eqV b f b f && PyData.eqv r r)) = true
  rw [SeqAt.eqv_refl _ h2.lay, Bool.and_true, beq_self_eq_true, Bool.true_and]
  unfold eqV
  rw [SeqAt.eqv_refl _ h1.lay]
  cases b <;> rfl
theorem eqV_self {b : Bool} {f : PyData} {b1 k1 W1 : Nat} (h1 : Sm b1 k1 W1 f) : eqV b f b f = true := by
  unfold eqV
  rw [SeqAt.eqv_refl _ h1.lay]
  cases b <;> rfl
theorem gLst2 {K : PySem.W.Frag} {Bn H : Hp} {v : V} {R S : Rel} {σ1 : L2.St} {i j : Nat} (s : Same Bn H) (h : lstR K [R, S] Bn v) : ∃ x y, R Bn x ∧ S Bn y ∧ ∀ Q : L2.St → Hp → Prop, Q ((σ1.set i (some x)).set j (some y)) H → gLst K 2 (gCons (gName i) (gCons (gName j) gNil)) v σ1 H Q := by
  obtain ⟨a, xs, rfl, hs, x, r, rfl, hx, y, r', rfl, hy, hr⟩ := h
  have hr : r' = [] := hr
  subst hr
  exact ⟨x, y, hx, hy, fun Q q => ⟨a, _, rfl, s.seq hs, rfl, x, [y], rfl, y, [], rfl, rfl, q⟩⟩
theorem dev_isiT {K : PySem.W.Frag} {σ : L2.St} {B : Hp} {te : TE} {d : PyData} (h : De te σ B (dat K d)) : De (tCB (rIsiT K) (tCons te (tCons (tTup (tCons (tC (.ty "list")) (tCons (tC (.ty "tuple")) tNil))) tNil))) σ B (dat K (.bool (isD "list" d || isD "tuple" d))) := fun B1 H s1 s2 Q q =>
  h B1 H s1 s2 _ fun v B2 H2 e hv => ⟨by show 2 ≤ sizeLine; decide, fun p hp => by
    have e2 := e.trans (Ext.new (o := .tup [.ty "list", .ty "tuple"]) e.bh hp)
    have hv2 := dpMono (new_same (o := .tup [.ty "list", .ty "tuple"]) (e.bh.free hp)) _ _ hv
    have k1 : PySem.W.kitOne K (.type (tyN d)) (.type "list") = some (isD "list" d) := kit_data (K := K) "list" (by simp) (tyN d) (tyN_mem d)
    have k2 : PySem.W.kitOne K (.type (tyN d)) (.type "tuple") = some (isD "tuple" d) := kit_data (K := K) "tuple" (by simp) (tyN d) (tyN_mem d)
    refine ⟨v, p, _, _, [.type "list", .type "tuple"], (isD "list" d || isD "tuple" d), rfl, upd_same, .cons (.ty _) (.cons (.ty _) .nil), ty_dat (dpMono e2.bh _ _ hv2), ?_, q _ _ _ e2 (Dp.bl _)⟩
    unfold PySem.W.kitAny
    rw [k1]
    cases isD "list" d with
    | true => rfl
    | false =>
      show PySem.W.kitAny K (.type (tyN d)) [.type "tuple"] = some (isD "tuple" d)
      unfold PySem.W.kitAny
      rw [k2]
      cases isD "tuple" d <;> rfl⟩

section
variable {P : Program} {w : World} {K : PySem.W.Frag} {mg : Str → Option Value} {base : Heap} {C_Form C_Book C_Sheets C_InvalidForm C_InvalidBook C_InvalidSheets C_InvalidSize C_BlankError a_ZERO a_ONE : Addr} {t_MOST_QUESTIONS : Tok}
abbrev rBS (K : PySem.W.Frag) (CF CB CS : Addr) : R2 := fun x y H Q => rEqI CB (sp_eqBook K CF CB CS) x y H Q ∨ (fun x y H Q => rEqI CS (sp_eqSheets K CF CB CS) x y H Q ∨ (fun x y H Q => rEqY K CB (sp_eqBook K CF CB CS) x y H Q ∨ rEqY K CS (sp_eqSheets K CF CB CS) x y H Q) x y H Q) x y H Q
theorem Rv.eqOth {B : Hp} {C C' : Addr} {fs gs : List (Str × Rel)} {α : Type} {args : α → List Rel} {pre : α → Prop} {res : α → Rel} {t : Bool} (c : Cls K C') (ti : IsiC K C') (nf : NfC K C C') (a : α) (hp : pre a) (ha : ∀ B x y, insR C fs B x → insR C' gs B y → AllR (args a) B [x, y]) (hr : res a = dat K (.bool t)) : Rv (rEqY K C (Pf args pre res)) B (insR C fs) (insR C' gs) (dat K (.bool t)) := fun x y B1 H s1 s2 hx hy Q q => by
  obtain ⟨b, dx, us, rfl, hb, _⟩ := id hx
  obtain ⟨b', dx', us', rfl, hb', _⟩ := id hy
  refine ⟨b, dx, us, _, rfl, s2 _ _ hb, .base (.ins (s2 _ _ hb') c ti.ha ti.hn ti.ht (mro_obj c)), nf, B1, a, s2, ha _ _ _ hx hy, hp, fun v B' H' e hv => ?_⟩
  rw [hr] at hv
  have : v = .bl t := dat_bl hv
  exact ⟨t, this, q _ B' H' e (this ▸ hv)⟩
theorem De.eqBS {σ : L2.St} {B : Hp} {ta tb : TE} {way b : Bool} {f r : PyData} {t : SV} (cB : Cls K C_Book) (cS : Cls K C_Sheets) (tB : IsiC K C_Book) (tS : IsiC K C_Sheets) (n1 : NfC K C_Book C_Sheets) (n2 : NfC K C_Sheets C_Book) (h : De ta σ B (svR K C_Form C_Book C_Sheets (.ins way b f r))) (h2 : De tb σ B (svR K C_Form C_Book C_Sheets t)) (ok : okSV (b, f, r) t) : De (tOp (rBS K C_Form C_Book C_Sheets) ta tb) σ B (dat K (.bool (eqSV way (b, f, r) t))) := by
  have two : ∀ {R S : Rel} {B : Hp} {p q : V}, R B p → S B q → AllR [R, S] B [p, q] := fun hp hq => ⟨_, [_], rfl, hp, _, [], rfl, hq, rfl⟩
  cases way with
  | false =>
    have h : De ta σ B (bkR K C_Form C_Book b f r) := h
    cases t with
    | ins w b2 f2 r2 =>
      cases w with
      | false =>
        have h2 : De tb σ B (bkR K C_Form C_Book b2 f2 r2) := h2
        exact De.op (r := rBS K C_Form C_Book C_Sheets) h h2 (Rv.orL (Rv.eqIns (args := fun a : (Bool × PyData × PyData) × SV => [bkR K C_Form C_Book a.1.1 a.1.2.1 a.1.2.2, svR K C_Form C_Book C_Sheets a.2]) (pre := fun a => okSV a.1 a.2) (res := fun a => dat K (.bool (eqSV false a.1 a.2))) ((b, f, r), .ins false b2 f2 r2) ok (fun B p q hp hq => two hp hq) rfl))
      | true =>
        have h2 : De tb σ B (bkR K C_Form C_Sheets b2 f2 r2) := h2
        exact De.op (r := rBS K C_Form C_Book C_Sheets) h h2 (Rv.orR (Rv.orR (Rv.orL (Rv.eqOth (args := fun a : (Bool × PyData × PyData) × SV => [bkR K C_Form C_Book a.1.1 a.1.2.1 a.1.2.2, svR K C_Form C_Book C_Sheets a.2]) (pre := fun a => okSV a.1 a.2) (res := fun a => dat K (.bool (eqSV false a.1 a.2))) cS tS n1 ((b, f, r), .ins true b2 f2 r2) ok (fun B p q hp hq => two hp hq) rfl))))
    | dat d =>
      have h2 : De tb σ B (dat K d) := h2
      exact De.op (r := rBS K C_Form C_Book C_Sheets) h h2 (Rv.orR (Rv.orR (Rv.orL (Rv.eqDatY (args := fun a : (Bool × PyData × PyData) × SV => [bkR K C_Form C_Book a.1.1 a.1.2.1 a.1.2.2, svR K C_Form C_Book C_Sheets a.2]) (pre := fun a => okSV a.1 a.2) (res := fun a => dat K (.bool (eqSV false a.1 a.2))) ((b, f, r), .dat d) ok (fun B p q hp hq => two hp hq) rfl))))
  | true =>
    have h : De ta σ B (bkR K C_Form C_Sheets b f r) := h
    cases t with
    | ins w b2 f2 r2 =>
      cases w with
      | true =>
        have h2 : De tb σ B (bkR K C_Form C_Sheets b2 f2 r2) := h2
        exact De.op (r := rBS K C_Form C_Book C_Sheets) h h2 (Rv.orR (Rv.orL (Rv.eqIns (args := fun a : (Bool × PyData × PyData) × SV => [bkR K C_Form C_Sheets a.1.1 a.1.2.1 a.1.2.2, svR K C_Form C_Book C_Sheets a.2]) (pre := fun a => okSV a.1 a.2) (res := fun a => dat K (.bool (eqSV true a.1 a.2))) ((b, f, r), .ins true b2 f2 r2) ok (fun B p q hp hq => two hp hq) rfl)))
      | false =>
        have h2 : De tb σ B (bkR K C_Form C_Book b2 f2 r2) := h2
        exact De.op (r := rBS K C_Form C_Book C_Sheets) h h2 (Rv.orR (Rv.orR (Rv.orR (Rv.eqOth (args := fun a : (Bool × PyData × PyData) × SV => [bkR K C_Form C_Sheets a.1.1 a.1.2.1 a.1.2.2, svR K C_Form C_Book C_Sheets a.2]) (pre := fun a => okSV a.1 a.2) (res := fun a => dat K (.bool (eqSV true a.1 a.2))) cB tB n2 ((b, f, r), .ins false b2 f2 r2) ok (fun B p q hp hq => two hp hq) rfl))))
    | dat d =>
      have h2 : De tb σ B (dat K d) := h2
      exact De.op (r := rBS K C_Form C_Book C_Sheets) h h2 (Rv.orR (Rv.orR (Rv.orR (Rv.eqDatY (args := fun a : (Bool × PyData × PyData) × SV => [bkR K C_Form C_Sheets a.1.1 a.1.2.1 a.1.2.2, svR K C_Form C_Book C_Sheets a.2]) (pre := fun a => okSV a.1 a.2) (res := fun a => dat K (.bool (eqSV true a.1 a.2))) ((b, f, r), .dat d) ok (fun B p q hp hq => two hp hq) rfl))))
theorem svF {σ : L2.St} {B : Hp} {te : TE} {way b : Bool} {f r : PyData} (cB : CalC P w K mg base "Book" C_Book ["form", "shares"]) (cS : CalC P w K mg base "Sheets" C_Sheets ["form", "shares"]) (h : De te σ B (svR K C_Form C_Book C_Sheets (.ins way b f r))) : De (tFld K te "form") σ B (valR K C_Form b f) := by
  cases way with
  | false => exact fldF cB h
  | true => exact fldF cS h
theorem svS {σ : L2.St} {B : Hp} {te : TE} {way b : Bool} {f r : PyData} (cB : CalC P w K mg base "Book" C_Book ["form", "shares"]) (cS : CalC P w K mg base "Sheets" C_Sheets ["form", "shares"]) (h : De te σ B (svR K C_Form C_Book C_Sheets (.ins way b f r))) : De (tFld K te "shares") σ B (dat K r) := by
  cases way with
  | false => exact fldS cB h
  | true => exact fldS cS h
theorem mkSV {σ : L2.St} {B : Hp} {te tf : TE} {C : Addr} {b : Bool} {f r : PyData} (h : De te σ B (valR K C_Form b f)) (h2 : De tf σ B (dat K r)) : De (tMake C (spIns C ["form", "shares"]) [] E0 (tCons te (tCons tf tNil))) σ B (bkR K C_Form C b f r) := De.make (fs := ["form", "shares"]) (Rs := [valR K C_Form b f, dat K r]) (.cons h (.cons h2 .nil)) rfl
theorem De.right {σ : L2.St} {B : Hp} {te tf tg : TE} {E : XK} {t : SV} {way : Bool} (h : De te σ B (svR K C_Form C_Book C_Sheets t)) (h2 : De tf σ B (dat K (.int (wayI way)))) (h3 : De tg σ B (dat K (svFault way t))) (ok : svOk t) : De (tCall (sp_lright K C_Form C_Book C_Sheets) [] E (tCons te (tCons tf (tCons tg tNil)))) σ B (dat K (.bool true)) := De.call (args := fun a : SV × Bool => [svR K C_Form C_Book C_Sheets a.1, dat K (.int (wayI a.2)), dat K (svFault a.2 a.1)]) (res := fun _ => dat K (.bool true)) (t, way) (.cons h (.cons h2 (.cons h3 .nil))) ok
end
end K05

set_option Elab.async false
set_option linter.all false
set_option maxRecDepth 100000
set_option maxHeartbeats 400000
/-! K05u: the law. -/
namespace K05
open PySem PySem.Spec PyProof.Rows L2 Wb Wv Fm Wf Fq
section
variable {P : Program} {w : World} {K : PySem.W.Frag} {mg : Str → Option Value} {base : Heap} {C_Form C_Book C_Sheets C_InvalidForm C_InvalidBook C_InvalidSheets C_InvalidSize C_BlankError a_ZERO a_ONE : Addr} {t_MOST_QUESTIONS : Tok}
theorem sc_law : FnScope ["script", "deal", "turn", "questions", "way", "keys", "parts", "rows", "at", "form", "right", "value", "due", "shown", "other", "turned", "changed"] ["script"] (defScope s_law) := ⟨rfl, rfl, rfl, by decide +kernel, rfl, by decide +kernel, by decide +kernel⟩
theorem ok_law (D : Def K mg "law" s_law ["script"]) (C_source : Cal P w K mg base CX0 1 "_law_source" s_source ["script"] (spSource K)) (n_range : mg "range" = none) (C_lform : Cal P w K mg base CX0 5 "_law_form" s_lform ["deal", "most"] (sp_lform K)) (C_lpicked : Cal P w K mg base CX0 3 "_law_picked" s_lpicked ["deal", "keys"] (sp_lpicked K)) (C_lkeys : Cal P w K mg base CX0 2 "_law_keys" s_lkeys ["questions", "way"] (sp_lkeys K)) (C_lshares : Cal P w K mg base CX0 3 "_law_shares" s_lshares ["deal", "keys"] (sp_lshares K)) (n_len : mg "len" = none) (C_bent : Cal P w K mg base CX0 5 "_law_bent" s_bent ["deal", "rows"] (sp_bent K)) (C_any : Cal P w K mg base CX0 1 "_law_any" s_any ["deal", "bound"] spAny) (C_of : Cal P w K mg base CX0 2 "_law_of" s_of ["deal", "some"] (spOf K)) (C_thing : Cal P w K mg base CX0 3 "_law_thing" s_thing ["deal"] (sp_thing K)) (n_tuple : mg "tuple" = none) (C_spoiltForm : Cal P w K mg base CX0 3 "_law_spoilt_form" s_spoiltForm ["deal", "form"] (sp_spoiltForm K C_Form)) (K_Form : CalC P w K mg base "Form" C_Form ["questions"]) (K_Book : CalC P w K mg base "Book" C_Book ["form", "shares"]) (K_Sheets : CalC P w K mg base "Sheets" C_Sheets ["form", "shares"]) (C_wrong : Cal P w K mg base CX0 4 "_law_wrong" s_wrong ["questions", "rows", "way"] (sp_wrong K)) (n_repr : mg "repr" = none) (C_lright : CalG P w K mg base CX0 9 "_law_value_right" s_lright ["value", "way", "due"] (sp_lright K C_Form C_Book C_Sheets)) (E_Form : CalE P w K mg base 1 C_Form (sp_eqForm K C_Form)) (KR_Book : CalCR P w K mg base "Book" C_Book "form" "shares") (KR_Sheets : CalCR P w K mg base "Sheets" C_Sheets "form" "shares") (E_Book : CalE P w K mg base 2 C_Book (sp_eqBook K C_Form C_Book C_Sheets)) (E_Sheets : CalE P w K mg base 2 C_Sheets (sp_eqSheets K C_Form C_Book C_Sheets)) (n_list : mg "list" = none) (n_isinstance : mg "isinstance" = none) (t_Book : IsiC K C_Book) (t_Sheets : IsiC K C_Sheets) (u_n1 : NfC K C_Book C_Sheets) (u_n2 : NfC K C_Sheets C_Book) : CalG P w K mg base CX0 10 "law" s_law ["script"] (Wb.spLaw K) := by
  refine D.okG sc_law (fun vs H Q E h => ?_) (fun cdv f A outer s H vs Q E gd hr h => ?_)
  · obtain ⟨a, ns, rfl, _⟩ := h
    rfl
  obtain ⟨a, ns, rfl, hs, few, k⟩ := h
  refine ⟨_, (pss_cons (ps_set (i := 1) sc_law.nd rfl (Or.inl rfl) (pe_cal C_source (hr.mono (by decide)) (by rfl) pass0 (pa_cons (pv 0) pa_nil)))
    (pss_cons (ps_for PassesOwn.leaving rfl (pi_range1 rfl n_range (pa_cons pe_int pa_nil)) (pg_name (i := 2) sc_law.nd rfl (Or.inl rfl)) (pss_cons (ps_par (i := 3) (j := 4) rfl sc_law.nd rfl rfl (by decide) rfl rfl (pa_cons (pe_cal C_lform (hr.mono (by decide)) (by rfl) pass0 (pa_cons (pv 1) (pa_cons pe_int pa_nil))) (pa_cons (pe_op op_mod (pv 2) pe_int) pa_nil)) (by rfl))
      (pss_cons (ps_set (i := 5) sc_law.nd rfl (Or.inr rfl) (pe_cal C_lpicked (hr.mono (by decide)) (by rfl) pass0 (pa_cons (pv 1) (pa_cons (pe_cal C_lkeys (hr.mono (by decide)) (by rfl) pass0 (pa_cons (pv 3) (pa_cons (pv 4) pa_nil))) pa_nil))))
      (pss_cons (ps_set (i := 6) sc_law.nd rfl (Or.inr rfl) (pe_cal C_lshares (hr.mono (by decide)) (by rfl) pass0 (pa_cons (pv 1) (pa_cons (pv 5) pa_nil))))
      (pss_cons (ps_setLc (i := 7) (own := [("at", 8)]) (g := gName 8) (tt := tYes) rfl sc_law.nd rfl rfl (sw_true rfl rfl rfl (by decide +kernel)) (pi_range1 rfl n_range (pa_cons (pe_callB call_len (by rfl) n_len (by decide +kernel) (pa_cons (pv 5) pa_nil)) pa_nil)) (blkOk_by (own := [("at", 8)]) (N := ["script", "deal", "turn", "questions", "way", "keys", "parts", "rows", "at", "form", "right", "value", "due", "shown", "other", "turned", "changed"]) (sc := defScope s_law) (by decide +kernel)) (fun _ _ _ _ _ => (pg_name (i := 8) sc_law.nd rfl (Or.inl rfl))) (fun _ _ _ _ _ => pts_nil) (fun _ _ _ _ _ => (pe_op (r := rCatA K) op_catA (pe_ix (r := rIxL K) ix_list (pv 5) (pv 8) (fun _ _ => rfl)) (pe_tup (pa_cons (pe_ix (r := rIxL K) ix_list (pv 6) (pv 8) (fun _ _ => rfl)) pa_nil)))))
      (pss_cons (ps_set (i := 7) sc_law.nd rfl (Or.inl rfl) (pe_ifExp (pt_cmpR op_gt (pe_cal C_any (hr.mono (by decide)) (by rfl) pass0 (pa_cons (pv 1) (pa_cons pe_int pa_nil))) pe_int (nomark _)) (pe_cal C_bent (hr.mono (by decide)) (by rfl) pass0 (pa_cons (pv 1) (pa_cons (pv 7) pa_nil))) (pv 7)))
      (pss_cons (ps_set (i := 7) sc_law.nd rfl (Or.inl rfl) (pe_ifExp (pt_cmpR op_eq (pe_cal C_any (hr.mono (by decide)) (by rfl) pass0 (pa_cons (pv 1) (pa_cons pe_int pa_nil))) pe_int (nomark _)) (pe_cal C_of (hr.mono (by decide)) (by rfl) pass0 (pa_cons (pv 1) (pa_cons (pe_lst (pa_cons (pv 7) (pa_cons (pe_cal C_thing (hr.mono (by decide)) (by rfl) pass0 (pa_cons (pv 1) pa_nil)) (pa_cons (pe_tup pa_nil) pa_nil)))) pa_nil))) (pe_callTy call_tuple_of (by rfl) n_tuple (by decide +kernel) (pa_cons (pv 7) pa_nil))))
      (pss_cons (ps_asg (pe_cal C_spoiltForm (hr.mono (by decide)) (by rfl) pass0 (pa_cons (pv 1) (pa_cons (pe_calC K_Form hr (by decide) (by rfl) (pa_cons (pv 3) pa_nil)) pa_nil))) (pg_lst rfl (pgs_cons (pg_name (i := 9) sc_law.nd rfl (Or.inl rfl)) (pgs_cons (pg_name (i := 10) sc_law.nd rfl (Or.inl rfl)) pgs_nil))))
      (pss_cons (ps_par (i := 11) (j := 12) rfl sc_law.nd rfl rfl (by decide) rfl rfl (pa_cons (pe_ifExp (pt_cmpR op_eq (pv 4) pe_int (nomark _)) (pe_calC K_Book hr (by decide) (by rfl) (pa_cons (pv 9) (pa_cons (pv 7) pa_nil))) (pe_calC K_Sheets hr (by decide) (by rfl) (pa_cons (pv 9) (pa_cons (pv 7) pa_nil)))) (pa_cons (pe_ifExp (pt_val (pv 10)) (pe_cal C_wrong (hr.mono (by decide)) (by rfl) pass0 (pa_cons (pv 3) (pa_cons (pv 7) (pa_cons (pv 4) pa_nil)))) (pe_op op_sub pe_int pe_int)) pa_nil)) (by rfl))
      (pss_cons (ps_set (i := 13) sc_law.nd rfl (Or.inl rfl) (pe_callB (call_show gd hr.units) (by rfl) n_repr (by decide +kernel) (pa_cons (pv 7) pa_nil)))
      (pss_cons (ps_if (PW.pt (pw_or (pt_not (pt_val (pe_calG C_lright gd (hr.mono (by decide)) (by rfl) pass0 (pa_cons (pv 11) (pa_cons (pv 4) (pa_cons (pv 12) pa_nil)))))) (pw_or (pt_cmpR op_ne (pe_callB (call_show gd hr.units) (by rfl) n_repr (by decide +kernel) (pa_cons (pe_fld (pv 11) rfl) pa_nil)) (pv 13) (nomark _)) (pw_or1 (pt_not (pt_cmpR (op_eqM E_Form (hr.mono (by decide)) hr.units) (pe_fld (pv 11) rfl) (pv 9) (nomark _))))))) (pss_one (ps_ret pe_bl)) pss_nil)
      (pss_cons (ps_set (i := 14) sc_law.nd rfl (Or.inl rfl) (pe_ifExp (pt_cmpR op_eq (pv 4) pe_int (nomark _)) (pe_calCR KR_Book hr (by decide) (by rfl) (pk_cons (pv 7) (pk_cons (pv 9) pk_nil))) (pe_calCR KR_Sheets hr (by decide) (by rfl) (pk_cons (pv 7) (pk_cons (pv 9) pk_nil)))))
      (pss_cons (ps_if (PW.pt (pw_or (pt_not (pt_cmpR (opOr (op_eqC E_Book (hr.mono (by decide))) (opOr (op_eqC E_Sheets (hr.mono (by decide))) (opOr (op_eqY E_Book (hr.mono (by decide))) (op_eqY E_Sheets (hr.mono (by decide)))))) (pv 14) (pv 11) (nomark _))) (pw_or (pt_cmpR (opOr (op_eqC E_Book (hr.mono (by decide))) (opOr (op_eqC E_Sheets (hr.mono (by decide))) (opOr (op_eqY E_Book (hr.mono (by decide))) (op_eqY E_Sheets (hr.mono (by decide)))))) (pv 11) (pv 7) (nomark _)) (pw_or1 (pt_not (pt_val (pe_calG C_lright gd (hr.mono (by decide)) (by rfl) pass0 (pa_cons (pv 14) (pa_cons (pv 4) (pa_cons (pv 12) pa_nil)))))))))) (pss_one (ps_ret pe_bl)) pss_nil)
      (pss_cons (ps_set (i := 15) sc_law.nd rfl (Or.inl rfl) (pe_ifExp (pt_cmpR op_eq (pv 4) pe_int (nomark _)) (pe_calC K_Sheets hr (by decide) (by rfl) (pa_cons (pv 9) (pa_cons (pv 7) pa_nil))) (pe_calC K_Book hr (by decide) (by rfl) (pa_cons (pv 9) (pa_cons (pv 7) pa_nil)))))
      (pss_cons (ps_if (PW.pt (pw_or (pt_cmpR (opOr (op_eqC E_Book (hr.mono (by decide))) (opOr (op_eqC E_Sheets (hr.mono (by decide))) (opOr (op_eqY E_Book (hr.mono (by decide))) (op_eqY E_Sheets (hr.mono (by decide)))))) (pv 15) (pv 11) (nomark _)) (pw_or1 (pt_not (pt_val (pe_calG C_lright gd (hr.mono (by decide)) (by rfl) pass0 (pa_cons (pv 15) (pa_cons (pv 4) (pa_cons (pe_op op_sub pe_int pe_int) pa_nil))))))))) (pss_one (ps_ret pe_bl)) pss_nil)
      (pss_cons (ps_set (i := 16) sc_law.nd rfl (Or.inl rfl) (pe_ifExp (pt_val (pe_callB call_isiT (by rfl) n_isinstance (by decide +kernel) (pa_cons (pv 7) (pa_cons (pe_tup (pa_cons (pe_bltn (by rfl) n_list (by decide +kernel) (show RelV (.ty "list") (.type "list") from rfl)) (pa_cons (pe_bltn (by rfl) n_tuple (by decide +kernel) (show RelV (.ty "tuple") (.type "tuple") from rfl)) pa_nil))) pa_nil)))) (pe_callTy call_tuple_of (by rfl) n_tuple (by decide +kernel) (pa_cons (pe_op op_catS (pe_callTy call_list_of (by rfl) n_list (by decide +kernel) (pa_cons (pv 7) pa_nil)) (pe_lst (pa_cons pe_non pa_nil))) pa_nil)) (pe_lst (pa_cons (pv 7) pa_nil))))
      (pss_cons (ps_if (pt_cmpR (opOr (op_eqC E_Book (hr.mono (by decide))) (opOr (op_eqC E_Sheets (hr.mono (by decide))) (opOr (op_eqY E_Book (hr.mono (by decide))) (op_eqY E_Sheets (hr.mono (by decide)))))) (pv 11) (pe_ifExp (pt_cmpR op_eq (pv 4) pe_int (nomark _)) (pe_calC K_Book hr (by decide) (by rfl) (pa_cons (pv 9) (pa_cons (pv 16) pa_nil))) (pe_calC K_Sheets hr (by decide) (by rfl) (pa_cons (pv 9) (pa_cons (pv 16) pa_nil)))) (nomark _)) (pss_one (ps_ret pe_bl)) pss_nil)
      (pss_one (ps_if (pt_cmpR (opOr (op_eqC E_Book (hr.mono (by decide))) (opOr (op_eqC E_Sheets (hr.mono (by decide))) (opOr (op_eqY E_Book (hr.mono (by decide))) (op_eqY E_Sheets (hr.mono (by decide)))))) (pv 11) (pe_ifExp (pt_cmpR op_eq (pv 4) pe_int (nomark _)) (pe_calC K_Book hr (by decide) (by rfl) (pa_cons pe_int (pa_cons (pv 7) pa_nil))) (pe_calC K_Sheets hr (by decide) (by rfl) (pa_cons pe_int (pa_cons (pv 7) pa_nil)))) (nomark _)) (pss_one (ps_ret pe_bl)) pss_nil)))))))))))))))))))
    (pss_one (ps_ret (pe_and (pe_calG C_lright gd (hr.mono (by decide)) (by rfl) pass0 (pa_cons (pe_cal C_thing (hr.mono (by decide)) (by rfl) pass0 (pa_cons (pv 1) pa_nil)) (pa_cons pe_int (pa_cons (pe_op op_sub pe_int pe_int) pa_nil)))) (pe_one (pe_calG C_lright gd (hr.mono (by decide)) (by rfl) pass0 (pa_cons (pe_cal C_thing (hr.mono (by decide)) (by rfl) pass0 (pa_cons (pv 1) pa_nil)) (pa_cons pe_int (pa_cons (pe_op op_sub pe_int pe_int) pa_nil)))))))))), ?_⟩
  have line := sizeLine_eq
  refine ⟨_, rfl, a, ns, rfl, hs, few, fun d c H1 _ _ D1 _ => ?_⟩
  clear hs few
  have L : Dl (off H1 d c) H1 d c := ⟨D1, Same.refl _⟩
  generalize off H1 d c = B1 at L
  have thg : ∀ {E : XK} {B : Hp} {σ : L2.St}, σ[1]? = some (some (.ref d)) → Dw (tCall (sp_thing K) [] E (tCons (tVar 1) tNil)) σ d c B (datP K ThP) := fun h => Dw.def1 (args := fun _ : Unit => []) (res := fun _ => datP K ThP) () h .nil trivial
  refine s_forD L (.refl L) (Di.rng (K := K) (n := 4) .int (by decide)) (fun i σ B H => ∃ (v2 v3 v4 v5 v6 v7 v8 v9 v10 v11 v12 v13 v14 v15 v16 : Option V), σ = [some (.ref a), some (.ref d), v2, v3, v4, v5, v6, v7, v8, v9, v10, v11, v12, v13, v14, v15, v16]) (fun B1 H1 e => ⟨_, _, _, _, _, _, _, _, _, _, _, _, _, _, _, rfl⟩) ?_ ?_
  · rintro Bz i R v σ' Bc Hc B0 H0 sB hR ec sc ⟨v2, v3, v4, v5, v6, v7, v8, v9, v10, v11, v12, v13, v14, v15, v16, rfl⟩ en hv
    have eD0 := ec.trans L en
    have sZ := sc.trans en.bb
    rw [List.getElem?_map] at hR
    obtain ⟨i', hi', rfl⟩ := Option.map_eq_some_iff.mp hR
    have hv := dat_int hv
    subst hv
    change tSeq _ _ _ [some (.ref a), some (.ref d), some (.int (i' : Int)), v3, v4, v5, v6, v7, v8, v9, v10, v11, v12, v13, v14, v15, v16] H0
    -- the form's questions, which of both
    refine s_parR (Dw.def1 (args := fun _ : Unit => [dat K (.int 3)]) (res := fun _ => datP K (tupOf QsP)) () rfl (.one .int) trivial B0 H0 (Same.refl _) eD0.dl _ fun u3 B2 H2 e2 h3 => ?_)
    obtain ⟨_, ⟨ds, rfl, qs, rfl, fo⟩, h3⟩ := h3
    refine d_ev e2.dl (De.op (.var (Dp.int (i' : Int)) rfl) .int (Rv.I (K := K) (show (0 : Int) < 2 by decide))) fun u4 B3 H3 e3 h4 => ?_
    have h3 : dat K (qsD qs) B3 u3 := Mo.mo (R := dat K (qsD qs)) e3.bb h3
    obtain ⟨way, hw⟩ : ∃ way : Bool, wayI way = (i' : Int) % 2 := by
      rcases (show (i' : Int) % 2 = 0 ∨ (i' : Int) % 2 = 1 by omega) with h | h
      · exact ⟨false, h.symm⟩
      · exact ⟨true, h.symm⟩
    have h4 : dat K (.int (wayI way)) B3 u4 := by rw [hw]; exact h4
    have h4 := dat_int h4
    subst h4
    have eD3 := (eD0.trans L e2).trans L e3
    have s03 := e2.bb.trans e3.bb
    clear hw hi' hR
    change tSeq _ _ _ [some (.ref a), some (.ref d), some (.int (i' : Int)), some u3, some (.int (wayI way)), v5, v6, v7, v8, v9, v10, v11, v12, v13, v14, v15, v16] H3
    -- keys and shares
    have hK : De (tCall (sp_lkeys K) [] E0 (tCons (tVar 3) (tCons (tVar 4) tNil))) [some (.ref a), some (.ref d), some (.int (i' : Int)), some u3, some (.int (wayI way)), v5, v6, v7, v8, v9, v10, v11, v12, v13, v14, v15, v16] B3 (datP K (listOf KeysP)) := De.call (args := fun a : Qs × Bool => [dat K (qsD a.1), dat K (.int (if a.2 = true then 1 else 0))]) (res := fun _ => datP K (listOf KeysP)) (qs, way) (.cons (.var h3 rfl) (.cons (.var (Dp.int _) rfl) .nil)) fo
    refine s_w eD3.dl (Dw.def (S := datP K (listOf PickP)) rfl (.one (.of hK)) fun B vs hv => ?_) fun u5 B5 H5 e5 ⟨_, ⟨ks, rfl, k1, k16, kp⟩, h5⟩ => ?_
    · obtain ⟨x, r, rfl, ⟨_, ⟨ks, rfl, kp⟩, hx⟩, hr⟩ := hv
      exact ⟨ks, ⟨x, r, rfl, hx, hr⟩, kp, fun B v h => h⟩
    have eD5 := eD3.trans L e5
    have h5 : dat K (.list ks) B5 u5 := h5
    have h3 := Mo.mo e5.bb h3
    change tSeq _ _ _ [some (.ref a), some (.ref d), some (.int (i' : Int)), some u3, some (.int (wayI way)), some u5, v6, v7, v8, v9, v10, v11, v12, v13, v14, v15, v16] H5
    refine s_w eD5.dl (Dw.def1 (args := fun ks : List PyData => [dat K (.list ks)]) (res := fun ks => datP K (listOf fun ss => ss.length = ks.length ∧ ∀ s ∈ ss, ShP s)) ks rfl (.one (.var h5 rfl)) ⟨k1, k16⟩) fun u6 B6 H6 e6 ⟨_, ⟨ss, rfl, sl, sp⟩, h6⟩ => ?_
    have eD6 := eD5.trans L e6
    have h6 : dat K (.list ss) B6 u6 := h6
    have h3 := Mo.mo e6.bb h3
    have h5 := Mo.mo e6.bb h5
    change tSeq _ _ _ [some (.ref a), some (.ref d), some (.int (i' : Int)), some u3, some (.int (wayI way)), some u5, some u6, v7, v8, v9, v10, v11, v12, v13, v14, v15, v16] H6
    refine s_set (De.lcA (K := K) (as := List.range ks.length) (r := fun m : Nat => dat K (.int (m : Int))) (Di.rng (De.lenL (.var h5 rfl)) (by omega)) (fun m => rowAt (ks.getD m .none) (ss.getD m .none)) (by rw [List.length_range]; omega) fun m x Bn Hn hm sn sh hx => ⟨[some (.ref a), some (.ref d), some (.int (i' : Int)), some u3, some (.int (wayI way)), some u5, some u6, v7, some x, v9, v10, v11, v12, v13, v14, v15, v16], fun Q q => q, rfl, ?_⟩) eD6.bh fun u7 B7 H7 e7 h7 => ?_
    · have hm := List.mem_range.mp hm
      have c1 : ks[m]? = some ks[m] := List.getElem?_eq_getElem hm
      have c2 : ss[m]? = some (ss[m]'(by omega)) := List.getElem?_eq_getElem (by omega)
      have g1 : ks.getD m .none = ks[m] := by rw [List.getD_eq_getElem?_getD, c1]; rfl
      have g2 : ss.getD m .none = ss[m]'(by omega) := by rw [List.getD_eq_getElem?_getD, c2]; rfl
      rw [g1, g2]
      obtain ⟨es, ek, l2, _⟩ := kp _ (List.getElem_mem hm)
      have c1' : ks[m]? = some (.tuple es) := by rw [c1, ek]
      rw [ek]
      exact De.op (r := rCatA K) (De.op (r := rIxL K) (.var (Mo.mo sn h5) rfl) (.var hx rfl) (Rv.ixLD (atI_nat c1'))) (De.tupD (ds := [ss[m]'(by omega)]) (.cons (De.op (r := rIxL K) (.var (Mo.mo sn h6) rfl) (.var hx rfl) (Rv.ixLD (atI_nat c2))) .nil) (by show 1 ≤ sizeLine; omega)) (Rv.catT (by show _ + 1 ≤ _; omega))
    have eD7 := eD6.trans L (.of eD6.dl e7)
    have h3 := Mo.mo e7.bb h3
    have h7 : dat K (.list ((List.range ks.length).map fun m => rowAt (ks.getD m .none) (ss.getD m .none))) B7 u7 := h7
    have rw0 : ∀ r ∈ (List.range ks.length).map fun m => rowAt (ks.getD m .none) (ss.getD m .none), RowP 0 r := fun r hr => by
      obtain ⟨m, hm, rfl⟩ := List.mem_map.mp hr
      have hm := List.mem_range.mp hm
      have c1 : ks[m]? = some ks[m] := List.getElem?_eq_getElem hm
      have c2 : ss[m]? = some (ss[m]'(by omega)) := List.getElem?_eq_getElem (by omega)
      have g1 : ks.getD m .none = ks[m] := by rw [List.getD_eq_getElem?_getD, c1]; rfl
      have g2 : ss.getD m .none = ss[m]'(by omega) := by rw [List.getD_eq_getElem?_getD, c2]; rfl
      rw [g1, g2]
      obtain ⟨es, ek, l2, he⟩ := kp _ (List.getElem_mem hm)
      obtain ⟨ys, ey, l3, hy⟩ := sp _ (List.getElem_mem (show m < ss.length by omega))
      rw [ek]
      refine row_of (by rw [List.length_append]; show _ + 1 ≤ 3; omega) fun y hy2 => ?_
      rcases List.mem_append.mp hy2 with h | h
      · obtain ⟨zs, ez, lz, hz⟩ := he y h
        rw [ez]
        exact part_of (by omega) fun z hm => (hz z hm).mono (by decide) (by decide) (by decide)
      · rw [List.mem_singleton.mp h, ey]
        exact part_of (by omega) fun z hm => (hy z hm).mono (by decide) (by decide) (by decide)
    have ln0 : ((List.range ks.length).map fun m => rowAt (ks.getD m .none) (ss.getD m .none)).length = ks.length := by rw [List.length_map, List.length_range]
    generalize (List.range ks.length).map (fun m => rowAt (ks.getD m .none) (ss.getD m .none)) = rs0 at h7 rw0 ln0
    change tSeq _ _ _ [some (.ref a), some (.ref d), some (.int (i' : Int)), some u3, some (.int (wayI way)), some u5, some u6, some u7, v8, v9, v10, v11, v12, v13, v14, v15, v16] H7
    -- spoilt
    refine s_w eD7.dl (Dw.ite (S := datP K (listOf fun rs => 1 ≤ rs.length ∧ rs.length ≤ 18 ∧ ∀ r ∈ rs, RowP 2 r)) (Dtw.cmp (f := fun i j => decide (j < i)) (Dw.any (K := K) rfl .int (by decide) (by decide)) Dw.int) (Dw.def1 (args := fun rs : List PyData => [dat K (.list rs)]) (res := fun _ => datP K (listOf fun rs => 1 ≤ rs.length ∧ rs.length ≤ 18 ∧ ∀ r ∈ rs, RowP 2 r)) rs0 rfl (.one (.var h7 rfl)) ⟨by omega, by omega, rw0⟩) (Dw.D1 (.var h7 rfl) ⟨rs0, rfl, by omega, by omega, fun r hr => (rw0 r hr).up.up⟩)) fun u8 B8 H8 e8 ⟨_, ⟨rs, rfl, r1, r18, rp⟩, h8⟩ => ?_
    have eD8 := eD7.trans L e8
    have h3 := Mo.mo e8.bb h3
    have h8 : dat K (.list rs) B8 u8 := h8
    have sR : ∀ x ∈ rs, Sm 44 4 153 x := fun x hx => (rp x hx).1
    have fL : FinP (.list rs) := ⟨(sm_list (k := 4) sR 18 r18 _ (Nat.le_refl _)).mono (Nat.le_refl _) (Nat.le_refl _) (by decide), fun es e => nomatch e⟩
    have fT : FinP (.tuple rs) := ⟨(sm_tuple (k := 4) sR 18 r18 _ (Nat.le_refl _)).mono (Nat.le_refl _) (Nat.le_refl _) (by decide), fun es e => by injection e with e; rw [← e]; omega⟩
    have f0 : FinP (.tuple []) := ⟨sm_tuple (b := 44) (k := 4) (W := 0) (ds := []) (fun x hx => nomatch hx) 0 (Nat.le_refl 0) _ (by decide), fun es e => by injection e with e; rw [← e]; exact Nat.zero_le _⟩
    change tSeq _ _ _ [some (.ref a), some (.ref d), some (.int (i' : Int)), some u3, some (.int (wayI way)), some u5, some u6, some u8, v8, v9, v10, v11, v12, v13, v14, v15, v16] H8
    refine s_w eD8.dl (Dw.ite (S := datP K FinP) (Dtw.eq (K := K) (Dw.any (K := K) rfl .int (by decide) (by decide)) Dw.int) (Dw.pick (S := datP K FinP) (i := 1) rfl (.cons (Dw.D1 (.var h8 rfl) fL) (.cons (Dw.cv (thg rfl) fun _ _ ⟨x, hx, h⟩ => ⟨x, ⟨hx.1.mono (by decide) (by decide) (by decide), fun es e => by have := (hx.2 es e).1; omega⟩, h⟩) (.cons (Dw.D1 (De.tupD (ds := []) .nil (by show 0 ≤ sizeLine; omega)) f0) .nil))) (by decide) (by decide)) (Dw.D1 (De.tupleL (.var h8 rfl)) fT)) fun u9 B9 H9 e9 ⟨r, fr, h9⟩ => ?_
    have eD9 := eD8.trans L e9
    have h3 := Mo.mo e9.bb h3
    have h9 : dat K r B9 u9 := h9
    have sr := fr.1
    have rok := fr.rok
    change tSeq _ _ _ [some (.ref a), some (.ref d), some (.int (i' : Int)), some u3, some (.int (wayI way)), some u5, some u6, some u9, v8, v9, v10, v11, v12, v13, v14, v15, v16] H9
    -- the form
    have mkF : De (tMake C_Form (spIns C_Form ["questions"]) [] E0 (tCons (tVar 3) tNil)) [some (.ref a), some (.ref d), some (.int (i' : Int)), some u3, some (.int (wayI way)), some u5, some u6, some u9, v8, v9, v10, v11, v12, v13, v14, v15, v16] B9 (formD K C_Form (qsD qs)) := De.make (fs := ["questions"]) (Rs := [dat K (qsD qs)]) (.cons (.var h3 rfl) .nil) rfl
    refine Dw.def1 (E := E0) (args := fun qs : Qs => [formD K C_Form (qsD qs)]) (res := fun qs => SpF K C_Form qs) qs rfl (.cons mkF .nil) fo B9 H9 (Same.refl _) eD9.dl _ fun u10 B10 H10 e10 ⟨b, f, rr, hl, sf, n7, ry, rn⟩ => ?_
    have eD10 := eD9.trans L e10
    obtain ⟨xf, xr, hf, hr, go⟩ := gLst2 (σ1 := [some (.ref a), some (.ref d), some (.int (i' : Int)), some u3, some (.int (wayI way)), some u5, some u6, some u9, v8, v9, v10, v11, v12, v13, v14, v15, v16]) (i := 9) (j := 10) e10.dl.bh hl
    refine go _ ?_
    have hr := dat_bl hr
    subst hr
    have h3 := Mo.mo e10.bb h3
    have h9 := Mo.mo e10.bb h9
    change tSeq _ _ _ [some (.ref a), some (.ref d), some (.int (i' : Int)), some u3, some (.int (wayI way)), some u5, some u6, some u9, v8, some xf, some (.bl rr), v11, v12, v13, v14, v15, v16] H10
    have dueE : (if rr = true then rowsFault way qs r else .int (-1)) = svFault way (.ins way b f r) := by
      unfold svFault
      dsimp only
      rw [beq_self_eq_true, if_pos rfl]
      cases rr with
      | true =>
        obtain ⟨rfl, rfl⟩ := ry rfl
        have : isNoneD (valFault true (qsD qs)) = true := by
          show isNoneD (faultD (qsD qs)) = true
          rw [fok_fault fo]
          rfl
        rw [if_pos rfl, if_pos this, qsOf_D]
      | false =>
        rw [rn rfl, if_neg (by decide), if_neg (by decide)]
    have ok : svOk (.ins way b f r) := ⟨sf.shorts, rok⟩
    have ok2 : svOk (.ins (!way) b f r) := ⟨sf.shorts, rok⟩
    have shF := fault_shw (way := way) ok
    have sff : SeqAt.shaped f = true := sf.shaped
    have srr : SeqAt.shaped r = true := sr.shaped
    have wayT : ∀ {σ : L2.St} {B2 : Hp}, σ[4]? = some (some (.int (wayI way))) → Dt (tTest (tOp rEq (tVar 4) (tC (.int 0)))) σ B2 (decide (wayI way = 0)) := fun h => Dt.test (K := K) (De.op (r := rEq) (.var (Dp.int _) h) (De.int (n := 0)) Rv.eqI)
    -- one of both, by which it is
    have both : ∀ {σ : L2.St} {B2 : Hp} {tB tS : TE} {b2 : Bool} {f2 r2 : PyData}, σ[4]? = some (some (.int (wayI way))) → De tB σ B2 (bkR K C_Form C_Book b2 f2 r2) → De tS σ B2 (bkR K C_Form C_Sheets b2 f2 r2) → De (tIf (tTest (tOp rEq (tVar 4) (tC (.int 0)))) tB tS) σ B2 (svR K C_Form C_Book C_Sheets (.ins way b2 f2 r2)) := fun {σ B2 tB tS b2 f2 r2} h4 hb hs => by
      refine De.ite (wayT h4) (fun z => ?_) fun z => ?_
      · have e : way = false := by cases way <;> first | rfl | cases z
        rw [e]
        exact hb
      · have e : way = true := by cases way <;> first | rfl | cases z
        rw [e]
        exact hs
    have bothN : ∀ {σ : L2.St} {B2 : Hp} {tB tS : TE} {b2 : Bool} {f2 r2 : PyData}, σ[4]? = some (some (.int (wayI way))) → De tB σ B2 (bkR K C_Form C_Book b2 f2 r2) → De tS σ B2 (bkR K C_Form C_Sheets b2 f2 r2) → De (tIf (tTest (tOp rEq (tVar 4) (tC (.int 0)))) tS tB) σ B2 (svR K C_Form C_Book C_Sheets (.ins (!way) b2 f2 r2)) := fun {σ B2 tB tS b2 f2 r2} h4 hb hs => by
      refine De.ite (wayT h4) (fun z => ?_) fun z => ?_
      · have e : way = false := by cases way <;> first | rfl | cases z
        rw [e]
        exact hs
      · have e : way = true := by cases way <;> first | rfl | cases z
        rw [e]
        exact hb
    refine s_par (R := svR K C_Form C_Book C_Sheets (.ins way b f r)) (S := dat K (svFault way (.ins way b f r))) (.cons (both rfl (mkSV (.var hf rfl) (.var h9 rfl)) (mkSV (.var hf rfl) (.var h9 rfl))) (.cons ?_ .nil)) eD10.bh fun u11 u12 B11 H11 e11 h11 h12 => ?_
    · rw [← dueE]
      exact De.iteD (b := rr) (Dt.tB (K := K) (.var (Dp.bl rr) rfl)) (fun _ => De.call (args := fun a : Qs × PyData × Bool => [dat K (qsD a.1), dat K a.2.1, dat K (.int (wayI a.2.2))]) (res := fun a => dat K (rowsFault a.2.2 a.1 a.2.1)) (qs, r, way) (.cons (.var h3 rfl) (.cons (.var h9 rfl) (.cons (.var (Dp.int _) rfl) .nil))) ⟨good_fo fo, ⟨44, 5, 5000, by decide, by decide, by decide, sr⟩, fr.2⟩) fun _ => De.op (De.int (n := 0)) (De.int (K := K) (n := 1)) Rv.I0
    have eD11 := eD10.trans L (.of eD10.dl e11)
    have h9 := Mo.mo e11.bb h9
    have hf := Mo.mo e11.bb hf
    change tSeq _ _ _ [some (.ref a), some (.ref d), some (.int (i' : Int)), some u3, some (.int (wayI way)), some u5, some u6, some u9, v8, some xf, some (.bl rr), some u11, some u12, v13, v14, v15, v16] H11
    refine s_set (De.show (.var h9 rfl) sr.shw) e11.bh fun u13 B13 H13 e13 h13 => ?_
    have eD13 := eD11.trans L (.of eD11.dl e13)
    have h9 := Mo.mo e13.bb h9
    have hf := Mo.mo e13.bb hf
    have h11 := Mo.mo e13.bb h11
    have h12 := Mo.mo e13.bb h12
    change tSeq _ _ _ [some (.ref a), some (.ref d), some (.int (i' : Int)), some u3, some (.int (wayI way)), some u5, some u6, some u9, v8, some xf, some (.bl rr), some u11, some u12, some u13, v14, v15, v16] H13
    refine s_skip (Dt.or2 (Dt.eq (Dt.not (Dt.tB (De.right (.var h11 rfl) (.var (Dp.int _) rfl) (.var h12 rfl) ok))) rfl) (Dt.or2 (Dt.eq (Dt.test (De.op (r := rNe) (De.show (svS K_Book K_Sheets (.var h11 rfl)) sr.shw) (.var h13 rfl) Rv.neS)) (by simp)) (Dt.eq (Dt.not (Dt.test (De.eqV (svF K_Book K_Sheets (.var h11 rfl)) (.var hf rfl) sff sff id))) (by rw [eqV_self sf]; rfl)))) e13.bh fun B14 H14 e14 => ?_
    have eD14 := eD13.trans L (.of eD13.dl e14)
    have h9 := Mo.mo e14.bb h9
    have hf := Mo.mo e14.bb hf
    have h11 := Mo.mo e14.bb h11
    have h12 := Mo.mo e14.bb h12
    have self : eqSV way (b, f, r) (.ins way b f r) = true := eqSV_self sf sr
    refine s_set (both rfl (De.makeR (.cons (.var h9 rfl) (.cons (.var hf rfl) .nil))) (De.makeR (.cons (.var h9 rfl) (.cons (.var hf rfl) .nil)))) e14.bh fun u15 B15 H15 e15 h15 => ?_
    have eD15 := eD14.trans L (.of eD14.dl e15)
    have h9 := Mo.mo e15.bb h9
    have hf := Mo.mo e15.bb hf
    have h11 := Mo.mo e15.bb h11
    have h12 := Mo.mo e15.bb h12
    change tSeq _ _ _ [some (.ref a), some (.ref d), some (.int (i' : Int)), some u3, some (.int (wayI way)), some u5, some u6, some u9, v8, some xf, some (.bl rr), some u11, some u12, some u13, some u15, v15, v16] H15
    have cB := K_Book.c
    have cS := K_Sheets.c
    refine s_skip (Dt.or2 (Dt.eq (Dt.not (Dt.test (De.eqBS cB cS t_Book t_Sheets u_n1 u_n2 (.var h15 rfl) (.var h11 rfl) ⟨sff, srr, sff, srr, id⟩))) (by rw [self]; rfl)) (Dt.or2 (Dt.eq (Dt.test (De.eqBS (t := .dat r) cB cS t_Book t_Sheets u_n1 u_n2 (.var h11 rfl) (.var h9 rfl) trivial)) rfl) (Dt.eq (Dt.not (Dt.tB (De.right (.var h15 rfl) (.var (Dp.int _) rfl) (.var h12 rfl) ok))) rfl))) e15.bh fun B16 H16 e16 => ?_
    have eD16 := eD15.trans L (.of eD15.dl e16)
    have h9 := Mo.mo e16.bb h9
    have hf := Mo.mo e16.bb hf
    have h11 := Mo.mo e16.bb h11
    refine s_set (bothN rfl (mkSV (.var hf rfl) (.var h9 rfl)) (mkSV (.var hf rfl) (.var h9 rfl))) e16.bh fun u17 B17 H17 e17 h17 => ?_
    have eD17 := eD16.trans L (.of eD16.dl e17)
    have h9 := Mo.mo e17.bb h9
    have hf := Mo.mo e17.bb hf
    have h11 := Mo.mo e17.bb h11
    change tSeq _ _ _ [some (.ref a), some (.ref d), some (.int (i' : Int)), some u3, some (.int (wayI way)), some u5, some u6, some u9, v8, some xf, some (.bl rr), some u11, some u12, some u13, some u15, some u17, v16] H17
    have nt : eqSV (!way) (b, f, r) (.ins way b f r) = false := by
      show ((way == !way) && _) = false
      cases way <;> rfl
    have due2 : svFault way (.ins (!way) b f r) = .int (-1) := by
      unfold svFault
      dsimp only
      rw [if_neg (by cases way <;> decide)]
    refine s_skip (Dt.or2 (Dt.eq (Dt.test (De.eqBS cB cS t_Book t_Sheets u_n1 u_n2 (.var h17 rfl) (.var h11 rfl) ⟨sff, srr, sff, srr, id⟩)) nt) (Dt.eq (Dt.not (Dt.tB (De.right (.var h17 rfl) (.var (Dp.int _) rfl) (De.eq (De.op (De.int (n := 0)) (De.int (K := K) (n := 1)) Rv.I0) due2.symm) ok2))) rfl)) e17.bh fun B18 H18 e18 => ?_
    have eD18 := eD17.trans L (.of eD17.dl e18)
    have h9 := Mo.mo e18.bb h9
    have hf := Mo.mo e18.bb hf
    have h11 := Mo.mo e18.bb h11
    -- another row
    refine s_set (R := dat K (chg r)) (De.ite (dev_isiT (.var h9 rfl) |> Dt.tB) (fun z => ?_) fun z => ?_) e18.bh fun u19 B19 H19 e19 h19 => ?_
    · have cat : ∀ {ds : List PyData} {te : TE} {σ : L2.St}, De te σ B18 (dat K (.list ds)) → ds.length ≤ 5000 → De (tCB (Wv.rTup K) (tCons (tOp (rCatS K) te (tLst (tCons (tC .non) tNil))) tNil)) σ B18 (dat K (.tuple (ds ++ [.none]))) := fun h l => De.tupleL (De.op (r := rCatS K) h (De.lstD (ds := [.none]) (.cons .non .nil) (by show 1 ≤ sizeLine; omega)) (Rv.catS (by show _ + 1 ≤ _; omega)))
      cases r with
      | list ds =>
        have l5 : ds.length ≤ 5000 := by
          cases sr with
          | @list _ W _ _ hs hl =>
            have : ds.length * 1 ≤ ds.length * (W + 1) := Nat.mul_le_mul_left _ (by omega)
            omega
        exact cat (De.listL (.var h9 rfl)) l5
      | tuple ds => exact cat (De.listT (.var h9 rfl)) sr.count
      | none => cases z
      | bool x => cases z
      | int x => cases z
      | str x => cases z
      | dict x => cases z
    · have ec : chg r = .list [r] := by cases r <;> first | rfl | cases z
      rw [ec]
      exact De.lstD (.cons (.var h9 rfl) .nil) (by show 1 ≤ sizeLine; omega)
    have eD19 := eD18.trans L (.of eD18.dl e19)
    have h9 := Mo.mo e19.bb h9
    have hf := Mo.mo e19.bb hf
    have h11 := Mo.mo e19.bb h11
    have h19 : dat K (chg r) B19 u19 := h19
    have scg : SeqAt.shaped (chg r) = true := (sm_chg sr).shaped
    change tSeq _ _ _ [some (.ref a), some (.ref d), some (.int (i' : Int)), some u3, some (.int (wayI way)), some u5, some u6, some u9, v8, some xf, some (.bl rr), some u11, some u12, some u13, some u15, some u17, some u19] H19
    refine s_skip (Dt.eq (Dt.test (De.eqBS cB cS t_Book t_Sheets u_n1 u_n2 (.var h11 rfl) (both rfl (mkSV (.var hf rfl) (.var h19 rfl)) (mkSV (.var hf rfl) (.var h19 rfl))) ⟨sff, srr, sff, scg, id⟩)) ?_) e19.bh fun B20 H20 e20 => ?_
    · show ((way == way) && (eqV b f b f && PyData.eqv r (chg r))) = false
      rw [eqv_chg, Bool.and_false, Bool.and_false]
    have h9 := Mo.mo e20.bb h9
    have h11 := Mo.mo e20.bb h11
    have seven : ∀ {σ : L2.St} {te : TE} {C : Addr}, De te σ B20 (dat K r) → De (tMake C (spIns C ["form", "shares"]) [] E0 (tCons (tC (.int 7)) (tCons te tNil))) σ B20 (bkR K C_Form C false (.int 7) r) := fun h => mkSV (b := false) (f := .int 7) (.int) h
    refine s_skip' (Dt.eq (Dt.test (De.eqBS cB cS t_Book t_Sheets u_n1 u_n2 (.var h11 rfl) (both rfl (seven (.var h9 rfl)) (seven (.var h9 rfl))) ⟨sff, srr, rfl, srr, fun _ => rfl⟩)) ?_) e20.bh fun B21 H21 e21 => ⟨B21, (eD19.trans L (.of eD19.dl e20)).trans L (.of (eD19.trans L (.of eD19.dl e20)).dl e21), ?_, _, _, _, _, _, _, _, _, _, _, _, _, _, _, _, rfl⟩
    · show ((way == way) && (eqV b f false (.int 7) && PyData.eqv r r)) = false
      have : eqV b f false (.int 7) = false := by
        cases b with
        | true => rfl
        | false => exact n7 rfl
      rw [this, Bool.false_and, Bool.and_false]
    · exact (((((((((((((((sZ.trans s03).trans e5.bb).trans e6.bb).trans e7.bb).trans e8.bb).trans e9.bb).trans e10.bb).trans e11.bb).trans e13.bb).trans e14.bb).trans e15.bb).trans e16.bb).trans e17.bb).trans e18.bb).trans e19.bb).trans (e20.bb.trans e21.bb)
  · rintro σ' B' H' e' _ ⟨v2, v3, v4, v5, v6, v7, v8, v9, v10, v11, v12, v13, v14, v15, v16, rfl⟩
    have half : ∀ {σ : L2.St} {B : Hp} {n : Int} (way : Bool), σ[1]? = some (some (.ref d)) → wayI way = n → Dw (tCall (sp_lright K C_Form C_Book C_Sheets) [] E0 (tCons (tCall (sp_thing K) [] E0 (tCons (tVar 1) tNil)) (tCons (tC (.int n)) (tCons (tOp (rI0 fun i j => V.int (i - j)) (tC (.int 0)) (tC (.int 1))) tNil)))) σ d c B (dat K (.bool true)) := fun {σ B n} way h1 hn => Dw.pf (S := dat K (.bool true)) (Rs := [datP K ThP, dat K (.int n), dat K (.int (-1))]) (.cons (thg h1) (.of (.cons .int (.cons (De.op (De.int (n := 0)) (De.int (K := K) (n := 1)) Rv.I0) .nil)))) fun B vs ⟨x, r, e, ⟨y, hy, hx⟩, hr⟩ => ⟨(.dat y, way), ⟨x, r, e, hx, by
      obtain ⟨z, r2, e2, hz, hr2⟩ := hr
      exact ⟨z, r2, e2, by rw [hn]; exact hz, hr2⟩⟩, trivial, fun _ _ h => h⟩
    refine s_retR (half false rfl rfl B' H' (Same.refl _) e'.dl _ fun v B2 H2 e2 hv => ⟨true, dat_bl hv, half true rfl rfl B2 H2 (Same.refl _) e2.dl _ fun v B3 H3 e3 hv => ?_⟩)
    have hb := dat_bl hv
    subst hb
    exact k H3
end
end K05

set_option Elab.async false
set_option linter.all false
set_option maxRecDepth 100000
set_option maxHeartbeats 4000000
namespace K05
open PySem PySem.Spec PyProof.Rows L2 Wb Wv Fm Wf Fq
theorem ini_InvalidForm {P : Program} {w : World} {K : PySem.W.Frag} {mg : Str → Option Value} {base : Heap} {C fI : Addr} {fd : FuncData} (F : Fun K "__init__" "InvalidForm.__init__" (inClass (topS 3) 0) fI fd) (T : ErrC K C) (no : PySem.W.findIn K (.ref C) "at" = some none) : FnOk P w K mg base CX0 1 fI fd ["self", "at"] (spIni C "at") := by
  refine F.ok (N := ["self", "at"]) ⟨rfl, rfl, rfl, by decide +kernel, rfl, by decide +kernel, by decide +kernel⟩ (fun vs H Q E h => ?_) (fun cdv A outer s H vs Q E hr h => ?_)
  · obtain ⟨a, v, rfl, _⟩ := h
    rfl
  · obtain ⟨a, v, rfl, ha, q⟩ := h
    refine ⟨_, pss_one (ps_ini (pv 0) (pv 1)), ?_⟩
    exact ⟨_, rfl, _, rfl, a, C, rfl, T, no, ha, q⟩
theorem ini_InvalidBook {P : Program} {w : World} {K : PySem.W.Frag} {mg : Str → Option Value} {base : Heap} {C fI : Addr} {fd : FuncData} (F : Fun K "__init__" "InvalidBook.__init__" (inClass (topS 4) 0) fI fd) (T : ErrC K C) (no : PySem.W.findIn K (.ref C) "at" = some none) : FnOk P w K mg base CX0 1 fI fd ["self", "at"] (spIni C "at") := by
  refine F.ok (N := ["self", "at"]) ⟨rfl, rfl, rfl, by decide +kernel, rfl, by decide +kernel, by decide +kernel⟩ (fun vs H Q E h => ?_) (fun cdv A outer s H vs Q E hr h => ?_)
  · obtain ⟨a, v, rfl, _⟩ := h
    rfl
  · obtain ⟨a, v, rfl, ha, q⟩ := h
    refine ⟨_, pss_one (ps_ini (pv 0) (pv 1)), ?_⟩
    exact ⟨_, rfl, _, rfl, a, C, rfl, T, no, ha, q⟩
theorem ini_InvalidSheets {P : Program} {w : World} {K : PySem.W.Frag} {mg : Str → Option Value} {base : Heap} {C fI : Addr} {fd : FuncData} (F : Fun K "__init__" "InvalidSheets.__init__" (inClass (topS 5) 0) fI fd) (T : ErrC K C) (no : PySem.W.findIn K (.ref C) "at" = some none) : FnOk P w K mg base CX0 1 fI fd ["self", "at"] (spIni C "at") := by
  refine F.ok (N := ["self", "at"]) ⟨rfl, rfl, rfl, by decide +kernel, rfl, by decide +kernel, by decide +kernel⟩ (fun vs H Q E h => ?_) (fun cdv A outer s H vs Q E hr h => ?_)
  · obtain ⟨a, v, rfl, _⟩ := h
    rfl
  · obtain ⟨a, v, rfl, ha, q⟩ := h
    refine ⟨_, pss_one (ps_ini (pv 0) (pv 1)), ?_⟩
    exact ⟨_, rfl, _, rfl, a, C, rfl, T, no, ha, q⟩
theorem ini_InvalidSize {P : Program} {w : World} {K : PySem.W.Frag} {mg : Str → Option Value} {base : Heap} {C fI : Addr} {fd : FuncData} (F : Fun K "__init__" "InvalidSize.__init__" (inClass (topS 6) 0) fI fd) (T : ErrC K C) (no : PySem.W.findIn K (.ref C) "word" = some none) : FnOk P w K mg base CX0 1 fI fd ["self", "word"] (spIni C "word") := by
  refine F.ok (N := ["self", "word"]) ⟨rfl, rfl, rfl, by decide +kernel, rfl, by decide +kernel, by decide +kernel⟩ (fun vs H Q E h => ?_) (fun cdv A outer s H vs Q E hr h => ?_)
  · obtain ⟨a, v, rfl, _⟩ := h
    rfl
  · obtain ⟨a, v, rfl, ha, q⟩ := h
    refine ⟨_, pss_one (ps_ini (pv 0) (pv 1)), ?_⟩
    exact ⟨_, rfl, _, rfl, a, C, rfl, T, no, ha, q⟩
theorem inic_Form {P : Program} {w : World} {K : PySem.W.Frag} {mg : Str → Option Value} {base : Heap} {C fI : Addr} {fd : FuncData} (F : Fun K "__init__" "Form.__init__" (inClass (topS 14) 0) fI fd) (c : Cls K C) (na0 : NoAttr K C "questions") : FnOk P w K mg base CX0 1 fI fd ["self", "questions"] (spIns C ["questions"]) := by
  refine F.ok (N := ["self", "questions"]) ⟨rfl, rfl, rfl, by decide +kernel, rfl, by decide +kernel, by decide +kernel⟩ (fun vs H Q E h => ?_) (fun cdv A outer s H vs Q E hr h => ?_)
  · obtain ⟨x, dx, us, rfl, hl, _⟩ := h
    rw [List.length_cons, hl]
    rfl
  · obtain ⟨x, dx, us, rfl, hl, ha, q⟩ := h
    match us, hl with
    | [u0], _ =>
      refine ⟨_, (pss_one (ps_fld (pv 0) (pv 1) (by rfl))), ?_⟩
      refine ⟨_, rfl, _, rfl, x, C, dx, _, rfl, ha, c, na0, by simp [putF], q⟩
theorem inic_Book {P : Program} {w : World} {K : PySem.W.Frag} {mg : Str → Option Value} {base : Heap} {C fI : Addr} {fd : FuncData} (F : Fun K "__init__" "Book.__init__" (inClass (topS 34) 0) fI fd) (c : Cls K C) (na0 : NoAttr K C "form") (na1 : NoAttr K C "shares") : FnOk P w K mg base CX0 1 fI fd ["self", "form", "shares"] (spIns C ["form", "shares"]) := by
  refine F.ok (N := ["self", "form", "shares"]) ⟨rfl, rfl, rfl, by decide +kernel, rfl, by decide +kernel, by decide +kernel⟩ (fun vs H Q E h => ?_) (fun cdv A outer s H vs Q E hr h => ?_)
  · obtain ⟨x, dx, us, rfl, hl, _⟩ := h
    rw [List.length_cons, hl]
    rfl
  · obtain ⟨x, dx, us, rfl, hl, ha, q⟩ := h
    match us, hl with
    | [u0, u1], _ =>
      refine ⟨_, (pss_cons (ps_fld (pv 0) (pv 1) (by rfl)) (pss_one (ps_fld (pv 0) (pv 2) (by rfl)))), ?_⟩
      refine ⟨_, rfl, _, rfl, x, C, dx, _, rfl, ha, c, na0, by simp [putF], ⟨_, rfl, _, rfl, x, C, dx, _, rfl, upd_same, c, na1, by simp [putF], (by show Q V.non (upd (upd H x _) x _); rw [upd_upd]; exact q)⟩⟩
theorem inic_Sheets {P : Program} {w : World} {K : PySem.W.Frag} {mg : Str → Option Value} {base : Heap} {C fI : Addr} {fd : FuncData} (F : Fun K "__init__" "Sheets.__init__" (inClass (topS 41) 0) fI fd) (c : Cls K C) (na0 : NoAttr K C "form") (na1 : NoAttr K C "shares") : FnOk P w K mg base CX0 1 fI fd ["self", "form", "shares"] (spIns C ["form", "shares"]) := by
  refine F.ok (N := ["self", "form", "shares"]) ⟨rfl, rfl, rfl, by decide +kernel, rfl, by decide +kernel, by decide +kernel⟩ (fun vs H Q E h => ?_) (fun cdv A outer s H vs Q E hr h => ?_)
  · obtain ⟨x, dx, us, rfl, hl, _⟩ := h
    rw [List.length_cons, hl]
    rfl
  · obtain ⟨x, dx, us, rfl, hl, ha, q⟩ := h
    match us, hl with
    | [u0, u1], _ =>
      refine ⟨_, (pss_cons (ps_fld (pv 0) (pv 1) (by rfl)) (pss_one (ps_fld (pv 0) (pv 2) (by rfl)))), ?_⟩
      refine ⟨_, rfl, _, rfl, x, C, dx, _, rfl, ha, c, na0, by simp [putF], ⟨_, rfl, _, rfl, x, C, dx, _, rfl, upd_same, c, na1, by simp [putF], (by show Q V.non (upd (upd H x _) x _); rw [upd_upd]; exact q)⟩⟩
end K05
namespace K05
open PySem PySem.Spec PyProof.Rows L2 Wb Wv Fm Wf Fq
set_option maxHeartbeats 4000000 in
theorem all_mk {l : PySem.W.OpenLaw} {w : World} {K : PySem.W.Frag} {h : Heap} {mg : Str → Option Value} {fa C_BlankError C_InvalidForm C_InvalidBook C_InvalidSheets C_InvalidSize f_InvalidForm f_InvalidBook f_InvalidSheets f_InvalidSize C_Form f_Form q_Form C_Book f_Book q_Book C_Sheets f_Sheets q_Sheets g_isInt g_isName g_isTupleOf g_isPartOf g_isMany g_mayFollow g_formFault g_isForm g_namesOf g_areAnswers g_isTruth g_isSheet g_isLot g_fractionFault g_isFraction g_fraction g_compared g_signOf g_totalOf g_isTriple g_sharesFault g_bookFault g_needBook g_isBook g_isSheetShare g_sheetsFault g_needSheets g_isSheets g_source g_any g_of g_lname g_lnames g_lcommon g_llow g_lform g_lrows g_lsubsets g_lshares g_lpicked g_lkeys g_thing g_bent g_near g_lisRow g_lisIn g_lisShare g_lisKey g_wrong g_told g_lright g_spoiltForm g_law a_ZERO a_ONE : Addr} {t_MOST_QUESTIONS : Tok} {od_ZERO : Option Addr} {its_ZERO : Array Value} {n_ZERO : Nat} {sl_ZERO : Array (Option Value)} {od_ONE : Option Addr} {its_ONE : Array Value} {n_ONE : Nat} {sl_ONE : Array (Option Value)}
    (X : K.In h) (G : h.Ns mainGlobals mg) (hfa : mg "law" = some (.ref fa))
    (aC_BlankError : PySem.W.nsIn K mainGlobals "BlankError" = some (some (.ref C_BlankError)))
    (aC_InvalidForm : PySem.W.nsIn K mainGlobals "InvalidForm" = some (some (.ref C_InvalidForm)))
    (aC_InvalidBook : PySem.W.nsIn K mainGlobals "InvalidBook" = some (some (.ref C_InvalidBook)))
    (aC_InvalidSheets : PySem.W.nsIn K mainGlobals "InvalidSheets" = some (some (.ref C_InvalidSheets)))
    (aC_InvalidSize : PySem.W.nsIn K mainGlobals "InvalidSize" = some (some (.ref C_InvalidSize)))
    (hn : PySem.W.specialIn K (.builtin "object.__class__") "__get__" = some (some (.builtin "getset_descriptor.__get__")))
    (ht : PySem.W.takesIn K (.builtin "object.__class__") = some true)
    (e_BlankError : EF K C_BlankError topB "Exception.__new__")
    (e_InvalidForm : EF K C_InvalidForm (topE C_BlankError) "Exception.__new__")
    (a_InvalidForm : PySem.W.findIn K (.ref C_InvalidForm) "__init__" = some (some (.ref f_InvalidForm)))
    (t_InvalidForm : PySem.W.typeIn K (.ref f_InvalidForm) = some (.type "function"))
    (no_InvalidForm : PySem.W.findIn K (.ref C_InvalidForm) "at" = some none)
    (l_InvalidForm : FnF K "__init__" "InvalidForm.__init__" (inClass (topS 3) 0) f_InvalidForm)
    (e_InvalidBook : EF K C_InvalidBook (topE C_BlankError) "Exception.__new__")
    (a_InvalidBook : PySem.W.findIn K (.ref C_InvalidBook) "__init__" = some (some (.ref f_InvalidBook)))
    (t_InvalidBook : PySem.W.typeIn K (.ref f_InvalidBook) = some (.type "function"))
    (no_InvalidBook : PySem.W.findIn K (.ref C_InvalidBook) "at" = some none)
    (l_InvalidBook : FnF K "__init__" "InvalidBook.__init__" (inClass (topS 4) 0) f_InvalidBook)
    (e_InvalidSheets : EF K C_InvalidSheets (topE C_BlankError) "Exception.__new__")
    (a_InvalidSheets : PySem.W.findIn K (.ref C_InvalidSheets) "__init__" = some (some (.ref f_InvalidSheets)))
    (t_InvalidSheets : PySem.W.typeIn K (.ref f_InvalidSheets) = some (.type "function"))
    (no_InvalidSheets : PySem.W.findIn K (.ref C_InvalidSheets) "at" = some none)
    (l_InvalidSheets : FnF K "__init__" "InvalidSheets.__init__" (inClass (topS 5) 0) f_InvalidSheets)
    (e_InvalidSize : EF K C_InvalidSize (topE C_BlankError) "Exception.__new__")
    (a_InvalidSize : PySem.W.findIn K (.ref C_InvalidSize) "__init__" = some (some (.ref f_InvalidSize)))
    (t_InvalidSize : PySem.W.typeIn K (.ref f_InvalidSize) = some (.type "function"))
    (no_InvalidSize : PySem.W.findIn K (.ref C_InvalidSize) "word" = some none)
    (l_InvalidSize : FnF K "__init__" "InvalidSize.__init__" (inClass (topS 6) 0) f_InvalidSize)
    (aC_Form : PySem.W.nsIn K mainGlobals "Form" = some (some (.ref C_Form)))
    (pg_Form : PySem.W.plainGet K C_Form Str.empty = true)
    (hd_Form : PySem.W.hasDictIn K C_Form = true)
    (po_Form : PySem.W.plainOver K C_Form = true)
    (sa_Form : PySem.W.findIn K (.ref C_Form) "__setattr__" = some (some (.builtin "object.__setattr__")))
    (mk_Form : PySem.W.makesIn K C_Form = true)
    (kc_Form : PySem.W.keepIn K (.ref C_Form) = true)
    (a_Form : PySem.W.findIn K (.ref C_Form) "__init__" = some (some (.ref f_Form)))
    (fn_Form : PySem.W.isFn K (.ref f_Form) = true)
    (na0_Form : PySem.W.findIn K (.ref C_Form) "questions" = some none)
    (l_Form : FnF K "__init__" "Form.__init__" (inClass (topS 14) 0) f_Form)
    (eqa_Form : PySem.W.findIn K (.ref C_Form) "__eq__" = some (some (.ref q_Form)))
    (eqf_Form : PySem.W.isFn K (.ref q_Form) = true)
    (nea_Form : PySem.W.findIn K (.ref C_Form) "__ne__" = some (some (.builtin "object.__ne__")))
    (ca_Form : PySem.W.findIn K (.ref C_Form) "__class__" = some (some (.builtin "object.__class__")))
    (lq_Form : FnF K "__eq__" "Form.__eq__" (inClass (topS 14) 1) q_Form)
    (aC_Book : PySem.W.nsIn K mainGlobals "Book" = some (some (.ref C_Book)))
    (pg_Book : PySem.W.plainGet K C_Book Str.empty = true)
    (hd_Book : PySem.W.hasDictIn K C_Book = true)
    (po_Book : PySem.W.plainOver K C_Book = true)
    (sa_Book : PySem.W.findIn K (.ref C_Book) "__setattr__" = some (some (.builtin "object.__setattr__")))
    (mk_Book : PySem.W.makesIn K C_Book = true)
    (kc_Book : PySem.W.keepIn K (.ref C_Book) = true)
    (a_Book : PySem.W.findIn K (.ref C_Book) "__init__" = some (some (.ref f_Book)))
    (fn_Book : PySem.W.isFn K (.ref f_Book) = true)
    (na0_Book : PySem.W.findIn K (.ref C_Book) "form" = some none)
    (na1_Book : PySem.W.findIn K (.ref C_Book) "shares" = some none)
    (l_Book : FnF K "__init__" "Book.__init__" (inClass (topS 34) 0) f_Book)
    (eqa_Book : PySem.W.findIn K (.ref C_Book) "__eq__" = some (some (.ref q_Book)))
    (eqf_Book : PySem.W.isFn K (.ref q_Book) = true)
    (nea_Book : PySem.W.findIn K (.ref C_Book) "__ne__" = some (some (.builtin "object.__ne__")))
    (ca_Book : PySem.W.findIn K (.ref C_Book) "__class__" = some (some (.builtin "object.__class__")))
    (lq_Book : FnF K "__eq__" "Book.__eq__" (inClass (topS 34) 1) q_Book)
    (aC_Sheets : PySem.W.nsIn K mainGlobals "Sheets" = some (some (.ref C_Sheets)))
    (pg_Sheets : PySem.W.plainGet K C_Sheets Str.empty = true)
    (hd_Sheets : PySem.W.hasDictIn K C_Sheets = true)
    (po_Sheets : PySem.W.plainOver K C_Sheets = true)
    (sa_Sheets : PySem.W.findIn K (.ref C_Sheets) "__setattr__" = some (some (.builtin "object.__setattr__")))
    (mk_Sheets : PySem.W.makesIn K C_Sheets = true)
    (kc_Sheets : PySem.W.keepIn K (.ref C_Sheets) = true)
    (a_Sheets : PySem.W.findIn K (.ref C_Sheets) "__init__" = some (some (.ref f_Sheets)))
    (fn_Sheets : PySem.W.isFn K (.ref f_Sheets) = true)
    (na0_Sheets : PySem.W.findIn K (.ref C_Sheets) "form" = some none)
    (na1_Sheets : PySem.W.findIn K (.ref C_Sheets) "shares" = some none)
    (l_Sheets : FnF K "__init__" "Sheets.__init__" (inClass (topS 41) 0) f_Sheets)
    (eqa_Sheets : PySem.W.findIn K (.ref C_Sheets) "__eq__" = some (some (.ref q_Sheets)))
    (eqf_Sheets : PySem.W.isFn K (.ref q_Sheets) = true)
    (nea_Sheets : PySem.W.findIn K (.ref C_Sheets) "__ne__" = some (some (.builtin "object.__ne__")))
    (ca_Sheets : PySem.W.findIn K (.ref C_Sheets) "__class__" = some (some (.builtin "object.__class__")))
    (lq_Sheets : FnF K "__eq__" "Sheets.__eq__" (inClass (topS 41) 1) q_Sheets)
    (z_isInt : PySem.W.nsIn K mainGlobals "is_int" = some (some (.ref g_isInt)))
    (y_isInt : FnF K "is_int" "is_int" s_isInt g_isInt)
    (z_isName : PySem.W.nsIn K mainGlobals "is_name" = some (some (.ref g_isName)))
    (y_isName : FnF K "is_name" "is_name" s_isName g_isName)
    (z_isTupleOf : PySem.W.nsIn K mainGlobals "is_tuple_of" = some (some (.ref g_isTupleOf)))
    (y_isTupleOf : FnF K "is_tuple_of" "is_tuple_of" s_isTupleOf g_isTupleOf)
    (z_isPartOf : PySem.W.nsIn K mainGlobals "is_part_of" = some (some (.ref g_isPartOf)))
    (y_isPartOf : FnF K "is_part_of" "is_part_of" s_isPartOf g_isPartOf)
    (z_isMany : PySem.W.nsIn K mainGlobals "is_many" = some (some (.ref g_isMany)))
    (y_isMany : FnF K "is_many" "is_many" s_isMany g_isMany)
    (z_mayFollow : PySem.W.nsIn K mainGlobals "may_follow" = some (some (.ref g_mayFollow)))
    (y_mayFollow : FnF K "may_follow" "may_follow" s_mayFollow g_mayFollow)
    (z_formFault : PySem.W.nsIn K mainGlobals "form_fault" = some (some (.ref g_formFault)))
    (y_formFault : FnF K "form_fault" "form_fault" s_formFault g_formFault)
    (z_isForm : PySem.W.nsIn K mainGlobals "is_form" = some (some (.ref g_isForm)))
    (y_isForm : FnF K "is_form" "is_form" s_isForm g_isForm)
    (z_namesOf : PySem.W.nsIn K mainGlobals "names_of" = some (some (.ref g_namesOf)))
    (y_namesOf : FnF K "names_of" "names_of" s_namesOf g_namesOf)
    (z_areAnswers : PySem.W.nsIn K mainGlobals "are_answers" = some (some (.ref g_areAnswers)))
    (y_areAnswers : FnF K "are_answers" "are_answers" s_areAnswers g_areAnswers)
    (z_isTruth : PySem.W.nsIn K mainGlobals "is_truth" = some (some (.ref g_isTruth)))
    (y_isTruth : FnF K "is_truth" "is_truth" s_isTruth g_isTruth)
    (z_isSheet : PySem.W.nsIn K mainGlobals "is_sheet" = some (some (.ref g_isSheet)))
    (y_isSheet : FnF K "is_sheet" "is_sheet" s_isSheet g_isSheet)
    (z_isLot : PySem.W.nsIn K mainGlobals "is_lot" = some (some (.ref g_isLot)))
    (y_isLot : FnF K "is_lot" "is_lot" s_isLot g_isLot)
    (z_fractionFault : PySem.W.nsIn K mainGlobals "fraction_fault" = some (some (.ref g_fractionFault)))
    (y_fractionFault : FnF K "fraction_fault" "fraction_fault" s_fractionFault g_fractionFault)
    (z_isFraction : PySem.W.nsIn K mainGlobals "is_fraction" = some (some (.ref g_isFraction)))
    (y_isFraction : FnF K "is_fraction" "is_fraction" s_isFraction g_isFraction)
    (z_fraction : PySem.W.nsIn K mainGlobals "fraction" = some (some (.ref g_fraction)))
    (y_fraction : FnF K "fraction" "fraction" s_fraction g_fraction)
    (z_compared : PySem.W.nsIn K mainGlobals "compared" = some (some (.ref g_compared)))
    (y_compared : FnF K "compared" "compared" s_compared g_compared)
    (z_signOf : PySem.W.nsIn K mainGlobals "sign_of" = some (some (.ref g_signOf)))
    (y_signOf : FnF K "sign_of" "sign_of" s_signOf g_signOf)
    (z_totalOf : PySem.W.nsIn K mainGlobals "total_of" = some (some (.ref g_totalOf)))
    (y_totalOf : FnF K "total_of" "total_of" s_totalOf g_totalOf)
    (z_isTriple : PySem.W.nsIn K mainGlobals "is_triple" = some (some (.ref g_isTriple)))
    (y_isTriple : FnF K "is_triple" "is_triple" s_isTriple g_isTriple)
    (z_sharesFault : PySem.W.nsIn K mainGlobals "shares_fault" = some (some (.ref g_sharesFault)))
    (y_sharesFault : FnF K "shares_fault" "shares_fault" s_sharesFault g_sharesFault)
    (z_bookFault : PySem.W.nsIn K mainGlobals "book_fault" = some (some (.ref g_bookFault)))
    (y_bookFault : FnF K "book_fault" "book_fault" s_bookFault g_bookFault)
    (z_needBook : PySem.W.nsIn K mainGlobals "need_book" = some (some (.ref g_needBook)))
    (y_needBook : FnF K "need_book" "need_book" s_needBook g_needBook)
    (z_isBook : PySem.W.nsIn K mainGlobals "is_book" = some (some (.ref g_isBook)))
    (y_isBook : FnF K "is_book" "is_book" s_isBook g_isBook)
    (z_isSheetShare : PySem.W.nsIn K mainGlobals "is_sheet_share" = some (some (.ref g_isSheetShare)))
    (y_isSheetShare : FnF K "is_sheet_share" "is_sheet_share" s_isSheetShare g_isSheetShare)
    (z_sheetsFault : PySem.W.nsIn K mainGlobals "sheets_fault" = some (some (.ref g_sheetsFault)))
    (y_sheetsFault : FnF K "sheets_fault" "sheets_fault" s_sheetsFault g_sheetsFault)
    (z_needSheets : PySem.W.nsIn K mainGlobals "need_sheets" = some (some (.ref g_needSheets)))
    (y_needSheets : FnF K "need_sheets" "need_sheets" s_needSheets g_needSheets)
    (z_isSheets : PySem.W.nsIn K mainGlobals "is_sheets" = some (some (.ref g_isSheets)))
    (y_isSheets : FnF K "is_sheets" "is_sheets" s_isSheets g_isSheets)
    (z_source : PySem.W.nsIn K mainGlobals "_law_source" = some (some (.ref g_source)))
    (y_source : FnF K "_law_source" "_law_source" s_source g_source)
    (z_any : PySem.W.nsIn K mainGlobals "_law_any" = some (some (.ref g_any)))
    (y_any : FnF K "_law_any" "_law_any" s_any g_any)
    (z_of : PySem.W.nsIn K mainGlobals "_law_of" = some (some (.ref g_of)))
    (y_of : FnF K "_law_of" "_law_of" s_of g_of)
    (z_lname : PySem.W.nsIn K mainGlobals "_law_name" = some (some (.ref g_lname)))
    (y_lname : FnF K "_law_name" "_law_name" s_lname g_lname)
    (z_lnames : PySem.W.nsIn K mainGlobals "_law_names" = some (some (.ref g_lnames)))
    (y_lnames : FnF K "_law_names" "_law_names" s_lnames g_lnames)
    (z_lcommon : PySem.W.nsIn K mainGlobals "_law_common" = some (some (.ref g_lcommon)))
    (y_lcommon : FnF K "_law_common" "_law_common" s_lcommon g_lcommon)
    (z_llow : PySem.W.nsIn K mainGlobals "_law_low" = some (some (.ref g_llow)))
    (y_llow : FnF K "_law_low" "_law_low" s_llow g_llow)
    (z_lform : PySem.W.nsIn K mainGlobals "_law_form" = some (some (.ref g_lform)))
    (y_lform : FnF K "_law_form" "_law_form" s_lform g_lform)
    (z_lrows : PySem.W.nsIn K mainGlobals "_law_rows" = some (some (.ref g_lrows)))
    (y_lrows : FnF K "_law_rows" "_law_rows" s_lrows g_lrows)
    (z_lsubsets : PySem.W.nsIn K mainGlobals "_law_subsets" = some (some (.ref g_lsubsets)))
    (y_lsubsets : FnF K "_law_subsets" "_law_subsets" s_lsubsets g_lsubsets)
    (z_lshares : PySem.W.nsIn K mainGlobals "_law_shares" = some (some (.ref g_lshares)))
    (y_lshares : FnF K "_law_shares" "_law_shares" s_lshares g_lshares)
    (z_lpicked : PySem.W.nsIn K mainGlobals "_law_picked" = some (some (.ref g_lpicked)))
    (y_lpicked : FnF K "_law_picked" "_law_picked" s_lpicked g_lpicked)
    (z_lkeys : PySem.W.nsIn K mainGlobals "_law_keys" = some (some (.ref g_lkeys)))
    (y_lkeys : FnF K "_law_keys" "_law_keys" s_lkeys g_lkeys)
    (z_thing : PySem.W.nsIn K mainGlobals "_law_thing" = some (some (.ref g_thing)))
    (y_thing : FnF K "_law_thing" "_law_thing" s_thing g_thing)
    (z_bent : PySem.W.nsIn K mainGlobals "_law_bent" = some (some (.ref g_bent)))
    (y_bent : FnF K "_law_bent" "_law_bent" s_bent g_bent)
    (z_near : PySem.W.nsIn K mainGlobals "_law_near" = some (some (.ref g_near)))
    (y_near : FnF K "_law_near" "_law_near" s_near g_near)
    (z_lisRow : PySem.W.nsIn K mainGlobals "_law_is_row" = some (some (.ref g_lisRow)))
    (y_lisRow : FnF K "_law_is_row" "_law_is_row" s_lisRow g_lisRow)
    (z_lisIn : PySem.W.nsIn K mainGlobals "_law_is_in" = some (some (.ref g_lisIn)))
    (y_lisIn : FnF K "_law_is_in" "_law_is_in" s_lisIn g_lisIn)
    (z_lisShare : PySem.W.nsIn K mainGlobals "_law_is_share" = some (some (.ref g_lisShare)))
    (y_lisShare : FnF K "_law_is_share" "_law_is_share" s_lisShare g_lisShare)
    (z_lisKey : PySem.W.nsIn K mainGlobals "_law_is_key" = some (some (.ref g_lisKey)))
    (y_lisKey : FnF K "_law_is_key" "_law_is_key" s_lisKey g_lisKey)
    (z_wrong : PySem.W.nsIn K mainGlobals "_law_wrong" = some (some (.ref g_wrong)))
    (y_wrong : FnF K "_law_wrong" "_law_wrong" s_wrong g_wrong)
    (z_told : PySem.W.nsIn K mainGlobals "_law_told" = some (some (.ref g_told)))
    (y_told : FnF K "_law_told" "_law_told" s_told g_told)
    (z_lright : PySem.W.nsIn K mainGlobals "_law_value_right" = some (some (.ref g_lright)))
    (y_lright : FnF K "_law_value_right" "_law_value_right" s_lright g_lright)
    (z_spoiltForm : PySem.W.nsIn K mainGlobals "_law_spoilt_form" = some (some (.ref g_spoiltForm)))
    (y_spoiltForm : FnF K "_law_spoilt_form" "_law_spoilt_form" s_spoiltForm g_spoiltForm)
    (z_law : PySem.W.nsIn K mainGlobals "law" = some (some (.ref g_law)))
    (y_law : FnF K "law" "law" s_law g_law)
    (o_int : PySem.W.nsIn K mainGlobals "int" = some none)
    (o_isinstance : PySem.W.nsIn K mainGlobals "isinstance" = some none)
    (o_bool : PySem.W.nsIn K mainGlobals "bool" = some none)
    (o_str : PySem.W.nsIn K mainGlobals "str" = some none)
    (o_len : PySem.W.nsIn K mainGlobals "len" = some none)
    (o_tuple : PySem.W.nsIn K mainGlobals "tuple" = some none)
    (o_list : PySem.W.nsIn K mainGlobals "list" = some none)
    (o_enumerate : PySem.W.nsIn K mainGlobals "enumerate" = some none)
    (o_zip : PySem.W.nsIn K mainGlobals "zip" = some none)
    (o_sum : PySem.W.nsIn K mainGlobals "sum" = some none)
    (o_range : PySem.W.nsIn K mainGlobals "range" = some none)
    (o_sorted : PySem.W.nsIn K mainGlobals "sorted" = some none)
    (o_abs : PySem.W.nsIn K mainGlobals "abs" = some none)
    (o_repr : PySem.W.nsIn K mainGlobals "repr" = some none)
    (z_MOST_QUESTIONS : PySem.W.nsIn K mainGlobals "MOST_QUESTIONS" = some (some (.int 8 t_MOST_QUESTIONS)))
    (z_gcd : PySem.W.nsIn K mainGlobals "gcd" = some (some (.builtin "math.gcd")))
    (z_ZERO : PySem.W.nsIn K mainGlobals "ZERO" = some (some (.ref a_ZERO)))
    (z_lcm : PySem.W.nsIn K mainGlobals "lcm" = some (some (.builtin "math.lcm")))
    (z_ONE : PySem.W.nsIn K mainGlobals "ONE" = some (some (.ref a_ONE)))
    (w_ZERO : K.lookup a_ZERO = some ⟨.type "tuple", od_ZERO, .seq its_ZERO n_ZERO, sl_ZERO⟩)
    (rv_ZERO : Vals [.int 0, .int 1] its_ZERO.toList)
    (qz_ZERO : its_ZERO.size ≤ sizeLine)
    (w_ONE : K.lookup a_ONE = some ⟨.type "tuple", od_ONE, .seq its_ONE n_ONE, sl_ONE⟩)
    (rv_ONE : Vals [.int 1, .int 1] its_ONE.toList)
    (qz_ONE : its_ONE.size ≤ sizeLine)
    (ne1 : C_InvalidSheets ≠ C_InvalidBook)
    (ne2 : C_InvalidBook ≠ C_InvalidForm)
    (ne3 : C_InvalidSheets ≠ C_InvalidForm)
    (ne4 : C_InvalidBook ≠ C_BlankError)
    (ne5 : C_InvalidForm ≠ C_BlankError)
    (ku0 : PySem.W.kitOne K (.type "NoneType") (.ref C_Form) = some false)
    (ku1 : PySem.W.kitOne K (.type "bool") (.ref C_Form) = some false)
    (ku2 : PySem.W.kitOne K (.type "int") (.ref C_Form) = some false)
    (ku3 : PySem.W.kitOne K (.type "str") (.ref C_Form) = some false)
    (ku4 : PySem.W.kitOne K (.type "list") (.ref C_Form) = some false)
    (ku5 : PySem.W.kitOne K (.type "tuple") (.ref C_Form) = some false)
    (ku6 : PySem.W.kitOne K (.type "dict") (.ref C_Form) = some false)
    (kx0 : PySem.W.kitOne K (.type "NoneType") (.ref C_Book) = some false)
    (kx1 : PySem.W.kitOne K (.type "bool") (.ref C_Book) = some false)
    (kx2 : PySem.W.kitOne K (.type "int") (.ref C_Book) = some false)
    (kx3 : PySem.W.kitOne K (.type "str") (.ref C_Book) = some false)
    (kx4 : PySem.W.kitOne K (.type "list") (.ref C_Book) = some false)
    (kx5 : PySem.W.kitOne K (.type "tuple") (.ref C_Book) = some false)
    (kx6 : PySem.W.kitOne K (.type "dict") (.ref C_Book) = some false)
    (ky0 : PySem.W.kitOne K (.type "NoneType") (.ref C_Sheets) = some false)
    (ky1 : PySem.W.kitOne K (.type "bool") (.ref C_Sheets) = some false)
    (ky2 : PySem.W.kitOne K (.type "int") (.ref C_Sheets) = some false)
    (ky3 : PySem.W.kitOne K (.type "str") (.ref C_Sheets) = some false)
    (ky4 : PySem.W.kitOne K (.type "list") (.ref C_Sheets) = some false)
    (ky5 : PySem.W.kitOne K (.type "tuple") (.ref C_Sheets) = some false)
    (ky6 : PySem.W.kitOne K (.type "dict") (.ref C_Sheets) = some false)
    (kSB : PySem.W.kitOne K (.ref C_Sheets) (.ref C_Book) = some false)
    (kBS : PySem.W.kitOne K (.ref C_Book) (.ref C_Sheets) = some false)
    (sSB : PySem.W.subIn K (.ref C_Sheets) (.ref C_Book) = some false)
    (sBS : PySem.W.subIn K (.ref C_Book) (.ref C_Sheets) = some false)
    : ∀ base : Heap, K.In base → base.Ns mainGlobals mg → ∃ fd : FuncData, (∀ (s : Shared) (v : Value), BindsTo s fd ⟨[v], []⟩ [("script", v)]) ∧ FnG l.prog w K mg base CX0 10 fa fd ["script"] (Wb.spLaw K) := by
  have T_BlankError : ErrC K C_BlankError := e_BlankError.err PySem.F.excBase_Exception PySem.F.store_Exception ⟨by decide, by decide, by decide⟩ rfl hn ht
  have T_InvalidForm : ErrC K C_InvalidForm := e_InvalidForm.err PySem.F.excBase_Exception PySem.F.store_Exception ⟨rfl, rfl, rfl⟩ rfl hn ht
  obtain ⟨_, _, _, _, _, _, F_InvalidForm⟩ := l_InvalidForm.fn
  have b_InvalidForm := F_InvalidForm.binds (ps := ["self", "at"]) fun _ _ _ _ _ _ us hl => match us, hl with | [_, _], _ => rfl
  have T_InvalidBook : ErrC K C_InvalidBook := e_InvalidBook.err PySem.F.excBase_Exception PySem.F.store_Exception ⟨rfl, rfl, rfl⟩ rfl hn ht
  obtain ⟨_, _, _, _, _, _, F_InvalidBook⟩ := l_InvalidBook.fn
  have b_InvalidBook := F_InvalidBook.binds (ps := ["self", "at"]) fun _ _ _ _ _ _ us hl => match us, hl with | [_, _], _ => rfl
  have T_InvalidSheets : ErrC K C_InvalidSheets := e_InvalidSheets.err PySem.F.excBase_Exception PySem.F.store_Exception ⟨rfl, rfl, rfl⟩ rfl hn ht
  obtain ⟨_, _, _, _, _, _, F_InvalidSheets⟩ := l_InvalidSheets.fn
  have b_InvalidSheets := F_InvalidSheets.binds (ps := ["self", "at"]) fun _ _ _ _ _ _ us hl => match us, hl with | [_, _], _ => rfl
  have T_InvalidSize : ErrC K C_InvalidSize := e_InvalidSize.err PySem.F.excBase_Exception PySem.F.store_Exception ⟨rfl, rfl, rfl⟩ rfl hn ht
  obtain ⟨_, _, _, _, _, _, F_InvalidSize⟩ := l_InvalidSize.fn
  have b_InvalidSize := F_InvalidSize.binds (ps := ["self", "word"]) fun _ _ _ _ _ _ us hl => match us, hl with | [_, _], _ => rfl
  obtain ⟨_, _, _, _, _, _, F_Form⟩ := l_Form.fn
  have b_Form := F_Form.binds (ps := ["self", "questions"]) fun _ _ _ _ _ _ us hl => match us, hl with | [_, _], _ => rfl
  have cls_Form : Cls K C_Form := ⟨pg_Form, hd_Form, po_Form, sa_Form⟩
  obtain ⟨_, _, _, _, _, _, Q_Form⟩ := lq_Form.fn
  have bq_Form := Q_Form.binds (ps := ["self", "other"]) fun _ _ _ _ _ _ us hl => match us, hl with | [_, _], _ => rfl
  obtain ⟨_, _, _, _, _, _, F_Book⟩ := l_Book.fn
  have b_Book := F_Book.binds (ps := ["self", "form", "shares"]) fun _ _ _ _ _ _ us hl => match us, hl with | [_, _, _], _ => rfl
  have cls_Book : Cls K C_Book := ⟨pg_Book, hd_Book, po_Book, sa_Book⟩
  obtain ⟨_, _, _, _, _, _, Q_Book⟩ := lq_Book.fn
  have bq_Book := Q_Book.binds (ps := ["self", "other"]) fun _ _ _ _ _ _ us hl => match us, hl with | [_, _], _ => rfl
  obtain ⟨_, _, _, _, _, _, F_Sheets⟩ := l_Sheets.fn
  have b_Sheets := F_Sheets.binds (ps := ["self", "form", "shares"]) fun _ _ _ _ _ _ us hl => match us, hl with | [_, _, _], _ => rfl
  have cls_Sheets : Cls K C_Sheets := ⟨pg_Sheets, hd_Sheets, po_Sheets, sa_Sheets⟩
  obtain ⟨_, _, _, _, _, _, Q_Sheets⟩ := lq_Sheets.fn
  have bq_Sheets := Q_Sheets.binds (ps := ["self", "other"]) fun _ _ _ _ _ _ us hl => match us, hl with | [_, _], _ => rfl
  have D_isInt : Def K mg "is_int" s_isInt ["value"] := FnF.def_ X G z_isInt y_isInt (fun _ _ _ _ _ _ us hl => match us, hl with | [_], _ => rfl)
  have D_isName : Def K mg "is_name" s_isName ["value"] := FnF.def_ X G z_isName y_isName (fun _ _ _ _ _ _ us hl => match us, hl with | [_], _ => rfl)
  have D_isTupleOf : Def K mg "is_tuple_of" s_isTupleOf ["value", "many"] := FnF.def_ X G z_isTupleOf y_isTupleOf (fun _ _ _ _ _ _ us hl => match us, hl with | [_, _], _ => rfl)
  have D_isPartOf : Def K mg "is_part_of" s_isPartOf ["value", "things"] := FnF.def_ X G z_isPartOf y_isPartOf (fun _ _ _ _ _ _ us hl => match us, hl with | [_, _], _ => rfl)
  have D_isMany : Def K mg "is_many" s_isMany ["value"] := FnF.def_ X G z_isMany y_isMany (fun _ _ _ _ _ _ us hl => match us, hl with | [_], _ => rfl)
  have D_mayFollow : Def K mg "may_follow" s_mayFollow ["ahead", "value"] := FnF.def_ X G z_mayFollow y_mayFollow (fun _ _ _ _ _ _ us hl => match us, hl with | [_, _], _ => rfl)
  have D_formFault : Def K mg "form_fault" s_formFault ["value"] := FnF.def_ X G z_formFault y_formFault (fun _ _ _ _ _ _ us hl => match us, hl with | [_], _ => rfl)
  have D_isForm : Def K mg "is_form" s_isForm ["value"] := FnF.def_ X G z_isForm y_isForm (fun _ _ _ _ _ _ us hl => match us, hl with | [_], _ => rfl)
  have D_namesOf : Def K mg "names_of" s_namesOf ["form"] := FnF.def_ X G z_namesOf y_namesOf (fun _ _ _ _ _ _ us hl => match us, hl with | [_], _ => rfl)
  have D_areAnswers : Def K mg "are_answers" s_areAnswers ["form", "value", "least"] := FnF.def_ X G z_areAnswers y_areAnswers (fun _ _ _ _ _ _ us hl => match us, hl with | [_, _, _], _ => rfl)
  have D_isTruth : Def K mg "is_truth" s_isTruth ["form", "value"] := FnF.def_ X G z_isTruth y_isTruth (fun _ _ _ _ _ _ us hl => match us, hl with | [_, _], _ => rfl)
  have D_isSheet : Def K mg "is_sheet" s_isSheet ["form", "value"] := FnF.def_ X G z_isSheet y_isSheet (fun _ _ _ _ _ _ us hl => match us, hl with | [_, _], _ => rfl)
  have D_isLot : Def K mg "is_lot" s_isLot ["form", "value"] := FnF.def_ X G z_isLot y_isLot (fun _ _ _ _ _ _ us hl => match us, hl with | [_, _], _ => rfl)
  have D_fractionFault : Def K mg "fraction_fault" s_fractionFault ["value"] := FnF.def_ X G z_fractionFault y_fractionFault (fun _ _ _ _ _ _ us hl => match us, hl with | [_], _ => rfl)
  have D_isFraction : Def K mg "is_fraction" s_isFraction ["value"] := FnF.def_ X G z_isFraction y_isFraction (fun _ _ _ _ _ _ us hl => match us, hl with | [_], _ => rfl)
  have D_fraction : Def K mg "fraction" s_fraction ["top", "bottom"] := FnF.def_ X G z_fraction y_fraction (fun _ _ _ _ _ _ us hl => match us, hl with | [_, _], _ => rfl)
  have D_compared : Def K mg "compared" s_compared ["one", "other"] := FnF.def_ X G z_compared y_compared (fun _ _ _ _ _ _ us hl => match us, hl with | [_, _], _ => rfl)
  have D_signOf : Def K mg "sign_of" s_signOf ["one"] := FnF.def_ X G z_signOf y_signOf (fun _ _ _ _ _ _ us hl => match us, hl with | [_], _ => rfl)
  have D_totalOf : Def K mg "total_of" s_totalOf ["some"] := FnF.def_ X G z_totalOf y_totalOf (fun _ _ _ _ _ _ us hl => match us, hl with | [_], _ => rfl)
  have D_isTriple : Def K mg "is_triple" s_isTriple ["form", "value"] := FnF.def_ X G z_isTriple y_isTriple (fun _ _ _ _ _ _ us hl => match us, hl with | [_, _], _ => rfl)
  have D_sharesFault : Def K mg "shares_fault" s_sharesFault ["rows", "right"] := FnF.def_ X G z_sharesFault y_sharesFault (fun _ _ _ _ _ _ us hl => match us, hl with | [_, _], _ => rfl)
  have D_bookFault : Def K mg "book_fault" s_bookFault ["value"] := FnF.def_ X G z_bookFault y_bookFault (fun _ _ _ _ _ _ us hl => match us, hl with | [_], _ => rfl)
  have D_needBook : Def K mg "need_book" s_needBook ["value"] := FnF.def_ X G z_needBook y_needBook (fun _ _ _ _ _ _ us hl => match us, hl with | [_], _ => rfl)
  have D_isBook : Def K mg "is_book" s_isBook ["value"] := FnF.def_ X G z_isBook y_isBook (fun _ _ _ _ _ _ us hl => match us, hl with | [_], _ => rfl)
  have D_isSheetShare : Def K mg "is_sheet_share" s_isSheetShare ["form", "value"] := FnF.def_ X G z_isSheetShare y_isSheetShare (fun _ _ _ _ _ _ us hl => match us, hl with | [_, _], _ => rfl)
  have D_sheetsFault : Def K mg "sheets_fault" s_sheetsFault ["value"] := FnF.def_ X G z_sheetsFault y_sheetsFault (fun _ _ _ _ _ _ us hl => match us, hl with | [_], _ => rfl)
  have D_needSheets : Def K mg "need_sheets" s_needSheets ["value"] := FnF.def_ X G z_needSheets y_needSheets (fun _ _ _ _ _ _ us hl => match us, hl with | [_], _ => rfl)
  have D_isSheets : Def K mg "is_sheets" s_isSheets ["value"] := FnF.def_ X G z_isSheets y_isSheets (fun _ _ _ _ _ _ us hl => match us, hl with | [_], _ => rfl)
  have D_source : Def K mg "_law_source" s_source ["script"] := FnF.def_ X G z_source y_source (fun _ _ _ _ _ _ us hl => match us, hl with | [_], _ => rfl)
  have D_any : Def K mg "_law_any" s_any ["deal", "bound"] := FnF.def_ X G z_any y_any (fun _ _ _ _ _ _ us hl => match us, hl with | [_, _], _ => rfl)
  have D_of : Def K mg "_law_of" s_of ["deal", "some"] := FnF.def_ X G z_of y_of (fun _ _ _ _ _ _ us hl => match us, hl with | [_, _], _ => rfl)
  have D_lname : Def K mg "_law_name" s_lname ["deal"] := FnF.def_ X G z_lname y_lname (fun _ _ _ _ _ _ us hl => match us, hl with | [_], _ => rfl)
  have D_lnames : Def K mg "_law_names" s_lnames ["deal", "many"] := FnF.def_ X G z_lnames y_lnames (fun _ _ _ _ _ _ us hl => match us, hl with | [_, _], _ => rfl)
  have D_lcommon : Def K mg "_law_common" s_lcommon ["one", "other"] := FnF.def_ X G z_lcommon y_lcommon (fun _ _ _ _ _ _ us hl => match us, hl with | [_, _], _ => rfl)
  have D_llow : Def K mg "_law_low" s_llow ["top", "bottom"] := FnF.def_ X G z_llow y_llow (fun _ _ _ _ _ _ us hl => match us, hl with | [_, _], _ => rfl)
  have D_lform : Def K mg "_law_form" s_lform ["deal", "most"] := FnF.def_ X G z_lform y_lform (fun _ _ _ _ _ _ us hl => match us, hl with | [_, _], _ => rfl)
  have D_lrows : Def K mg "_law_rows" s_lrows ["questions", "least"] := FnF.def_ X G z_lrows y_lrows (fun _ _ _ _ _ _ us hl => match us, hl with | [_, _], _ => rfl)
  have D_lsubsets : Def K mg "_law_subsets" s_lsubsets ["names"] := FnF.def_ X G z_lsubsets y_lsubsets (fun _ _ _ _ _ _ us hl => match us, hl with | [_], _ => rfl)
  have D_lshares : Def K mg "_law_shares" s_lshares ["deal", "keys"] := FnF.def_ X G z_lshares y_lshares (fun _ _ _ _ _ _ us hl => match us, hl with | [_, _], _ => rfl)
  have D_lpicked : Def K mg "_law_picked" s_lpicked ["deal", "keys"] := FnF.def_ X G z_lpicked y_lpicked (fun _ _ _ _ _ _ us hl => match us, hl with | [_, _], _ => rfl)
  have D_lkeys : Def K mg "_law_keys" s_lkeys ["questions", "way"] := FnF.def_ X G z_lkeys y_lkeys (fun _ _ _ _ _ _ us hl => match us, hl with | [_, _], _ => rfl)
  have D_thing : Def K mg "_law_thing" s_thing ["deal"] := FnF.def_ X G z_thing y_thing (fun _ _ _ _ _ _ us hl => match us, hl with | [_], _ => rfl)
  have D_bent : Def K mg "_law_bent" s_bent ["deal", "rows"] := FnF.def_ X G z_bent y_bent (fun _ _ _ _ _ _ us hl => match us, hl with | [_, _], _ => rfl)
  have D_near : Def K mg "_law_near" s_near ["deal", "thing"] := FnF.def_ X G z_near y_near (fun _ _ _ _ _ _ us hl => match us, hl with | [_, _], _ => rfl)
  have D_lisRow : Def K mg "_law_is_row" s_lisRow ["questions", "row", "least"] := FnF.def_ X G z_lisRow y_lisRow (fun _ _ _ _ _ _ us hl => match us, hl with | [_, _, _], _ => rfl)
  have D_lisIn : Def K mg "_law_is_in" s_lisIn ["value", "least", "most"] := FnF.def_ X G z_lisIn y_lisIn (fun _ _ _ _ _ _ us hl => match us, hl with | [_, _, _], _ => rfl)
  have D_lisShare : Def K mg "_law_is_share" s_lisShare ["value"] := FnF.def_ X G z_lisShare y_lisShare (fun _ _ _ _ _ _ us hl => match us, hl with | [_], _ => rfl)
  have D_lisKey : Def K mg "_law_is_key" s_lisKey ["questions", "key", "way"] := FnF.def_ X G z_lisKey y_lisKey (fun _ _ _ _ _ _ us hl => match us, hl with | [_, _, _], _ => rfl)
  have D_wrong : Def K mg "_law_wrong" s_wrong ["questions", "rows", "way"] := FnF.def_ X G z_wrong y_wrong (fun _ _ _ _ _ _ us hl => match us, hl with | [_, _, _], _ => rfl)
  have D_told : Def K mg "_law_told" s_told ["value", "way"] := FnF.def_ X G z_told y_told (fun _ _ _ _ _ _ us hl => match us, hl with | [_, _], _ => rfl)
  have D_lright : Def K mg "_law_value_right" s_lright ["value", "way", "due"] := FnF.def_ X G z_lright y_lright (fun _ _ _ _ _ _ us hl => match us, hl with | [_, _, _], _ => rfl)
  have D_spoiltForm : Def K mg "_law_spoilt_form" s_spoiltForm ["deal", "form"] := FnF.def_ X G z_spoiltForm y_spoiltForm (fun _ _ _ _ _ _ us hl => match us, hl with | [_, _], _ => rfl)
  have D_law : Def K mg "law" s_law ["script"] := FnF.def_ X G z_law y_law (fun _ _ _ _ _ _ us hl => match us, hl with | [_], _ => rfl)
  have n_int := PySem.W.mg_none_of X G o_int
  have n_isinstance := PySem.W.mg_none_of X G o_isinstance
  have n_bool := PySem.W.mg_none_of X G o_bool
  have n_str := PySem.W.mg_none_of X G o_str
  have n_len := PySem.W.mg_none_of X G o_len
  have n_tuple := PySem.W.mg_none_of X G o_tuple
  have n_list := PySem.W.mg_none_of X G o_list
  have n_enumerate := PySem.W.mg_none_of X G o_enumerate
  have n_zip := PySem.W.mg_none_of X G o_zip
  have n_sum := PySem.W.mg_none_of X G o_sum
  have n_range := PySem.W.mg_none_of X G o_range
  have n_sorted := PySem.W.mg_none_of X G o_sorted
  have n_abs := PySem.W.mg_none_of X G o_abs
  have n_repr := PySem.W.mg_none_of X G o_repr
  have m_MOST_QUESTIONS := PySem.W.mg_of X G z_MOST_QUESTIONS
  have m_gcd := PySem.W.mg_of X G z_gcd
  have m_ZERO := PySem.W.mg_of X G z_ZERO
  have m_lcm := PySem.W.mg_of X G z_lcm
  have m_ONE := PySem.W.mg_of X G z_ONE
  have c_ZERO : ∀ H, SqT K H a_ZERO [.int 0, .int 1] := tup_of w_ZERO qz_ZERO rv_ZERO
  have c_ONE : ∀ H, SqT K H a_ONE [.int 1, .int 1] := tup_of w_ONE qz_ONE rv_ONE
  intro base _ _
  have Z_BlankError : ErrB K mg "BlankError" C_BlankError topB := ⟨T_BlankError, PySem.W.mg_of X G aC_BlankError, e_BlankError.chain⟩
  have Z_InvalidForm : Err l.prog w K mg base "InvalidForm" "at" C_InvalidForm (topE C_BlankError) := ⟨T_InvalidForm, PySem.W.mg_of X G aC_InvalidForm, e_InvalidForm.chain, no_InvalidForm, f_InvalidForm, _, a_InvalidForm, t_InvalidForm, ini_InvalidForm F_InvalidForm T_InvalidForm no_InvalidForm, b_InvalidForm⟩
  have Z_InvalidBook : Err l.prog w K mg base "InvalidBook" "at" C_InvalidBook (topE C_BlankError) := ⟨T_InvalidBook, PySem.W.mg_of X G aC_InvalidBook, e_InvalidBook.chain, no_InvalidBook, f_InvalidBook, _, a_InvalidBook, t_InvalidBook, ini_InvalidBook F_InvalidBook T_InvalidBook no_InvalidBook, b_InvalidBook⟩
  have Z_InvalidSheets : Err l.prog w K mg base "InvalidSheets" "at" C_InvalidSheets (topE C_BlankError) := ⟨T_InvalidSheets, PySem.W.mg_of X G aC_InvalidSheets, e_InvalidSheets.chain, no_InvalidSheets, f_InvalidSheets, _, a_InvalidSheets, t_InvalidSheets, ini_InvalidSheets F_InvalidSheets T_InvalidSheets no_InvalidSheets, b_InvalidSheets⟩
  have Z_InvalidSize : Err l.prog w K mg base "InvalidSize" "word" C_InvalidSize (topE C_BlankError) := ⟨T_InvalidSize, PySem.W.mg_of X G aC_InvalidSize, e_InvalidSize.chain, no_InvalidSize, f_InvalidSize, _, a_InvalidSize, t_InvalidSize, ini_InvalidSize F_InvalidSize T_InvalidSize no_InvalidSize, b_InvalidSize⟩
  have nas_Form : ∀ f ∈ [("questions" : Str)], NoAttr K C_Form f := fun f hf => by
    simp only [List.mem_cons, List.not_mem_nil, or_false] at hf
    rcases hf with rfl
    · exact na0_Form
  have K_Form : CalC l.prog w K mg base "Form" C_Form ["questions"] := ⟨cls_Form, PySem.W.mg_of X G aC_Form, nas_Form, f_Form, _, ⟨mk_Form, a_Form, fn_Form, kc_Form⟩, inic_Form F_Form cls_Form na0_Form, b_Form⟩
  have nas_Book : ∀ f ∈ [("form" : Str), "shares"], NoAttr K C_Book f := fun f hf => by
    simp only [List.mem_cons, List.not_mem_nil, or_false] at hf
    rcases hf with rfl | rfl
    · exact na0_Book
    · exact na1_Book
  have K_Book : CalC l.prog w K mg base "Book" C_Book ["form", "shares"] := ⟨cls_Book, PySem.W.mg_of X G aC_Book, nas_Book, f_Book, _, ⟨mk_Book, a_Book, fn_Book, kc_Book⟩, inic_Book F_Book cls_Book na0_Book na1_Book, b_Book⟩
  have nas_Sheets : ∀ f ∈ [("form" : Str), "shares"], NoAttr K C_Sheets f := fun f hf => by
    simp only [List.mem_cons, List.not_mem_nil, or_false] at hf
    rcases hf with rfl | rfl
    · exact na0_Sheets
    · exact na1_Sheets
  have K_Sheets : CalC l.prog w K mg base "Sheets" C_Sheets ["form", "shares"] := ⟨cls_Sheets, PySem.W.mg_of X G aC_Sheets, nas_Sheets, f_Sheets, _, ⟨mk_Sheets, a_Sheets, fn_Sheets, kc_Sheets⟩, inic_Sheets F_Sheets cls_Sheets na0_Sheets na1_Sheets, b_Sheets⟩
  have u_Form : NotC K C_Form := fun t ht => by
    simp only [List.mem_cons, List.not_mem_nil, or_false] at ht
    rcases ht with rfl | rfl | rfl | rfl | rfl | rfl | rfl
    · exact ku0
    · exact ku1
    · exact ku2
    · exact ku3
    · exact ku4
    · exact ku5
    · exact ku6
  have u_Book : NotC K C_Book := fun t ht => by
    simp only [List.mem_cons, List.not_mem_nil, or_false] at ht
    rcases ht with rfl | rfl | rfl | rfl | rfl | rfl | rfl
    · exact kx0
    · exact kx1
    · exact kx2
    · exact kx3
    · exact kx4
    · exact kx5
    · exact kx6
  have u_Sheets : NotC K C_Sheets := fun t ht => by
    simp only [List.mem_cons, List.not_mem_nil, or_false] at ht
    rcases ht with rfl | rfl | rfl | rfl | rfl | rfl | rfl
    · exact ky0
    · exact ky1
    · exact ky2
    · exact ky3
    · exact ky4
    · exact ky5
    · exact ky6
  have t_Sheets : IsiC K C_Sheets := ⟨ca_Sheets, hn, ht⟩
  have t_Book : IsiC K C_Book := ⟨ca_Book, hn, ht⟩
  have u_SB : OthC K C_Book C_Sheets := kSB
  have u_BS : OthC K C_Sheets C_Book := kBS
  have u_n1 : NfC K C_Book C_Sheets := by
    unfold NfC PySem.W.notFirst
    rw [sSB]
    simp
  have u_n2 : NfC K C_Sheets C_Book := by
    unfold NfC PySem.W.notFirst
    rw [sBS]
    simp
  have t_Form : IsiC K C_Form := ⟨ca_Form, hn, ht⟩
  have ne_Form : NoNe K C_Form := nea_Form
  have E_Form : CalE l.prog w K mg base 1 C_Form (sp_eqForm K C_Form) := ⟨q_Form, _, eq_form Q_Form n_isinstance K_Form t_Form u_Form, eqa_Form, eqf_Form, bq_Form⟩
  have t_Book : IsiC K C_Book := ⟨ca_Book, hn, ht⟩
  have ne_Book : NoNe K C_Book := nea_Book
  have E_Book : CalE l.prog w K mg base 2 C_Book (sp_eqBook K C_Form C_Book C_Sheets) := ⟨q_Book, _, eq_book Q_Book n_isinstance E_Form K_Book t_Book u_Book K_Sheets t_Sheets u_SB, eqa_Book, eqf_Book, bq_Book⟩
  have t_Sheets : IsiC K C_Sheets := ⟨ca_Sheets, hn, ht⟩
  have ne_Sheets : NoNe K C_Sheets := nea_Sheets
  have E_Sheets : CalE l.prog w K mg base 2 C_Sheets (sp_eqSheets K C_Form C_Book C_Sheets) := ⟨q_Sheets, _, eq_sheets Q_Sheets n_isinstance E_Form K_Sheets t_Sheets u_Sheets K_Book t_Book u_BS, eqa_Sheets, eqf_Sheets, bq_Sheets⟩
  have KR_Book : CalCR l.prog w K mg base "Book" C_Book "form" "shares" := ⟨PySem.W.mg_of X G aC_Book, f_Book, _, ⟨mk_Book, a_Book, fn_Book, kc_Book⟩, inic_Book F_Book cls_Book na0_Book na1_Book, kbr_of F_Book fun _ _ _ _ _ _ us ws h1 h2 => match us, ws, h1, h2 with | [_], [_, _], _, _ => rfl⟩
  have KR_Sheets : CalCR l.prog w K mg base "Sheets" C_Sheets "form" "shares" := ⟨PySem.W.mg_of X G aC_Sheets, f_Sheets, _, ⟨mk_Sheets, a_Sheets, fn_Sheets, kc_Sheets⟩, inic_Sheets F_Sheets cls_Sheets na0_Sheets na1_Sheets, kbr_of F_Sheets fun _ _ _ _ _ _ us ws h1 h2 => match us, ws, h1, h2 with | [_], [_, _], _, _ => rfl⟩
  have C_isInt := ok_isInt (P := l.prog) (w := w) (base := base) D_isInt n_int n_isinstance n_bool
  have C_isName := ok_isName (P := l.prog) (w := w) (base := base) D_isName n_str n_isinstance n_len
  have C_isTupleOf := ok_isTupleOf (P := l.prog) (w := w) (base := base) D_isTupleOf n_tuple n_isinstance n_len
  have C_isPartOf := ok_isPartOf (P := l.prog) (w := w) (base := base) D_isPartOf n_tuple n_isinstance n_list
  have C_isMany := ok_isMany (P := l.prog) (w := w) (base := base) D_isMany C_isInt
  have C_mayFollow := ok_mayFollow (P := l.prog) (w := w) (base := base) D_mayFollow C_isTupleOf C_isName C_isMany n_len
  have C_formFault := ok_formFault (P := l.prog) (w := w) (base := base) D_formFault K_Form n_isinstance n_tuple n_len m_MOST_QUESTIONS n_enumerate C_mayFollow t_Form u_Form
  have C_isForm := ok_isForm (P := l.prog) (w := w) (base := base) D_isForm C_formFault
  have C_namesOf := ok_namesOf (P := l.prog) (w := w) (base := base) D_namesOf n_tuple K_Form
  have C_areAnswers := ok_areAnswers (P := l.prog) (w := w) (base := base) D_areAnswers C_isTupleOf n_len n_zip C_isInt K_Form
  have C_isTruth := ok_isTruth (P := l.prog) (w := w) (base := base) D_isTruth C_areAnswers
  have C_isSheet := ok_isSheet (P := l.prog) (w := w) (base := base) D_isSheet C_areAnswers
  have C_isLot := ok_isLot (P := l.prog) (w := w) (base := base) D_isLot C_isPartOf C_namesOf
  have C_fractionFault := ok_fractionFault (P := l.prog) (w := w) (base := base) D_fractionFault C_isTupleOf C_isInt m_gcd
  have C_isFraction := ok_isFraction (P := l.prog) (w := w) (base := base) D_isFraction C_fractionFault
  have C_fraction := ok_fraction (P := l.prog) (w := w) (base := base) D_fraction Z_InvalidSize m_gcd
  have C_compared := ok_compared (P := l.prog) (w := w) (base := base) D_compared n_int
  have C_signOf := ok_signOf (P := l.prog) (w := w) (base := base) D_signOf C_compared m_ZERO c_ZERO
  have C_totalOf := ok_totalOf (P := l.prog) (w := w) (base := base) D_totalOf m_lcm C_fraction n_sum
  have C_isTriple := ok_isTriple (P := l.prog) (w := w) (base := base) D_isTriple C_isTupleOf C_isLot C_isTruth C_isFraction C_signOf
  have C_sharesFault := ok_sharesFault (P := l.prog) (w := w) (base := base) D_sharesFault n_enumerate n_len C_totalOf m_ONE c_ONE
  have C_bookFault := ok_bookFault (P := l.prog) (w := w) (base := base) D_bookFault K_Book n_isinstance C_isForm n_tuple C_sharesFault C_isTriple t_Book u_Book t_Sheets u_SB K_Sheets
  have C_needBook := ok_needBook (P := l.prog) (w := w) (base := base) D_needBook C_bookFault Z_InvalidBook
  have C_isBook := ok_isBook (P := l.prog) (w := w) (base := base) D_isBook C_bookFault
  have C_isSheetShare := ok_isSheetShare (P := l.prog) (w := w) (base := base) D_isSheetShare C_isTupleOf C_isSheet C_isFraction C_signOf
  have C_sheetsFault := ok_sheetsFault (P := l.prog) (w := w) (base := base) D_sheetsFault K_Sheets n_isinstance C_isForm n_tuple C_sharesFault C_isSheetShare t_Sheets u_Sheets t_Book u_BS K_Book
  have C_needSheets := ok_needSheets (P := l.prog) (w := w) (base := base) D_needSheets C_sheetsFault Z_InvalidSheets
  have C_isSheets := ok_isSheets (P := l.prog) (w := w) (base := base) D_isSheets C_sheetsFault
  have C_source := ok_source (P := l.prog) (w := w) (base := base) D_source n_int n_abs
  have C_any := ok_any (P := l.prog) (w := w) (base := base) D_any n_int
  have C_of := ok_of (P := l.prog) (w := w) (base := base) D_of C_any n_len
  have C_lname := ok_lname (P := l.prog) (w := w) (base := base) D_lname C_any C_of n_range
  have C_lnames := ok_lnames (P := l.prog) (w := w) (base := base) D_lnames n_range C_lname n_sorted
  have C_lcommon := ok_lcommon (P := l.prog) (w := w) (base := base) D_lcommon n_int n_abs n_range
  have C_llow := ok_llow (P := l.prog) (w := w) (base := base) D_llow C_lcommon n_int
  have C_lform := ok_lform (P := l.prog) (w := w) (base := base) D_lform C_lnames C_any C_of n_tuple
  have C_lrows := ok_lrows (P := l.prog) (w := w) (base := base) D_lrows n_range
  have C_lsubsets := ok_lsubsets (P := l.prog) (w := w) (base := base) D_lsubsets n_sorted
  have C_lshares := ok_lshares (P := l.prog) (w := w) (base := base) D_lshares C_of C_any C_llow n_sum
  have C_lpicked := ok_lpicked (P := l.prog) (w := w) (base := base) D_lpicked C_of C_any
  have C_lkeys := ok_lkeys (P := l.prog) (w := w) (base := base) D_lkeys C_lrows C_lsubsets
  have C_thing := ok_thing (P := l.prog) (w := w) (base := base) D_thing C_of C_any
  have C_near := ok_near (P := l.prog) (w := w) (base := base) D_near n_tuple n_isinstance n_len C_of C_thing C_any n_int n_list
  have C_bent := ok_bent (P := l.prog) (w := w) (base := base) D_bent n_range C_of C_any n_len C_thing n_list n_tuple n_isinstance C_near
  have C_lisIn := ok_lisIn (P := l.prog) (w := w) (base := base) D_lisIn n_int n_isinstance n_bool
  have C_lisRow := ok_lisRow (P := l.prog) (w := w) (base := base) D_lisRow n_tuple n_isinstance n_len n_range C_lisIn
  have C_lisShare := ok_lisShare (P := l.prog) (w := w) (base := base) D_lisShare n_tuple n_isinstance n_len C_lisIn C_lcommon
  have C_lisKey := ok_lisKey (P := l.prog) (w := w) (base := base) D_lisKey C_lisRow n_tuple n_isinstance n_range n_len
  have C_wrong := ok_wrong (P := l.prog) (w := w) (base := base) D_wrong n_tuple n_isinstance n_range n_len C_lisKey C_lisShare C_llow
  have C_told := ok_told (P := l.prog) (w := w) (base := base) D_told C_needBook C_needSheets Z_BlankError n_isinstance Z_InvalidForm Z_InvalidSheets Z_InvalidBook ne1 ne2 ne3 ne4 ne5
  have C_lright := ok_lright (P := l.prog) (w := w) (base := base) D_lright C_told n_repr C_isSheets C_isBook C_needSheets C_needBook
  have C_spoiltForm := ok_spoiltForm (P := l.prog) (w := w) (base := base) D_spoiltForm C_any C_of K_Form n_list
  have C_law := ok_law (P := l.prog) (w := w) (base := base) D_law C_source n_range C_lform C_lpicked C_lkeys C_lshares n_len C_bent C_any C_of C_thing n_tuple C_spoiltForm K_Form K_Book K_Sheets C_wrong n_repr C_lright E_Form KR_Book KR_Sheets E_Book E_Sheets n_list n_isinstance t_Book t_Sheets u_n1 u_n2
  exact C_law.law hfa (fun _ _ _ _ _ _ s u => .of_eq rfl)
end K05
open PySem PySem.W PyProof.Rows in
set_option maxRecDepth 100000 in
set_option maxHeartbeats 0 in
theorem PySem.Challenge.cw_whyblank_k05_any_values_as_books_and_tab_holds : PySem.Challenge.rw_whyblank_k05_any_values_as_books_and_tab.Holds := by
  w_on; o_law; k_head; (case hw => w_witness2)
  k_fill
  refine Wb.walk2 (l := PySem.Challenge.rw_whyblank_k05_any_values_as_books_and_tab) (k := 10) ⟨rfl, by decide, by decide⟩ rfl rfl (fun w h Y => PySem.W.kIn_of Y) ?F
  case F =>
    intro w mg fa h KX G hmg
    refine' K05.all_mk KX G hmg ?aC_BlankError ?aC_InvalidForm ?aC_InvalidBook ?aC_InvalidSheets ?aC_InvalidSize ?hn ?ht (Wb.EF.mk (Wb.ClsRow.mk2 ?r_BlankError) ?sa_BlankError ?ga_BlankError ?gg_BlankError ?ex_BlankError ?ty_BlankError ?hd_BlankError ?kp_BlankError ?hc_BlankError ?hm_BlankError) (Wb.EF.mk (Wb.ClsRow.mk2 ?r_InvalidForm) ?sa_InvalidForm ?ga_InvalidForm ?gg_InvalidForm ?ex_InvalidForm ?ty_InvalidForm ?hd_InvalidForm ?kp_InvalidForm ?hc_InvalidForm ?hm_InvalidForm) ?a_InvalidForm ?t_InvalidForm ?no_InvalidForm (Wb.FnF.mk2 ?li_InvalidForm ?ui_InvalidForm ?vi_InvalidForm) (Wb.EF.mk (Wb.ClsRow.mk2 ?r_InvalidBook) ?sa_InvalidBook ?ga_InvalidBook ?gg_InvalidBook ?ex_InvalidBook ?ty_InvalidBook ?hd_InvalidBook ?kp_InvalidBook ?hc_InvalidBook ?hm_InvalidBook) ?a_InvalidBook ?t_InvalidBook ?no_InvalidBook (Wb.FnF.mk2 ?li_InvalidBook ?ui_InvalidBook ?vi_InvalidBook) (Wb.EF.mk (Wb.ClsRow.mk2 ?r_InvalidSheets) ?sa_InvalidSheets ?ga_InvalidSheets ?gg_InvalidSheets ?ex_InvalidSheets ?ty_InvalidSheets ?hd_InvalidSheets ?kp_InvalidSheets ?hc_InvalidSheets ?hm_InvalidSheets) ?a_InvalidSheets ?t_InvalidSheets ?no_InvalidSheets (Wb.FnF.mk2 ?li_InvalidSheets ?ui_InvalidSheets ?vi_InvalidSheets) (Wb.EF.mk (Wb.ClsRow.mk2 ?r_InvalidSize) ?sa_InvalidSize ?ga_InvalidSize ?gg_InvalidSize ?ex_InvalidSize ?ty_InvalidSize ?hd_InvalidSize ?kp_InvalidSize ?hc_InvalidSize ?hm_InvalidSize) ?a_InvalidSize ?t_InvalidSize ?no_InvalidSize (Wb.FnF.mk2 ?li_InvalidSize ?ui_InvalidSize ?vi_InvalidSize) ?aC_Form ?pg_Form ?hd_Form ?po_Form ?sa_Form ?mk_Form ?kc_Form ?a_Form ?fn_Form ?na0_Form (Wb.FnF.mk2 ?li_Form ?ui_Form ?vi_Form) ?eqa_Form ?eqf_Form ?nea_Form ?ca_Form (Wb.FnF.mk2 ?jq_Form ?uq_Form ?vq_Form) ?aC_Book ?pg_Book ?hd_Book ?po_Book ?sa_Book ?mk_Book ?kc_Book ?a_Book ?fn_Book ?na0_Book ?na1_Book (Wb.FnF.mk2 ?li_Book ?ui_Book ?vi_Book) ?eqa_Book ?eqf_Book ?nea_Book ?ca_Book (Wb.FnF.mk2 ?jq_Book ?uq_Book ?vq_Book) ?aC_Sheets ?pg_Sheets ?hd_Sheets ?po_Sheets ?sa_Sheets ?mk_Sheets ?kc_Sheets ?a_Sheets ?fn_Sheets ?na0_Sheets ?na1_Sheets (Wb.FnF.mk2 ?li_Sheets ?ui_Sheets ?vi_Sheets) ?eqa_Sheets ?eqf_Sheets ?nea_Sheets ?ca_Sheets (Wb.FnF.mk2 ?jq_Sheets ?uq_Sheets ?vq_Sheets) ?z_isInt (Wb.FnF.mk2 ?l_isInt ?u_isInt ?v_isInt) ?z_isName (Wb.FnF.mk2 ?l_isName ?u_isName ?v_isName) ?z_isTupleOf (Wb.FnF.mk2 ?l_isTupleOf ?u_isTupleOf ?v_isTupleOf) ?z_isPartOf (Wb.FnF.mk2 ?l_isPartOf ?u_isPartOf ?v_isPartOf) ?z_isMany (Wb.FnF.mk2 ?l_isMany ?u_isMany ?v_isMany) ?z_mayFollow (Wb.FnF.mk2 ?l_mayFollow ?u_mayFollow ?v_mayFollow) ?z_formFault (Wb.FnF.mk2 ?l_formFault ?u_formFault ?v_formFault) ?z_isForm (Wb.FnF.mk2 ?l_isForm ?u_isForm ?v_isForm) ?z_namesOf (Wb.FnF.mk2 ?l_namesOf ?u_namesOf ?v_namesOf) ?z_areAnswers (Wb.FnF.mk2 ?l_areAnswers ?u_areAnswers ?v_areAnswers) ?z_isTruth (Wb.FnF.mk2 ?l_isTruth ?u_isTruth ?v_isTruth) ?z_isSheet (Wb.FnF.mk2 ?l_isSheet ?u_isSheet ?v_isSheet) ?z_isLot (Wb.FnF.mk2 ?l_isLot ?u_isLot ?v_isLot) ?z_fractionFault (Wb.FnF.mk2 ?l_fractionFault ?u_fractionFault ?v_fractionFault) ?z_isFraction (Wb.FnF.mk2 ?l_isFraction ?u_isFraction ?v_isFraction) ?z_fraction (Wb.FnF.mk2 ?l_fraction ?u_fraction ?v_fraction) ?z_compared (Wb.FnF.mk2 ?l_compared ?u_compared ?v_compared) ?z_signOf (Wb.FnF.mk2 ?l_signOf ?u_signOf ?v_signOf) ?z_totalOf (Wb.FnF.mk2 ?l_totalOf ?u_totalOf ?v_totalOf) ?z_isTriple (Wb.FnF.mk2 ?l_isTriple ?u_isTriple ?v_isTriple) ?z_sharesFault (Wb.FnF.mk2 ?l_sharesFault ?u_sharesFault ?v_sharesFault) ?z_bookFault (Wb.FnF.mk2 ?l_bookFault ?u_bookFault ?v_bookFault) ?z_needBook (Wb.FnF.mk2 ?l_needBook ?u_needBook ?v_needBook) ?z_isBook (Wb.FnF.mk2 ?l_isBook ?u_isBook ?v_isBook) ?z_isSheetShare (Wb.FnF.mk2 ?l_isSheetShare ?u_isSheetShare ?v_isSheetShare) ?z_sheetsFault (Wb.FnF.mk2 ?l_sheetsFault ?u_sheetsFault ?v_sheetsFault) ?z_needSheets (Wb.FnF.mk2 ?l_needSheets ?u_needSheets ?v_needSheets) ?z_isSheets (Wb.FnF.mk2 ?l_isSheets ?u_isSheets ?v_isSheets) ?z_source (Wb.FnF.mk2 ?l_source ?u_source ?v_source) ?z_any (Wb.FnF.mk2 ?l_any ?u_any ?v_any) ?z_of (Wb.FnF.mk2 ?l_of ?u_of ?v_of) ?z_lname (Wb.FnF.mk2 ?l_lname ?u_lname ?v_lname) ?z_lnames (Wb.FnF.mk2 ?l_lnames ?u_lnames ?v_lnames) ?z_lcommon (Wb.FnF.mk2 ?l_lcommon ?u_lcommon ?v_lcommon) ?z_llow (Wb.FnF.mk2 ?l_llow ?u_llow ?v_llow) ?z_lform (Wb.FnF.mk2 ?l_lform ?u_lform ?v_lform) ?z_lrows (Wb.FnF.mk2 ?l_lrows ?u_lrows ?v_lrows) ?z_lsubsets (Wb.FnF.mk2 ?l_lsubsets ?u_lsubsets ?v_lsubsets) ?z_lshares (Wb.FnF.mk2 ?l_lshares ?u_lshares ?v_lshares) ?z_lpicked (Wb.FnF.mk2 ?l_lpicked ?u_lpicked ?v_lpicked) ?z_lkeys (Wb.FnF.mk2 ?l_lkeys ?u_lkeys ?v_lkeys) ?z_thing (Wb.FnF.mk2 ?l_thing ?u_thing ?v_thing) ?z_bent (Wb.FnF.mk2 ?l_bent ?u_bent ?v_bent) ?z_near (Wb.FnF.mk2 ?l_near ?u_near ?v_near) ?z_lisRow (Wb.FnF.mk2 ?l_lisRow ?u_lisRow ?v_lisRow) ?z_lisIn (Wb.FnF.mk2 ?l_lisIn ?u_lisIn ?v_lisIn) ?z_lisShare (Wb.FnF.mk2 ?l_lisShare ?u_lisShare ?v_lisShare) ?z_lisKey (Wb.FnF.mk2 ?l_lisKey ?u_lisKey ?v_lisKey) ?z_wrong (Wb.FnF.mk2 ?l_wrong ?u_wrong ?v_wrong) ?z_told (Wb.FnF.mk2 ?l_told ?u_told ?v_told) ?z_lright (Wb.FnF.mk2 ?l_lright ?u_lright ?v_lright) ?z_spoiltForm (Wb.FnF.mk2 ?l_spoiltForm ?u_spoiltForm ?v_spoiltForm) ?z_law (Wb.FnF.mk2 ?l_law ?u_law ?v_law) ?o_int ?o_isinstance ?o_bool ?o_str ?o_len ?o_tuple ?o_list ?o_enumerate ?o_zip ?o_sum ?o_range ?o_sorted ?o_abs ?o_repr ?z_MOST_QUESTIONS ?z_gcd ?z_ZERO ?z_lcm ?z_ONE ?w_ZERO ?rv_ZERO ?qz_ZERO ?w_ONE ?rv_ONE ?qz_ONE ?ne1 ?ne2 ?ne3 ?ne4 ?ne5 ?ku0 ?ku1 ?ku2 ?ku3 ?ku4 ?ku5 ?ku6 ?kx0 ?kx1 ?kx2 ?kx3 ?kx4 ?kx5 ?kx6 ?ky0 ?ky1 ?ky2 ?ky3 ?ky4 ?ky5 ?ky6 ?kSB ?kBS ?sSB ?sBS
    (case aC_BlankError => k_is)
    (case aC_InvalidForm => k_is)
    (case aC_InvalidBook => k_is)
    (case aC_InvalidSheets => k_is)
    (case aC_InvalidSize => k_is)
    (case hn => k_is)
    (case ht => k_is)
    (case r_BlankError => k_is)
    (case sa_BlankError => k_is)
    (case ga_BlankError => k_is)
    (case gg_BlankError => k_is)
    (case ex_BlankError => k_is)
    (case ty_BlankError => k_is)
    (case hd_BlankError => k_is)
    (case kp_BlankError => k_is)
    (case hc_BlankError => k_is)
    (case hm_BlankError => k_is)
    (case r_InvalidForm => k_is)
    (case sa_InvalidForm => k_is)
    (case ga_InvalidForm => k_is)
    (case gg_InvalidForm => k_is)
    (case ex_InvalidForm => k_is)
    (case ty_InvalidForm => k_is)
    (case hd_InvalidForm => k_is)
    (case kp_InvalidForm => k_is)
    (case hc_InvalidForm => k_is)
    (case hm_InvalidForm => k_is)
    (case a_InvalidForm => k_is)
    (case t_InvalidForm => k_is)
    (case no_InvalidForm => k_is)
    (case li_InvalidForm => k_is)
    (case ui_InvalidForm => k_is)
    (case vi_InvalidForm => k_is)
    (case r_InvalidBook => k_is)
    (case sa_InvalidBook => k_is)
    (case ga_InvalidBook => k_is)
    (case gg_InvalidBook => k_is)
    (case ex_InvalidBook => k_is)
    (case ty_InvalidBook => k_is)
    (case hd_InvalidBook => k_is)
    (case kp_InvalidBook => k_is)
    (case hc_InvalidBook => k_is)
    (case hm_InvalidBook => k_is)
    (case a_InvalidBook => k_is)
    (case t_InvalidBook => k_is)
    (case no_InvalidBook => k_is)
    (case li_InvalidBook => k_is)
    (case ui_InvalidBook => k_is)
    (case vi_InvalidBook => k_is)
    (case r_InvalidSheets => k_is)
    (case sa_InvalidSheets => k_is)
    (case ga_InvalidSheets => k_is)
    (case gg_InvalidSheets => k_is)
    (case ex_InvalidSheets => k_is)
    (case ty_InvalidSheets => k_is)
    (case hd_InvalidSheets => k_is)
    (case kp_InvalidSheets => k_is)
    (case hc_InvalidSheets => k_is)
    (case hm_InvalidSheets => k_is)
    (case a_InvalidSheets => k_is)
    (case t_InvalidSheets => k_is)
    (case no_InvalidSheets => k_is)
    (case li_InvalidSheets => k_is)
    (case ui_InvalidSheets => k_is)
    (case vi_InvalidSheets => k_is)
    (case r_InvalidSize => k_is)
    (case sa_InvalidSize => k_is)
    (case ga_InvalidSize => k_is)
    (case gg_InvalidSize => k_is)
    (case ex_InvalidSize => k_is)
    (case ty_InvalidSize => k_is)
    (case hd_InvalidSize => k_is)
    (case kp_InvalidSize => k_is)
    (case hc_InvalidSize => k_is)
    (case hm_InvalidSize => k_is)
    (case a_InvalidSize => k_is)
    (case t_InvalidSize => k_is)
    (case no_InvalidSize => k_is)
    (case li_InvalidSize => k_is)
    (case ui_InvalidSize => k_is)
    (case vi_InvalidSize => k_is)
    (case aC_Form => k_is)
    (case pg_Form => k_is)
    (case hd_Form => k_is)
    (case po_Form => k_is)
    (case sa_Form => k_is)
    (case mk_Form => k_is)
    (case kc_Form => k_is)
    (case a_Form => k_is)
    (case fn_Form => k_is)
    (case na0_Form => k_is)
    (case li_Form => k_is)
    (case ui_Form => k_is)
    (case vi_Form => k_is)
    (case eqa_Form => k_is)
    (case eqf_Form => k_is)
    (case nea_Form => k_is)
    (case ca_Form => k_is)
    (case jq_Form => k_is)
    (case uq_Form => k_is)
    (case vq_Form => k_is)
    (case aC_Book => k_is)
    (case pg_Book => k_is)
    (case hd_Book => k_is)
    (case po_Book => k_is)
    (case sa_Book => k_is)
    (case mk_Book => k_is)
    (case kc_Book => k_is)
    (case a_Book => k_is)
    (case fn_Book => k_is)
    (case na0_Book => k_is)
    (case na1_Book => k_is)
    (case li_Book => k_is)
    (case ui_Book => k_is)
    (case vi_Book => k_is)
    (case eqa_Book => k_is)
    (case eqf_Book => k_is)
    (case nea_Book => k_is)
    (case ca_Book => k_is)
    (case jq_Book => k_is)
    (case uq_Book => k_is)
    (case vq_Book => k_is)
    (case aC_Sheets => k_is)
    (case pg_Sheets => k_is)
    (case hd_Sheets => k_is)
    (case po_Sheets => k_is)
    (case sa_Sheets => k_is)
    (case mk_Sheets => k_is)
    (case kc_Sheets => k_is)
    (case a_Sheets => k_is)
    (case fn_Sheets => k_is)
    (case na0_Sheets => k_is)
    (case na1_Sheets => k_is)
    (case li_Sheets => k_is)
    (case ui_Sheets => k_is)
    (case vi_Sheets => k_is)
    (case eqa_Sheets => k_is)
    (case eqf_Sheets => k_is)
    (case nea_Sheets => k_is)
    (case ca_Sheets => k_is)
    (case jq_Sheets => k_is)
    (case uq_Sheets => k_is)
    (case vq_Sheets => k_is)
    (case z_isInt => k_is)
    (case l_isInt => k_is)
    (case u_isInt => k_is)
    (case v_isInt => k_is)
    (case z_isName => k_is)
    (case l_isName => k_is)
    (case u_isName => k_is)
    (case v_isName => k_is)
    (case z_isTupleOf => k_is)
    (case l_isTupleOf => k_is)
    (case u_isTupleOf => k_is)
    (case v_isTupleOf => k_is)
    (case z_isPartOf => k_is)
    (case l_isPartOf => k_is)
    (case u_isPartOf => k_is)
    (case v_isPartOf => k_is)
    (case z_isMany => k_is)
    (case l_isMany => k_is)
    (case u_isMany => k_is)
    (case v_isMany => k_is)
    (case z_mayFollow => k_is)
    (case l_mayFollow => k_is)
    (case u_mayFollow => k_is)
    (case v_mayFollow => k_is)
    (case z_formFault => k_is)
    (case l_formFault => k_is)
    (case u_formFault => k_is)
    (case v_formFault => k_is)
    (case z_isForm => k_is)
    (case l_isForm => k_is)
    (case u_isForm => k_is)
    (case v_isForm => k_is)
    (case z_namesOf => k_is)
    (case l_namesOf => k_is)
    (case u_namesOf => k_is)
    (case v_namesOf => k_is)
    (case z_areAnswers => k_is)
    (case l_areAnswers => k_is)
    (case u_areAnswers => k_is)
    (case v_areAnswers => k_is)
    (case z_isTruth => k_is)
    (case l_isTruth => k_is)
    (case u_isTruth => k_is)
    (case v_isTruth => k_is)
    (case z_isSheet => k_is)
    (case l_isSheet => k_is)
    (case u_isSheet => k_is)
    (case v_isSheet => k_is)
    (case z_isLot => k_is)
    (case l_isLot => k_is)
    (case u_isLot => k_is)
    (case v_isLot => k_is)
    (case z_fractionFault => k_is)
    (case l_fractionFault => k_is)
    (case u_fractionFault => k_is)
    (case v_fractionFault => k_is)
    (case z_isFraction => k_is)
    (case l_isFraction => k_is)
    (case u_isFraction => k_is)
    (case v_isFraction => k_is)
    (case z_fraction => k_is)
    (case l_fraction => k_is)
    (case u_fraction => k_is)
    (case v_fraction => k_is)
    (case z_compared => k_is)
    (case l_compared => k_is)
    (case u_compared => k_is)
    (case v_compared => k_is)
    (case z_signOf => k_is)
    (case l_signOf => k_is)
    (case u_signOf => k_is)
    (case v_signOf => k_is)
    (case z_totalOf => k_is)
    (case l_totalOf => k_is)
    (case u_totalOf => k_is)
    (case v_totalOf => k_is)
    (case z_isTriple => k_is)
    (case l_isTriple => k_is)
    (case u_isTriple => k_is)
    (case v_isTriple => k_is)
    (case z_sharesFault => k_is)
    (case l_sharesFault => k_is)
    (case u_sharesFault => k_is)
    (case v_sharesFault => k_is)
    (case z_bookFault => k_is)
    (case l_bookFault => k_is)
    (case u_bookFault => k_is)
    (case v_bookFault => k_is)
    (case z_needBook => k_is)
    (case l_needBook => k_is)
    (case u_needBook => k_is)
    (case v_needBook => k_is)
    (case z_isBook => k_is)
    (case l_isBook => k_is)
    (case u_isBook => k_is)
    (case v_isBook => k_is)
    (case z_isSheetShare => k_is)
    (case l_isSheetShare => k_is)
    (case u_isSheetShare => k_is)
    (case v_isSheetShare => k_is)
    (case z_sheetsFault => k_is)
    (case l_sheetsFault => k_is)
    (case u_sheetsFault => k_is)
    (case v_sheetsFault => k_is)
    (case z_needSheets => k_is)
    (case l_needSheets => k_is)
    (case u_needSheets => k_is)
    (case v_needSheets => k_is)
    (case z_isSheets => k_is)
    (case l_isSheets => k_is)
    (case u_isSheets => k_is)
    (case v_isSheets => k_is)
    (case z_source => k_is)
    (case l_source => k_is)
    (case u_source => k_is)
    (case v_source => k_is)
    (case z_any => k_is)
    (case l_any => k_is)
    (case u_any => k_is)
    (case v_any => k_is)
    (case z_of => k_is)
    (case l_of => k_is)
    (case u_of => k_is)
    (case v_of => k_is)
    (case z_lname => k_is)
    (case l_lname => k_is)
    (case u_lname => k_is)
    (case v_lname => k_is)
    (case z_lnames => k_is)
    (case l_lnames => k_is)
    (case u_lnames => k_is)
    (case v_lnames => k_is)
    (case z_lcommon => k_is)
    (case l_lcommon => k_is)
    (case u_lcommon => k_is)
    (case v_lcommon => k_is)
    (case z_llow => k_is)
    (case l_llow => k_is)
    (case u_llow => k_is)
    (case v_llow => k_is)
    (case z_lform => k_is)
    (case l_lform => k_is)
    (case u_lform => k_is)
    (case v_lform => k_is)
    (case z_lrows => k_is)
    (case l_lrows => k_is)
    (case u_lrows => k_is)
    (case v_lrows => k_is)
    (case z_lsubsets => k_is)
    (case l_lsubsets => k_is)
    (case u_lsubsets => k_is)
    (case v_lsubsets => k_is)
    (case z_lshares => k_is)
    (case l_lshares => k_is)
    (case u_lshares => k_is)
    (case v_lshares => k_is)
    (case z_lpicked => k_is)
    (case l_lpicked => k_is)
    (case u_lpicked => k_is)
    (case v_lpicked => k_is)
    (case z_lkeys => k_is)
    (case l_lkeys => k_is)
    (case u_lkeys => k_is)
    (case v_lkeys => k_is)
    (case z_thing => k_is)
    (case l_thing => k_is)
    (case u_thing => k_is)
    (case v_thing => k_is)
    (case z_bent => k_is)
    (case l_bent => k_is)
    (case u_bent => k_is)
    (case v_bent => k_is)
    (case z_near => k_is)
    (case l_near => k_is)
    (case u_near => k_is)
    (case v_near => k_is)
    (case z_lisRow => k_is)
    (case l_lisRow => k_is)
    (case u_lisRow => k_is)
    (case v_lisRow => k_is)
    (case z_lisIn => k_is)
    (case l_lisIn => k_is)
    (case u_lisIn => k_is)
    (case v_lisIn => k_is)
    (case z_lisShare => k_is)
    (case l_lisShare => k_is)
    (case u_lisShare => k_is)
    (case v_lisShare => k_is)
    (case z_lisKey => k_is)
    (case l_lisKey => k_is)
    (case u_lisKey => k_is)
    (case v_lisKey => k_is)
    (case z_wrong => k_is)
    (case l_wrong => k_is)
    (case u_wrong => k_is)
    (case v_wrong => k_is)
    (case z_told => k_is)
    (case l_told => k_is)
    (case u_told => k_is)
    (case v_told => k_is)
    (case z_lright => k_is)
    (case l_lright => k_is)
    (case u_lright => k_is)
    (case v_lright => k_is)
    (case z_spoiltForm => k_is)
    (case l_spoiltForm => k_is)
    (case u_spoiltForm => k_is)
    (case v_spoiltForm => k_is)
    (case z_law => k_is)
    (case l_law => k_is)
    (case u_law => k_is)
    (case v_law => k_is)
    (case o_int => k_is)
    (case o_isinstance => k_is)
    (case o_bool => k_is)
    (case o_str => k_is)
    (case o_len => k_is)
    (case o_tuple => k_is)
    (case o_list => k_is)
    (case o_enumerate => k_is)
    (case o_zip => k_is)
    (case o_sum => k_is)
    (case o_range => k_is)
    (case o_sorted => k_is)
    (case o_abs => k_is)
    (case o_repr => k_is)
    (case z_MOST_QUESTIONS => k_is)
    (case z_gcd => k_is)
    (case z_ZERO => k_is)
    (case z_lcm => k_is)
    (case z_ONE => k_is)
    (case w_ZERO => k_is)
    (case rv_ZERO => exact (.cons ⟨_, rfl⟩ (.cons ⟨_, rfl⟩ .nil)))
    (case qz_ZERO => decide)
    (case w_ONE => k_is)
    (case rv_ONE => exact (.cons ⟨_, rfl⟩ (.cons ⟨_, rfl⟩ .nil)))
    (case qz_ONE => decide)
    (case ne1 => decide)
    (case ne2 => decide)
    (case ne3 => decide)
    (case ne4 => decide)
    (case ne5 => decide)
    (case ku0 => kit_is)
    (case ku1 => kit_is)
    (case ku2 => kit_is)
    (case ku3 => kit_is)
    (case ku4 => kit_is)
    (case ku5 => kit_is)
    (case ku6 => kit_is)
    (case kx0 => kit_is)
    (case kx1 => kit_is)
    (case kx2 => kit_is)
    (case kx3 => kit_is)
    (case kx4 => kit_is)
    (case kx5 => kit_is)
    (case kx6 => kit_is)
    (case ky0 => kit_is)
    (case ky1 => kit_is)
    (case ky2 => kit_is)
    (case ky3 => kit_is)
    (case ky4 => kit_is)
    (case ky5 => kit_is)
    (case ky6 => kit_is)
    (case kSB => kit_is)
    (case kBS => kit_is)
    (case sSB => k_is)
    (case sBS => k_is)
