import PyProof.Rows.All
import Wide.All
import OpenK.AllK
import Wide.FinOn
import HandS.ForMost
import HandS.ForExc
import HandS.Wide
import HandS.Ends
import HandS.ExcInit
import KE.KExcIs
import KE.KExcInit
import HandS.IsInst
import HandS.TryMany
import HandS.Style
import PyProof.ReprLen
import PyProof.ReprText
import HandS.Gcd
import HandS.WideMore
import HandS.WideBits
import PyProof.ReprBulk
import PyProof.FitsInt
import HandS.Deep
import HandS.TupAny
import HandS.Walk
import KE.SortData
import PyProof.P3In
import PyProof.StrOps2
import PyProof.Rows.SeqMore
import HandS.Conv
import HandS.Zip
import KE.GoesEnum
import PyProof.P3Eq
import PyProof.ListStr
import HandS.OwnEq
import HandS.DictComp
import HandS.More
import HandS.TupLe
import KE.KeyNested
import KE.DatumOrd
import KE.KDictCopyH
import KE.DataCmp
import PyProof.CallStr
import HandS.RaiseMore
import HandS.MakeKwOnly
import PySem.Challenge.RW_whyblank_k33_whole_what_counts_and_what
import PyProof.Rows.IntBool
import HandS.HeadHook3
import HandS.Sort
set_option Elab.async false
set_option linter.all false
set_option maxRecDepth 100000
set_option maxHeartbeats 4000000
/-! Wb0: repr of data, and calls whose surroundings run no repr (guards empty). -/
namespace Wb
open PySem PySem.Spec PyProof.Rows L2

/-! ### repr over data -/
def rShow (K : PySem.W.Frag) : List V → Hp → VK → Prop := fun xs H Q =>
  ∃ (x : V) (d : PyData), xs = [x] ∧ Dp K H x d ∧ d.showable = true ∧ d.hasDict = false ∧ d.depth ≤ 60 ∧ d.shown.length ≤ sizeLine ∧ Q (.str d.shown) H
section
variable {X : Cx}
theorem call_show (hg : X.A.guards = some []) (hu : X.A.units + 64 < cLine) : CallR X (.builtin "repr") (rShow X.K) := by
  intro pins s σ H xs us Q I rr hh
  obtain ⟨x, d, rfl, hd, hs, hn, hdep, hl, hq⟩ := hh
  cases rr with
  | cons r1 r2 =>
  cases r2
  rename_i u
  obtain ⟨as, rd⟩ := Dp.reads I d x u hd r1
  have done : ∀ (h' : Heap) (t tk : Nat), (∀ b o, s.heap.get? b = some o → h'.get? b = some o) → EP X pins σ Q (.str d.shown t) { s with heap := h', toks := tk } :=
    fun h' t tk kp => ⟨.str d.shown, H, I.kept kp, ⟨t, rfl⟩, hq⟩
  cases hd with
  | non =>
    obtain rfl : u = Value.none := r1
    simp only [PyData.shown] at done
    exact PySem.P.repr_of_none (done _ _ _ fun _ _ e => e)
  | bl b =>
    obtain rfl : u = Value.bool b := r1
    simp only [PyData.shown] at done
    exact PySem.P.repr_of_bool (done _ _ _ fun _ _ e => e)
  | int i =>
    obtain ⟨t, rfl⟩ := r1
    simp only [PyData.shown] at done
    exact PySem.P.repr_of_int (by simpa [PyData.showable] using hs) (done _ _ _ fun _ _ e => e)
  | str z =>
    obtain ⟨t, rfl⟩ := r1
    simp only [PyData.shown] at done
    exact PySem.P.repr_of_str (done _ _ _ fun _ _ e => e) (by simpa only [PyData.shown] using hl)
  | lst h1 h2 =>
    cases r1
    exact repr_of_reads' rd hs (PyData.noDict_hsm hn) hg (by omega) (fun _ _ e => e) (fun h' t tk kp => done h' t tk kp) hl
  | tup h1 h2 =>
    cases r1
    exact repr_of_reads' rd hs (PyData.noDict_hsm hn) hg (by omega) (fun _ _ e => e) (fun h' t tk kp => done h' t tk kp) hl
end

/-! ### a def that is called where no repr runs -/
structure FnG (P : Program) (w : World) (K : PySem.W.Frag) (mg : Str → Option Value) (base : Heap) (CX : CXT) (k : Nat) (f : Addr) (fd : FuncData) (ps : List Str) (sp : Sp) : Prop where
  arity : ∀ vs H Q E, sp vs H Q E → vs.length = ps.length
  go : ∀ (A : Around) (outer : List Env) (s : Shared) (H : Hp) (args : Args) (us : List Value) (vs : List V) (Q : VK) (E : XK),
    A.guards = some [] → Room k A → Env0 P w K mg base A outer s H → BindsTo s fd args (ps.zip us) → Vals vs us → sp vs H Q E →
    codeAny (model P w) A (.call (.ref f) args) (CR CX outer P w H s Q E) s

theorem FnG.of {P w K mg base CX k f fd ps sp} (F : FnOk P w K mg base CX k f fd ps sp) : FnG P w K mg base CX k f fd ps sp :=
  ⟨F.len, fun A outer s H args us vs Q E _ => F.run A outer s H args us vs Q E⟩

section
variable {P : Program} {w : World} {K : PySem.W.Frag} {mg : Str → Option Value} {base : Heap}
/-- the body of such a def, with the surroundings' guards told -/
theorem okG {CX : CXT} {x qual : Str} {st : Stmt} {f : Addr} {fd : FuncData} {N ps : List Str} {k : Nat} {sp : Sp} (F : Fun K x qual st f fd) (S : FnScope N ps (defScope st)) (ar : ∀ vs H Q E, sp vs H Q E → vs.length = ps.length)
    (body : ∀ (cdv : Value) (A : Around) (outer : List Env) (s : Shared) (H : Hp) (vs : List V) (Q : VK) (E : XK),
      (A.deeper (envOfC qual (defScope st) s.heap.objs.size f cdv)).guards = some [] → Room k (A.deeper (envOfC qual (defScope st) s.heap.objs.size f cdv)) → sp vs H Q E →
      ∃ t, PSs (cxOf CX P w K mg base N qual (defScope st) f cdv A outer s H E) (defBody st) t ∧ t { nx := fun _ H' => Q .non H', rt := Q } (start N vs) H) :
    FnG P w K mg base CX (k + 1) f fd ps sp := by
  obtain ⟨a1, a2, a3, a4, a5, a6, cdv, a8, a9, rfl, found, coded⟩ := F.ex
  refine ⟨ar, ?_⟩
  intro A outer s H args us vs Q E gd room env0 bnd rel want
  have many := ar _ _ _ _ want
  have inS : K.In s.heap := env0.mod.kin.keeps fun b o e => (env0.bs b o e).1
  have noLim : s.heap.NoLimit := env0.mod.nolimit.keeps fun b o e => (env0.bs b o e).1
  refine codeAny_call_function room.depth (inS _ _ found) rfl S.co S.gen rfl (PySem.W.codeRec_of inS coded) (bnd _ _ _ _ ?_)
  have kinds : ∀ y ∈ ps.zip us, (defScope st).names.lookup y.1 = some .local ∨
      ((defScope st).names.lookup y.1 = some .cell ∧ ((cellsFrom (s.heap.objs.size + 1) (defScope st).names []).lookup y.1).isSome = true) := by
    rintro ⟨n, v⟩ mem
    have hp := S.par n (List.of_mem_zip mem).1
    rcases hp with hp | hp
    · exact Or.inl hp
    · exact Or.inr ⟨hp, PySem.W.cellsFrom_some _ _ _ (Or.inl hp)⟩
  refine wpAny_newFunctionEnv_cells S.kind kinds ?_
  intro env isEnv s1 inCall
  subst isEnv
  refine ⟨noLim.keeps inCall.toInCall.keep, codeAny_func ?_⟩
  have gd2 : (A.deeper (envOfC qual (defScope st) s.heap.objs.size f cdv)).guards = some [] := gd
  obtain ⟨t, derived, holds⟩ := body cdv A outer s H vs Q E gd2 (room.deeper _) want
  have inv := inv_start (CX := CX) (E := E) (qual := qual) (cd := cdv) (f := f) S room.hd env0 many rel inCall
  refine wpAny_mono (derived.run [] s1 (start N vs) H _ inv holds) ?_ (fun _ _ z => z)
  intro fl s' got
  cases fl with
  | ret u =>
    obtain ⟨v, σ', H', J, rv, q⟩ := got
    exact ⟨v, H', J.os, J.bare, J.base, J.hok, rv, q⟩
  | next =>
    obtain ⟨σ', H', J, q⟩ := got
    exact ⟨V.non, H', J.os, J.bare, J.base, J.hok, rfl, q⟩
  | brk => obtain ⟨_, _, _, q⟩ := got; exact q.elim
  | cont => obtain ⟨_, _, _, q⟩ := got; exact q.elim
end

/-! ### calling it -/
section
variable {X : Cx} {CX : CXT} {k : Nat} {f : Addr} {fd : FuncData} {ps : List Str} {sp : Sp} {dvs : List V} {ds : List Value} {E : XK} {x : Str} {p pos : Pos} {e : Expr} {es : List Expr} {t : TA}
theorem runG {pins : List (Addr × Obj)} {σ : L2.St} {H : Hp} {s : Shared} {Q : VK} {us : List Value} {vs : List V} (F : FnG X.prog X.w X.K X.mg X.base CX k f fd ps sp) (gd : X.A.guards = some []) (hr : Room k X.A) (hb : Binds X.K fd ps ds) (hd : Vals dvs ds)
    (hx : Passes CX X E) (I : Inv X pins σ H s) (r : Vals vs us) (h : sp (vs ++ dvs) H Q E) : wpAny (model X.prog X.w) X.A (call (.ref f) us) (EP X pins σ Q) X.xe s := by
  have r2 := r.append hd
  have many : (us ++ ds).length = ps.length := r2.length.symm.trans (F.arity _ _ _ _ h)
  apply wpAny_call
  refine codeAny_mono (F.go X.A X.stack s H ⟨us, []⟩ _ _ Q E gd hr I.env0 (hb s us I.kIn many) r2 h) ?_
  intro res s' got
  match res, got with
  | .error er, got => exact hx pins σ H s er s' I got
  | .ok (.ret u), got => exact I.after got
theorem pe_callG (F : FnG X.prog X.w X.K X.mg X.base CX k f fd ps sp) (gd : X.A.guards = some []) (hr : Room k X.A) (hg : Gl X x) (hm : X.mg x = some (.ref f)) (hk : PySem.W.keepIn X.K (.ref f) = true) (hb : Binds X.K fd ps ds) (hd : Vals dvs ds)
    (hx : Passes CX X E) (ha : PA X (e :: es) t) (hdb : (x == ("__debug__" : Str)) = false := by decide) (he : starEach (e :: es) X.env = (false, eval e X.env) :: starEach es X.env := by rfl)
    (hpl : (backTo pos (starEach es X.env)).any (·.1) = false := by rfl) : PE X (.Call (.Name x p) (e :: es) [] pos) (tCall sp dvs E t) := by
  constructor
  intro pins s σ H Q I h
  apply wpAny_Call_Name_kw
  apply ld_glob I hg hm _ hdb
  refine PySem.W.callWith_K (h₀ := X.base) I.ok.mod.kin hk (thn (ha.run pos pins s σ H _ I h) ?_) he hpl
  rintro us s1 ⟨vs, H1, I1, r, q⟩
  exact ⟨I1.kIn, runG F gd hr hb hd hx I1 r q⟩
end
end Wb

set_option Elab.async false
set_option linter.all false
set_option maxRecDepth 100000
set_option maxHeartbeats 4000000
/-! Wb1: the law's own call, guards told. -/
namespace Wb
open PySem PySem.Spec PyProof.Rows L2

/-- the law's def, promised where no repr runs, called from outside -/
theorem lawG {P : Program} {w : World} {K : PySem.W.Frag} {mg mb : Str → Option Value} {CX : CXT} {k : Nat} {fa a : Addr} {fd : FuncData} {x : Str} {sp : Sp} {st : Shared} {vs : List Value} {ns : List Int}
    (inK : K.In st.heap) (names : st.heap.Ns mainGlobals mg) (bns : st.heap.Ns builtinsNs mb) (boot : ∀ x : Str, x ≠ "__name__" → mb x = bootBuiltins x) (lim : st.heap.NoLimit) (nogen : st.gens = #[])
    (atA : st.heap.get? a = some { cls := .type "list", data := .seq vs.toArray }) (areInts : IntsAre vs ns) (short : ns.length ≤ sizeLine) (room : Room k callerA)
    (F : ∀ base : Heap, K.In base → base.Ns mainGlobals mg → FnG P w K mg base CX k fa fd [x] sp) (bind1 : ∀ (s : Shared) (u : Value), BindsTo s fd ⟨[u], []⟩ [(x, u)])
    (want : ∀ H : Hp, Only H → SqL K H a (ns.map V.int) → sp [.ref a] H (fun v _ => v = .bl true) fun _ _ _ => False)
    (noX : ∀ H e s', CX [] H st (fun _ _ _ => False) e s' → False) :
    codeAny (model P w) callerA (.call (.ref fa) ⟨[.ref a], []⟩) (fun r s' => r = .ok (.ret (.bool true)) ∧ OldK st.heap s'.heap ∧ s'.os = st.os ∧ AllBare s'.gens) st := by
  have rel := vals_ints areInts
  have same := areInts.length
  -- what is told of any abstract heap that tracks the script at most
  suffices go : ∀ H : Hp, Only H → SqL K H a (ns.map V.int) → HOk P w H st.heap → (∀ b, H b ≠ none → b = a) → (H a ≠ none → K.lookup a = none) →
      codeAny (model P w) callerA (.call (.ref fa) ⟨[.ref a], []⟩) (fun r s' => r = .ok (.ret (.bool true)) ∧ OldK st.heap s'.heap ∧ s'.os = st.os ∧ AllBare s'.gens) st by
    rcases own : K.lookup a with _ | ob
    · -- the script is tracked, as a thing that stands still
      let frozen : HO := .frz { cls := .type "list", data := .seq vs.toArray } (.lst (ns.map V.int))
      refine go (fun b => if b = a then some frozen else none) ?_ ?_ ?_ ?_ (fun _ => own)
      · intro b
        by_cases e : b = a
        · exact Or.inr ⟨_, _, if_pos e⟩
        · exact Or.inl (if_neg e)
      · exact Or.inl (Or.inr ⟨_, if_pos rfl⟩)
      · intro b u e
        by_cases h : b = a
        · subst h
          cases (if_pos rfl).symm.trans e
          exact ⟨atA, by simpa using short, vs, _, rel, atA⟩
        · cases (if_neg h).symm.trans e
      · intro b e
        by_cases h : b = a
        · exact h
        · exact absurd (if_neg h) e
    · -- the script is one of the module's own objects
      have there := inK a ob own
      rw [atA] at there
      cases there
      refine go (fun _ => none) (fun _ => Or.inl rfl) ?_ (fun b u e => ?_) (fun b e => absurd rfl e) (fun e => absurd rfl e)
      · exact Or.inr ⟨_, vs.toArray, _, own, rfl, rfl, rfl, by rw [List.size_toArray, same]; exact short, by simpa using rel⟩
      · have e' : (none : Option HO) = some u := e
        cases e'
  intro H only seq ok just notK
  have keepB : ∀ {b : Addr} {o : Obj}, st.heap.get? b = some o → H b = none → (hidT st.heap H).get? b = some o := fun e n => hidT_get e n
  have dictFree : ∀ {b : Addr} {o : Obj} {es : Array DictEntry} {ep : Nat}, st.heap.get? b = some o → o.data = .dict es ep → H b = none := by
    intro b o es ep e d
    by_cases q : H b = none
    · exact q
    · have h := just b q
      subst h
      rw [atA] at e
      cases e
      have d' : Data.seq vs.toArray _ = Data.dict es ep := d
      cases d'
  have nsIn : ∀ {b : Addr} {m : Str → Option Value}, st.heap.Ns b m → (hidT st.heap H).Ns b m := by
    rintro b m ⟨o, es, ep, e, d, r⟩
    exact ⟨o, es, ep, keepB e (dictFree e d), d, r⟩
  have inBase : K.In (hidT st.heap H) := by
    intro b o e
    refine keepB (inK b o e) ?_
    by_cases q : H b = none
    · exact q
    · have h := just b q
      subst h
      rw [notK q] at e
      cases e
  have md : Mod K mg (hidT st.heap H) := by
    obtain ⟨mc, l1, l2⟩ := lim
    exact ⟨inBase, nsIn names, ⟨mb, nsIn bns, boot⟩, ⟨mc, nsIn l1, l2⟩⟩
  have env0 : Env0 P w K mg (hidT st.heap H) callerA [] st H :=
    ⟨rfl, md, fun b o e => of_hidT e, Nat.le_of_eq (hidT_size _ _), trivial, fun b hb => absurd (show b ∈ ([] : List Addr) from hb) (by simp), ok, .of_eq nogen⟩
  have ran := (F _ inBase (nsIn names)).go callerA [] st H ⟨[.ref a], []⟩ [.ref a] [.ref a] _ _ rfl room env0 (bind1 st (.ref a)) (.cons rfl .nil) (want H only seq)
  refine codeAny_mono ran ?_
  intro r s' h
  match r, h with
  | .error e, h => exact (noX H e s' h).elim
  | .ok (.ret u), h =>
    obtain ⟨v, H', os, bare, un, ok', rv, q⟩ := h
    have q' : v = .bl true := q
    subst q'
    obtain rfl : u = Value.bool true := rv
    refine ⟨rfl, OldK.of_keep ?_, os, bare⟩
    intro b o e
    by_cases q : H b = none
    · exact un.keep b o e q (fun z => absurd (show b ∈ ([] : List Addr) from z) (by simp)) (by simp)
    · rcases only b with z | ⟨ob, xs, z⟩
      · exact absurd z q
      · obtain ⟨e1, _⟩ := ok b _ z
        obtain ⟨e2, _⟩ := ok' b _ (un.frzs b ob _ z)
        rw [e] at e1
        cases e1
        exact e2

/-- the goal that the head leaves, from such a promise of the law's def -/
theorem walkG {l : PySem.W.OpenLaw} {n k : Nat} {q : Program} {loose : List Str} {XP : (Str → Option Value) → Heap → Prop} {YP : World → Heap → Prop} {d : DefRec} {K : Params → PySem.W.Frag} {CX : World → CXT} {sp : World → Sp} {x : Str}
    (h1 : l.most = some n) (h2 : n ≤ sizeLine) (h3 : d.params.defaults = []) (room : Room k callerA) (hY : ∀ (w : World) (h : Heap), YP w h → (K w.params).In h)
    (F : ∀ (w : World) (mg : Str → Option Value) (fa : Addr) (h : Heap), (K w.params).In h → h.Ns mainGlobals mg → mg d.name = some (.ref fa) →
      ∃ fd : FuncData, (∀ (s : Shared) (u : Value), BindsTo s fd ⟨[u], []⟩ [(x, u)]) ∧
        ∀ base : Heap, (K w.params).In base → base.Ns mainGlobals mg → FnG l.prog w (K w.params) mg base (CX w) k fa fd [x] (sp w))
    (want : ∀ (w : World) (H : Hp) (a : Addr) (ns : List Int), ns.length ≤ n → Only H → SqL (K w.params) H a (ns.map V.int) → sp w [.ref a] H (fun v _ => v = .bl true) fun _ _ _ => False)
    (noX : ∀ (w : World) (H : Hp) (s : Shared) (e : Value) (s' : Shared), CX w [] H s (fun _ _ _ => False) e s' → False) :
    PySem.W.WalkO q loose XP YP l.row.toRowW d [] (fun f vs => PySem.call f vs) := by
  apply Att.attach_call h1 h3
  intro w s₀ s₁ mg mb fa o pm cd doc a vs ns G Y ho hd hcd hmg hobj hints hlen hg
  have inK := hY w _ Y
  obtain ⟨fd, hb, hF⟩ := F w mg fa _ inK G.T.g hmg
  exact lawG inK G.T.g G.T.b G.T.builtins G.T.nolimit hg hobj hints (Nat.le_trans hlen h2) room hF hb (fun H hO hS => want w H a ns hlen hO hS) fun H e s' => noX w H s₁ e s'
end Wb

set_option Elab.async false
set_option linter.all false
set_option maxRecDepth 100000
set_option maxHeartbeats 4000000
/-! Wb2: own exceptions as values: made (by position and by name), their field read, isinstance. -/
namespace PySem
namespace WbE
open PySem.W PySem.Calls PyProof.Rows
section
variable {prog : Program} {w : World} {M : Model} {A : Around} {E : Value → Shared → Prop} {R : Result → Shared → Prop} {h : Heap} {g : Array GenState} {d : Drawn} {t : Nat} {os : OsState}
variable {nm q : Str} {C N : Addr} {bs bm bmB : List Value} {hdct : Bool} {sn : List Str} {sub : List Value} {ab : Bool} {col : Option Bool} {dd : Option Addr} {k0 k1 k2 k3 k5 : Option Value} {B newId initId : String}
variable {rest : List Value} {kw : List (Str × Value)}

/-- what is asked of the class's chain: the built-in base is in it, the two bases with members of their own are not -/
structure Chain (bm : List Value) (B : String) : Prop where
  base : bm.contains (.type B) = true
  noA : bm.contains (.type "AttributeError") = false
  noN : bm.contains (.type "NameError") = false

theorem checkNew (F : ExcBaseFacts B newId initId bmB) (ch : Chain bm B) {Q : Unit → Shared → Prop} (atC : h.get? C = some (excClassObj nm q C N bs bm hdct sn sub ab col dd k0 k1 k2 k3 k5 newId))
    (hq : Q () ⟨h, g, d, t, os⟩) : wpAny M A (checkBuiltinCall newId ⟨.ref C :: rest, kw⟩) Q E ⟨h, g, d, t, os⟩ := by
  have inB : (Value.ref C :: bm).contains (.type B) = true := by
    rw [List.contains_cons, ch.base, Bool.or_true]
  have star := F.noStar
  simp only [checkBuiltinCall, F.newKind, F.newSplit, F.newRow]
  repeat (first
    | refine wpAny_loadPart_at atC ?_
    | (refine wpAny_isSubtype_exc atC ?_; rw [inB])
    | refine wpAny_staticBase_exc atC ?_
    | refine wpAny_madeBy_exc atC ?_
    | simp only [bne_self_eq_false, Bool.false_eq_true, if_false]
    | wp_step)
  exact hq

theorem runNew (F : ExcBaseFacts B newId initId bmB) (ch : Chain bm B) (atC : h.get? C = some (excClassObj nm q C N bs bm hdct sn sub ab col dd k0 k1 k2 k3 k5 newId)) (short : rest.length ≤ sizeLine)
    (hq : R (.ok (.ret (.ref (h.objs.size + 1)))) ⟨(h.push (W.kdv_tup rest)).push (HandSPX.excO C h.objs.size), g, d, t, os⟩) :
    codeAny (model prog w) A (.builtin newId ⟨.ref C :: rest, kw⟩) R ⟨h, g, d, t, os⟩ := by
  have ends := F.ends
  have inB : (Value.ref C :: bm).contains (.type B) = true := by
    rw [List.contains_cons, ch.base, Bool.or_true]
  have outA : (Value.ref C :: bm).contains (.type "AttributeError") = false := by
    rw [List.contains_cons, ch.noA]
    rfl
  have outN : (Value.ref C :: bm).contains (.type "NameError") = false := by
    rw [List.contains_cons, ch.noN]
    rfl
  refine codeAny_builtinAt F.entry ?_
  unfold Builtin.«BaseException.__new__»
  apply wpAt_bind
  show wpAt _ _ _ (stack >>= _) _ _ _
  apply wpAt_bind
  apply wpAt_stack
  intro p below
  apply wpAt_of_wpAny
  wp_walk
  apply wpAt_of_wpAny
  rw [F.owner]
  repeat (first
    | with_reducible refine wpAny_madeHere_exc F.canon atC ?_
    | with_reducible refine wpAny_loadPart_at atC ?_
    | (with_reducible refine wpAny_isSubtype_exc atC ?_; first | rw [inB] | rw [outA] | rw [outN])
    | wp_step)
  show R _ _
  rw [Heap.size_push]
  exact hq

theorem runCall (F : ExcBaseFacts B newId initId bmB) (ch : Chain bm B) {iv : Value} {Q : Fin → Shared → Prop} (atC : h.get? C = some (excClassObj nm q C N bs bm hdct sn sub ab col dd k0 k1 k2 k3 k5 newId))
    (lk : W.Looks (model prog w) h (typeLookup (.ref C) "__init__") (some iv)) (bd : ∀ self, W.Looks (model prog w) h (bindSpecial iv self) (iv, [self])) (short : rest.length ≤ sizeLine)
    (hq : codeAny (model prog w) A (.call iv ⟨.ref (h.objs.size + 1) :: rest, kw⟩)
      (fun r s' => match r with
        | .ok (.ret v) => v = .none ∧ Q (.done (.ret (.ref (h.objs.size + 1)))) s'
        | .ok _ => False
        | .error e => E e s')
      ⟨(h.push (W.kdv_tup rest)).push (HandSPX.excO C h.objs.size), g, d, t, os⟩) :
    wpAny (model prog w) A (Builtin.«type.__call__» ⟨.ref C :: rest, kw⟩) Q E ⟨h, g, d, t, os⟩ := by
  repeat (first
    | with_reducible refine wpAny_loadPart_at atC ?_
    | with_reducible refine wpAny_madeBy_exc atC ?_
    | wp_step)
  refine codeAny_call_builtin_code (Code.quiet_builtin _ F.quiet) (checkNew F ch atC ?_)
  refine runNew F ch atC short ?_
  show wpAny _ _ _ _ _ _
  have grown : ∀ b o, h.get? b = some o → ((h.push (W.kdv_tup rest)).push (HandSPX.excO C h.objs.size)).get? b = some o :=
    fun b o e => Heap.get?_push_of_some _ (Heap.get?_push_of_some _ e)
  have atC1 := grown _ _ atC
  have made : ((h.push (W.kdv_tup rest)).push (HandSPX.excO C h.objs.size)).get? (h.objs.size + 1) = some (HandSPX.excO C h.objs.size) := by heap_get
  have self_ : (Value.ref C :: bm).contains (.ref C) = true := by simp
  have lk1 := lk.keeps grown
  have bd1 := (bd (.ref (h.objs.size + 1))).keeps grown
  unfold isInstance
  repeat (first
    | with_reducible refine wpAny_loadPart_at made ?_
    | (with_reducible refine wpAny_isSubtype_exc atC1 ?_; rw [self_])
    | wp_step)
  show wpAny _ _ (typeLookup (.ref C) _) _ _ _
  refine lk1.at ?_
  refine wpAny_holding (wpAny_bind (bd1.at ?_))
  apply wpAny_bind
  refine wpAny_call (codeAny_mono hq ?_)
  intro r s' z
  match r, z with
  | .error e, z => exact z
  | .ok (.ret v), z =>
    obtain ⟨rfl, z⟩ := z
    first
      | exact wpAny_pure (wpAny_pure z)
      | (wp_walk; exact z)

theorem callE (F : ExcBaseFacts B newId initId bmB) (ch : Chain bm B) {iv : Value} (atC : h.get? C = some (excClassObj nm q C N bs bm hdct sn sub ab col dd k0 k1 k2 k3 k5 newId))
    (lk : W.Looks (model prog w) h (typeLookup (.ref C) "__init__") (some iv)) (bd : ∀ self, W.Looks (model prog w) h (bindSpecial iv self) (iv, [self])) (short : rest.length ≤ sizeLine)
    (hq : codeAny (model prog w) (A.under (.builtin "type.__call__" ⟨.ref C :: rest, kw⟩)) (.call iv ⟨.ref (h.objs.size + 1) :: rest, kw⟩) (W.InitBack (h.objs.size + 1) R)
      ⟨(h.push (W.kdv_tup rest)).push (HandSPX.excO C h.objs.size), g, d, t, os⟩) :
    codeAny (model prog w) A (.call (.ref C) ⟨rest, kw⟩) R ⟨h, g, d, t, os⟩ := by
  have e1 := tc_lookup
  have e2 := tc_bind (.ref C)
  have isT : (⟨h, g, d, t, os⟩ : Shared).TypeIs (.ref C) "type" := ⟨_, atC, rfl⟩
  apply codeAny_of_tree
  show wpAny _ _ (callAny (.ref C) _) _ _ _
  repeat (any_goals (first
    | assumption
    | with_reducible refine wpAny_loadPart_at atC ?_
    | wp_step))
  refine ⟨rfl, ?_⟩
  refine codeAny_call_builtin_at (Code.quiet_builtin _ (by decide +kernel)) entry_typeCall ?_
  refine wpAny_check_type_call_sub atC ?_
  refine runCall F ch atC lk bd short (codeAny_mono hq ?_)
  intro r s' z
  match r, z with
  | .error e, z => exact z
  | .ok (.ret v), z => exact z
end
end WbE
end PySem

set_option Elab.async false
set_option linter.all false
set_option maxRecDepth 100000
set_option maxHeartbeats 4000000
/-! Wb3: own exceptions as tracked values. -/
namespace PySem.F
theorem storeKeyError : StoreFacts "KeyError"
    [.type "KeyError", .type "LookupError", .type "Exception", .type "BaseException", .type "object"]
    "object.__setattr__" "object" := by
  refine ⟨by kernel_rfl, ?_, entry_object_sa, by decide +kernel, by decide +kernel, by decide +kernel, ?_, fun _ => by kernel_rfl⟩
  · refine .of (owner := "object") (n := "__setattr__") ?_ (by decide +kernel) (by decide +kernel) (by decide +kernel) ?_ ?_
    · rw [typeLookup_type, builtinLookup_eq_fast]
      kernel_rfl
    · first
        | exact .inl (by decide +kernel)
        | exact .inr (by decide +kernel)
    · rw [isSubtype_type]
      kernel_rfl
  · intro a b c
    unfold argsOk
    kernel_rfl
end PySem.F
namespace PySem
namespace WbE
open PySem.W PySem.Calls PyProof.Rows
section
open Builtin Builtin.ObjectAttr
variable {prog : Program} {w : World} {A : Around} {R : Result → Shared → Prop} {hp : Heap} {g : Array GenState} {d : Drawn} {t : Nat} {os : OsState}
/-- the first field of an exception of an own class, whatever its built-in base -/
theorem setFirst {S : String} {bmS : List Value} {K : W.Frag} {name : Str} {tk : Tok} {v : Value} {x C : Addr} {fv : Array Value} {cd : ClassData} (SF : StoreFacts S bmS "object.__setattr__" "object")
    (X : K.In hp) (hx : hp.get? x = some { cls := .ref C, data := .fields fv }) (hcd : W.clsIn K C = some cd) (hd : cd.hasDict = true) (over : excOver K C bmS = true) (no : W.findIn K (.ref C) name = some none)
    (hq : ∀ h' tk' dx, (∀ b o, b ≠ x → hp.get? b = some o → h'.get? b = some o) → hp.objs.size ≤ dx → dx ≠ x →
      h'.get? x = some { cls := .ref C, dict := some dx, data := .fields fv } → h'.Ns1 dx (fun y => if y = name then some v else none) → R (.ok (.ret .none)) ⟨h', g, d, tk', os⟩) :
    codeAny (model prog w) A (.call (.builtin "object.__setattr__") ⟨[.ref x, .str name tk, v], []⟩) R ⟨hp, g, d, t, os⟩ := by
  have at_ : W.InstAt hp x { cls := .ref C, data := .fields fv } C none := ⟨hx, rfl, rfl, trivial⟩
  have ne : x ≠ hp.objs.size := Nat.ne_of_lt (Heap.lt_size hx)
  have look : W.Looks (model prog w) hp (classData C) cd := W.looks_clsIn X hcd
  have taker : W.takerIn K C name = some none := by
    unfold W.takerIn
    rw [no]
    rfl
  refine W.osa_openX (s := ⟨hp, g, d, t, os⟩) SF X at_ over taker fun b => ?_
  obtain ⟨c1, c2, c3, c4, c5, hasD, c7, c8, c9, c10, c11⟩ := cd
  dsimp only at hd
  subst hd
  unfold storeInOwnDict ownDictForStores
  repeat (first
    | with_reducible refine HandSPX.store_in_new ?_ ?_
    | with_reducible refine wpAny_loadPart_at hx ?_
    | with_reducible refine look.at ?_
    | wp_step)
  · exact ⟨_, #[], _, (Heap.get?_update_ne _ _ _ _ ne.symm).trans (Heap.get?_push_at rfl rfl), rfl, fun e he => absurd he (by simp), fun _ => rfl⟩
  · intro h' tk' ns' same
    have pushed : (hp.push { cls := .type "dict", data := .dict #[] }).get? x = some { cls := .ref C, data := .fields fv } := Heap.get?_push_of_some _ hx
    refine hq h' tk' hp.objs.size ?_ (Nat.le_refl _) ne.symm ?_ ns'
    · intro b o hb ho
      rw [same.2 b (Nat.ne_of_lt (Heap.lt_size ho)), Heap.get?_update_ne _ _ _ _ hb]
      exact Heap.get?_push_of_some _ ho
    · rw [same.2 x ne]
      exact Heap.get?_update_self _ pushed rfl
end
end WbE
end PySem

namespace Wb
open PySem PySem.Spec PyProof.Rows L2
/-- what the written part says of an own exception's class at C: made by newId (of the built-in B), the fields stored as S's chain stores them -/
structure ErrC (K : PySem.W.Frag) (C : Addr) : Prop where
  new : ∃ (B newId initId : String) (bmB : List Value) (nm q : Str) (N : Addr) (bs bm : List Value) (sn : List Str) (sub : List Value) (ab : Bool) (col : Option Bool) (dd : Option Addr) (k0 k1 k2 k3 k5 : Option Value),
    PySem.ExcBaseFacts B newId initId bmB ∧ PySem.WbE.Chain bm B ∧ K.lookup C = some (excClassObj nm q C N bs bm true sn sub ab col dd k0 k1 k2 k3 k5 newId)
  store : ∃ (S : String) (bmS : List Value), PySem.StoreFacts S bmS "object.__setattr__" "object" ∧ PySem.W.excOver K C bmS = true
  sa : PySem.W.findIn K (.ref C) "__setattr__" = some (some (.builtin "object.__setattr__"))
  ga : PySem.W.findIn K (.ref C) "__getattribute__" = some (some (.builtin "BaseException.__getattribute__"))
  gg : PySem.W.findIn K (.ref C) "__getattr__" = some none
  exc : PySem.W.subIn K (.ref C) (.type "BaseException") = some true
  ty : PySem.W.typeIn K (.ref C) = some (.type "type")
  hd : PySem.W.hasDictIn K C = true
  kp : PySem.W.keepIn K (.ref C) = true
  hc : PySem.W.findIn K (.ref C) "__class__" = some (some (.builtin "object.__class__"))
  hn : PySem.W.specialIn K (.builtin "object.__class__") "__get__" = some (some (.builtin "getset_descriptor.__get__"))
  ht : PySem.W.takesIn K (.builtin "object.__class__") = some true
  hm : PySem.W.mroIn K C (.type "object") = some true

section
variable {X : Cx} {pins : List (Addr × Obj)} {σ : L2.St} {H : Hp} {s : Shared} {a C dx fI : Addr} {f : Str} {y v : V} {u : Value} {fs : List (Str × V)} {A : Around} {k : Nat}
/-- self.f = y in an __init__, the first field -/
theorem setNew {Q : Unit → Shared → Prop} {E : Value → Shared → Prop} (T : ErrC X.K C) (I : Inv X pins σ H s) (e : H a = some (exo a C none)) (no : PySem.W.findIn X.K (.ref C) f = some none) (ry : RelV y u)
    (h : ∀ dx s', H dx = none → dx ≠ a → Inv X pins σ (upd (upd H dx (exd dx [(f, y)])) a (exo a C (some dx))) s' → Q () s') : wpAny (model X.prog X.w) A (setAttr (.ref a) f u) Q E s := by
  obtain ⟨B, newId, initId, bmB, nm, q, N, bs, bm, sn, sub, ab, col, dd, k0, k1, k2, k3, k5, _, _, atC⟩ := T.new
  obtain ⟨S, bmS, SF, over⟩ := T.store
  have cls : PySem.W.clsIn X.K C = some { name := nm, bases := bs, mro := .ref C :: bm, ns := N, qualname := q, hasDict := true, slotNames := sn, subclasses := sub, abstract := ab, collection := col, hasDel := false } := by
    unfold PySem.W.clsIn
    rw [atC] <;> rfl
  obtain ⟨t1, ho⟩ := exo_at I.hok e
  obtain ⟨hp, g, d, t, os⟩ := s
  refine PySem.W.set_plain I.kIn (ox := { cls := .ref C, dict := none, data := .fields #[.ref t1, .none, .none, .none, .bool false, .none] }) (od := none) ⟨ho, rfl, rfl, trivial⟩ T.sa ?_
  refine PySem.WbE.setFirst SF I.kIn ho cls rfl over no ?_
  intro h' tk' dx kept big ne hx ns'
  have free : H dx = none := I.hok.fresh big
  have old : ∀ {b : Addr} {o : Obj}, hp.get? b = some o → b ≠ dx := fun {b o} z => Nat.ne_of_lt (Nat.lt_of_lt_of_le (Heap.lt_size z) big)
  have notA : ∀ {b : Addr}, H b = none → b ≠ a := by
    intro b n z
    rw [z, e] at n
    cases n
  have un : Un X.fs [] H (upd (upd H dx (exd dx [(f, y)])) a (exo a C (some dx))) hp h' := by
    constructor
    · exact fun b o z n _ _ => kept b o (notA n) z
    · exact fun b o z n _ _ => ⟨o.slots, kept b o (notA n) z⟩
    · intro b o z n _
      rw [upd_ne (notA n), upd_ne (old z)]
      exact n
    · intro b o z _
      by_cases hb : b = a
      · exact ⟨_, by rw [hb]; exact hx⟩
      · exact ⟨o, kept b o hb z⟩
    · intro b xs z
      rw [upd_ne (at_ne e z exo_tup), upd_ne (ne_of_none z free)]
      exact z
    · intro b o w z
      rw [upd_ne (at_ne e z exo_frz), upd_ne (ne_of_none z free)]
      exact z
    · intro b ps z
      refine ⟨#[], ?_⟩
      rw [upd_ne (at_ne e z exo_tbl), upd_ne (ne_of_none z free), z]
      simp
  refine h dx _ free ne (I.un (t' := tk') un ?_)
  intro b o z
  by_cases hb : b = a
  · subst hb
    rw [upd_same] at z
    cases z
    exact exo_ok hx
  rw [upd_ne hb] at z
  by_cases hb2 : b = dx
  · subst hb2
    rw [upd_same] at z
    cases z
    exact exd_ok ns' (relO_put (fs := []) ry fun g => True.intro)
  rw [upd_ne hb2] at z
  refine (I.hok b o z).stay ?_ ?_ ?_
  · intro c w hc z2
    refine kept c w ?_ z2
    rcases hc with hc | hc
    · rw [hc]; exact hb
    · exact at_ne e hc exo_own
  · intro c hc
    rw [upd_ne (at_ne e hc exo_own), upd_ne (ne_of_none hc free)]
    exact hc
  · intro c xs hc
    rw [upd_ne (at_ne e hc exo_tup), upd_ne (ne_of_none hc free)]
    exact hc

/-- C(..), C(k = ..) with C's own __init__: an exception at a new address -/
theorem runErr {CX : CXT} {fd : FuncData} {ps : List Str} {sp : Sp} {us : List Value} {kw : List (Str × Value)} {vs : List V} {binds : List Value} {Q : VK} (T : ErrC X.K C) (iC : PySem.W.findIn X.K (.ref C) "__init__" = some (some (.ref fI)))
    (tI : PySem.W.typeIn X.K (.ref fI) = some (.type "function")) (F1 : FnOk X.prog X.w X.K X.mg X.base CX k fI fd ps sp) (room : Room (k + 1) X.A) (hx : Passes CX X (fun _ _ _ => False)) (I : Inv X pins σ H s) (short : us.length ≤ sizeLine)
    (bind : ∀ (s' : Shared) (a : Addr), X.K.In s'.heap → BindsTo s' fd ⟨.ref a :: us, kw⟩ (ps.zip (.ref a :: binds))) (rel : Vals vs binds)
    (h : ∀ a, H a = none → sp (.ref a :: vs) (upd H a (exo a C none)) (fun v H2 => v = .non ∧ Q (.ref a) H2) (fun _ _ _ => False)) :
    wpAny (model X.prog X.w) X.A (call (.ref C) us kw) (EP X pins σ Q) X.xe s := by
  obtain ⟨B, newId, initId, bmB, nm, q, N, bs, bm, sn, sub, ab, col, dd, k0, k1, k2, k3, k5, FB, ch, atC⟩ := T.new
  obtain ⟨hp, g, dr, tk, os⟩ := s
  have le1 : hp.objs.size ≤ hp.objs.size + 1 := Nat.le_succ _
  have free : H (hp.objs.size + 1) = none := I.hok.fresh le1
  have want := h _ free
  have grown : ∀ b o, hp.get? b = some o → ((hp.push (PySem.W.kdv_tup us)).push (PySem.HandSPX.excO C hp.objs.size)).get? b = some o :=
    fun b o e => Heap.get?_push_of_some _ (Heap.get?_push_of_some _ e)
  have made : ((hp.push (PySem.W.kdv_tup us)).push (PySem.HandSPX.excO C hp.objs.size)).get? (hp.objs.size + 1) = some (PySem.HandSPX.excO C hp.objs.size) := by heap_get
  have I2 : Inv X pins σ (upd H (hp.objs.size + 1) (exo (hp.objs.size + 1) C none)) ⟨(hp.push (PySem.W.kdv_tup us)).push (PySem.HandSPX.excO C hp.objs.size), g, dr, tk, os⟩ :=
    I.laid (t' := tk) (a := hp.objs.size + 1) (o := exo (hp.objs.size + 1) C none) (h' := (hp.push (PySem.W.kdv_tup us)).push (PySem.HandSPX.excO C hp.objs.size)) grown le1 (exo_ok made)
  have rel2 : Vals (V.ref (hp.objs.size + 1) :: vs) (Value.ref (hp.objs.size + 1) :: binds) := .cons rfl rel
  apply wpAny_call
  refine PySem.WbE.callE (iv := .ref fI) FB ch (I.kIn _ _ atC) (PySem.W.looks_findIn I.kIn iC) (fun self => PySem.W.bind_fn I.kIn self tI) short ?_
  refine codeAny_mono (F1.run _ X.stack _ _ ⟨Value.ref (hp.objs.size + 1) :: us, kw⟩ (Value.ref (hp.objs.size + 1) :: binds) _ _ (fun _ _ _ => False) (room.make C us kw) (I2.env0.make C us kw) (bind _ _ I2.kIn) rel2 want) ?_
  intro r s' got
  match r, got with
  | .error er, got => exact hx pins σ _ _ er s' I2 got
  | .ok (.ret u), got =>
    obtain ⟨v, H', I3, rv, ev, q3⟩ := I2.after got
    subst ev
    exact ⟨rv, ⟨V.ref (hp.objs.size + 1), H', I3, rfl, q3⟩⟩
end
end Wb

set_option Elab.async false
set_option linter.all false
set_option maxRecDepth 100000
set_option maxHeartbeats 4000000
/-! Wb4: the rules over them. -/
namespace Wb
open PySem PySem.Spec PyProof.Rows L2

theorem upd_mid {H : Hp} {a d : Addr} {o p q : HO} : upd (upd (upd H a o) d p) a q = upd (upd H d p) a q := by
  funext b
  unfold upd
  by_cases h : b = a
  · rw [if_pos h, if_pos h]
  · rw [if_neg h, if_neg h]
    by_cases h2 : b = d
    · rw [if_pos h2, if_neg h]
    · rw [if_neg h2, if_neg h]

/-- self.f = e of an exception's __init__ -/
def tIni (K : PySem.W.Frag) (f : Str) (to te : TE) : TS := fun D σ H => te σ H fun y H1 => to σ H1 fun x H2 =>
  ∃ a C : Addr, x = .ref a ∧ ErrC K C ∧ PySem.W.findIn K (.ref C) f = some none ∧ H2 a = some (exo a C none) ∧
    ∀ dx, H2 dx = none → dx ≠ a → D.nx σ (upd (upd H2 dx (exd dx [(f, y)])) a (exo a C (some dx)))
/-- err.f -/
def tEFld (K : PySem.W.Frag) (f : Str) (to : TE) : TE := fun σ H Q => to σ H fun x H1 =>
  ∃ (a C dx : Addr) (fs : List (Str × V)) (v : V), x = .ref a ∧ H1 a = some (exo a C (some dx)) ∧ H1 dx = some (exd dx fs) ∧ ErrC K C ∧ PySem.W.findIn K (.ref C) f = some none ∧ fs.lookup f = some v ∧ Q v H1
/-- isinstance(err, c) -/
def rIsErr (K : PySem.W.Frag) : List V → Hp → VK → Prop := fun xs H Q =>
  ∃ (a C : Addr) (od : Option Addr) (c : V) (cu : Value) (b : Bool), xs = [.ref a, c] ∧ H a = some (exo a C od) ∧ (∀ dx, od = some dx → ∃ fs, H dx = some (exd dx fs)) ∧ ErrC K C ∧ ClsV c cu ∧
    PySem.W.kitOne K (.ref C) cu = some b ∧ Q (.bl b) H
/-- C(v): an exception at a, its dict at dx -/
def tErr (C : Addr) (f : Str) (ta : TA) : TE := fun σ H Q => ta σ H fun vs H1 =>
  ∃ v, vs = [v] ∧ ∀ a dx, H1 a = none → H1 dx = none → dx ≠ a → Q (.ref a) (upd (upd H1 dx (exd dx [(f, v)])) a (exo a C (some dx)))
/-- the same, to be raised -/
def tErrX (C : Addr) (f : Str) (ta : TA) : L2.St → Hp → XK → Prop := fun σ H Q => ta σ H fun vs H1 =>
  ∃ v, vs = [v] ∧ ∀ dx, H1 dx = none → Q (.ref C) (some dx) (upd H1 dx (.xd [(f, v)]))
/-- __init__(self, f): self.f = f -/
def spIni (C : Addr) (f : Str) : Sp := fun vs H Q _ => ∃ (a : Addr) (v : V), vs = [.ref a, v] ∧ H a = some (exo a C none) ∧
  ∀ dx, H dx = none → dx ≠ a → Q .non (upd (upd H dx (exd dx [(f, v)])) a (exo a C (some dx)))
/-- __init__(self): pass -/
def spIni0 : Sp := fun vs H Q _ => ∃ a : Addr, vs = [.ref a] ∧ Q .non H

section
variable {X : Cx} {o e : Expr} {es : List Expr} {kws : List Keyword} {to te : TE} {ta : TA} {f x : Str} {p p' pos : Pos} {C fI : Addr} {fd : FuncData} {CX : CXT} {k : Nat}
theorem ps_ini (ho : PE X o to) (he : PE X e te) (hs : swapsWith e (some (.Attribute o f p')) pos.line X.env = pure false := by rfl) : PS X (.Assign [.Attribute o f p'] e pos) (tIni X.K f to te) := by
  constructor
  intro pins s σ H D I h
  refine plainObj_wpAny_Assign_Attribute (thn (he.run pins s σ H _ I h) ?_) hs
  rintro v s1 ⟨y, H1, I1, ry, q1⟩
  refine thn (ho.run pins s1 σ H1 _ I1 q1) ?_
  rintro u s2 ⟨x, H2, I2, rx, a, C, rfl, T, no, ea, q⟩
  obtain rfl : u = Value.ref a := rx
  exact setNew T I2 ea no ry fun dx s' n ne J => ⟨σ, _, J, q dx n ne⟩

theorem readErr {pins : List (Addr × Obj)} {σ : L2.St} {H : Hp} {s : Shared} {a dx : Addr} {fs : List (Str × V)} {v : V} {b : Bool} {A : Around} {Q : Value → Shared → Prop} {E : Value → Shared → Prop} (T : ErrC X.K C) (I : Inv X pins σ H s) (ea : H a = some (exo a C (some dx)))
    (ed : H dx = some (exd dx fs)) (no : PySem.W.findIn X.K (.ref C) f = some none) (l : fs.lookup f = some v) (h : ∀ u t', RelV v u → Q u { s with toks := t' }) : wpAny (model X.prog X.w) A (getAttr (.ref a) f b) Q E s := by
  obtain ⟨t1, ho⟩ := exo_at I.hok ea
  obtain ⟨mA, hns, rel⟩ := exd_at I.hok ed
  obtain ⟨od, hod, look⟩ := lookIn_ns hns
  obtain ⟨u, hu, ru⟩ := RelO.some_of (v := v) (o := mA f) (by rw [← l]; exact rel f)
  exact PySem.HandSPX.exc_get (od := some od) I.kIn ⟨ho, rfl, rfl, hod⟩ T.ga T.gg T.exc (PySem.W.findObj_own T.hd no rfl (by rw [look, hu])) (handed_of ru) (h u _ ru)

theorem pe_efld (ho : PE X o to) (hb : attributeBase o f X.env (eval o X.env) = eval o X.env := by rfl) : PE X (.Attribute o f pos) (tEFld X.K f to) := by
  constructor
  intro pins s σ H Q I h
  refine attr_of hb (thn (ho.run pins s σ H _ I h) ?_)
  rintro u s1 ⟨x, H1, I1, rx, a, C, dx, fs, v, rfl, ea, ed, T, no, l, q⟩
  obtain rfl : u = Value.ref a := rx
  exact readErr T I1 ea ed no l fun w t' rw' => ⟨v, H1, I1.tok t', rw', q⟩

theorem call_isErr : CallR X (.builtin "isinstance") (rIsErr X.K) := by
  intro pins s σ H xs us Q I r h
  obtain ⟨a, C, od, c, cu, b, rfl, ea, hod, T, kc, ek, q⟩ := h
  obtain ⟨u1, u2, rfl, r1, r2⟩ := vals2 r
  obtain rfl : u1 = Value.ref a := r1
  have e2 := kc.eq r2
  subst e2
  obtain ⟨t1, ho⟩ := exo_at I.hok ea
  have cls : (PySem.W.clsIn X.K C).isSome = true := by
    obtain ⟨cd, hcd, _⟩ := PySem.W.any_some T.hd
    rw [hcd]
    rfl
  have fin : ∀ tk, EP X pins σ Q (.bool b) { s with toks := tk } := fun tk => ⟨.bl b, H, I.tok tk, rfl, q⟩
  cases od with
  | none =>
    exact PySem.W.kia_one (PySem.W.kitx_exc (od := none) cls T.ga T.gg T.exc T.hc T.hn T.ht T.hm) I.kIn (⟨ho, rfl, rfl, trivial⟩ : PySem.W.InstAt s.heap a _ C none) ek (fun z => nomatch z) fin
  | some dx =>
    obtain ⟨fs, ed⟩ := hod dx rfl
    obtain ⟨mA, hns, _⟩ := exd_at I.hok ed
    obtain ⟨od, hod, _⟩ := lookIn_ns hns
    exact PySem.W.kia_one (PySem.W.kitx_exc (od := some od) cls T.ga T.gg T.exc T.hc T.hn T.ht T.hm) I.kIn (⟨ho, rfl, rfl, hod⟩ : PySem.W.InstAt s.heap a _ C (some od)) ek (fun z => nomatch z) fin

/-- C(e) -/
theorem pe_err (T : ErrC X.K C) (iC : PySem.W.findIn X.K (.ref C) "__init__" = some (some (.ref fI))) (tI : PySem.W.typeIn X.K (.ref fI) = some (.type "function")) {ps : List Str} (F1 : FnOk X.prog X.w X.K X.mg X.base CX k fI fd ps (spIni C f)) (room : Room (k + 1) X.A)
    (hb : Binds X.K fd ps []) (hx : Passes CX X (fun _ _ _ => False)) (hg : Gl X x) (hm : X.mg x = some (.ref C)) (ha : PA X (e :: es) ta) (hdb : (x == ("__debug__" : Str)) = false := by decide)
    (he : starEach (e :: es) X.env = (false, eval e X.env) :: starEach es X.env := by rfl) (hpl : (backTo pos (starEach es X.env)).any (·.1) = false := by rfl) : PE X (.Call (.Name x p) (e :: es) [] pos) (tErr C f ta) := by
  constructor
  intro pins s σ H Q I h
  apply wpAny_Call_Name_kw
  apply ld_glob I hg hm _ hdb
  refine PySem.W.callWith_K (h₀ := X.base) I.ok.mod.kin T.kp (thn (ha.run pos pins s σ H _ I h) ?_) he hpl
  rintro us s1 ⟨vs, H1, I1, r1, v, rfl, q⟩
  refine ⟨I1.kIn, ?_⟩
  show wpAny _ _ (call (.ref C) us) _ _ _
  have want : ∀ a : Addr, H1 a = none → spIni C f (.ref a :: [v]) (upd H1 a (exo a C none)) (fun v H2 => v = .non ∧ Q (.ref a) H2) (fun _ _ _ => False) := by
    intro a ha
    refine ⟨a, v, rfl, upd_same, fun dx hd ne => ⟨rfl, ?_⟩⟩
    rw [upd_mid]
    rw [upd_ne ne] at hd
    exact q a dx ha hd ne
  have many : ∀ a : Addr, (Value.ref a :: us).length = ps.length := by
    intro a
    obtain ⟨n0, hn0⟩ : ∃ n0, H1 n0 = none := ⟨s1.heap.objs.size, I1.hok.fresh (Nat.le_refl _)⟩
    have e1 := F1.len _ _ _ _ (want n0 hn0)
    have e2 := r1.length
    simp only [List.length_cons] at e1 e2 ⊢
    omega
  refine runErr T iC tI F1 room hx I1 (binds := us) (vs := [v]) ?_ ?_ r1 want
  · rw [← r1.length, sizeLine_eq]
    simp
  · intro s' a inK
    have q2 := hb s' (.ref a :: us) inK (by rw [List.append_nil]; exact many a)
    rw [List.append_nil] at q2
    exact q2

/-- C(f = e) -/
theorem pe_errK {g : Str} {kpos : Pos} (T : ErrC X.K C) (iC : PySem.W.findIn X.K (.ref C) "__init__" = some (some (.ref fI))) (tI : PySem.W.typeIn X.K (.ref fI) = some (.type "function")) {s0 : Str} (F1 : FnOk X.prog X.w X.K X.mg X.base CX k fI fd [s0, g] (spIni C f)) (room : Room (k + 1) X.A)
    (hb : ∀ (s' : Shared) (a v : Value), BindsTo s' fd ⟨[a], [(g, v)]⟩ [(s0, a), (g, v)]) (hx : Passes CX X (fun _ _ _ => False)) (hg : Gl X x) (hm : X.mg x = some (.ref C)) (he : PE X e te) (hdb : (x == ("__debug__" : Str)) = false := by decide) :
    PE X (.Call (.Name x p) [] [⟨some g, e, kpos⟩] pos) (tErr C f (tCons te tNil)) := by
  constructor
  intro pins s σ H Q I h
  apply wpAny_Call_Name_kw
  apply ld_glob I hg hm _ hdb
  have pk : PK X [⟨some g, e, kpos⟩] (tCons te tNil) := pk_cons he pk_nil
  refine PySem.W.callWith_KW0 (h₀ := X.base) I.ok.mod.kin T.kp (by rfl) (thn (pk.run pos pins s σ H _ I h) ?_)
  rintro us s1 ⟨vs, H1, I1, r1, v, rfl, q⟩
  refine ⟨I1.kIn, ?_⟩
  have want : ∀ a : Addr, H1 a = none → spIni C f (.ref a :: [v]) (upd H1 a (exo a C none)) (fun v H2 => v = .non ∧ Q (.ref a) H2) (fun _ _ _ => False) := by
    intro a ha
    refine ⟨a, v, rfl, upd_same, fun dx hd ne => ⟨rfl, ?_⟩⟩
    rw [upd_mid]
    rw [upd_ne ne] at hd
    exact q a dx ha hd ne
  cases r1 with
  | cons rv rn =>
  cases rn
  rename_i u
  refine runErr (us := []) (kw := [(g, u)]) T iC tI F1 room hx I1 (binds := [u]) (vs := [v]) (by rw [sizeLine_eq]; simp) ?_ (.cons rv .nil) want
  intro s' a inK
  exact hb s' _ _
end
end Wb

set_option Elab.async false
set_option linter.all false
set_option maxRecDepth 100000
set_option maxHeartbeats 4000000
/-! Wb5: own exceptions raised; those whose __init__ does nothing; those without one. -/
namespace Wb
open PySem PySem.Spec PyProof.Rows L2

section
variable {X : Cx} {e : Expr} {es : List Expr} {te : TE} {ta : TA} {f x : Str} {p p' pos : Pos} {C fI : Addr} {fd : FuncData} {CX : CXT} {k : Nat}
theorem untracked' {H : Hp} {a dx : Addr} {o o' u : HO} {z : HO} (ha : H a = none) (ne : dx ≠ a) : upd (del (upd (upd (upd H a o) dx u) a o') a) dx z = upd H dx z := by
  funext b
  unfold upd del
  by_cases h : b = dx
  · rw [if_pos h, if_pos h]
  · rw [if_neg h, if_neg h]
    by_cases h2 : b = a
    · rw [if_pos h2, h2, ha]
    · rw [if_neg h2]
      show (if b = a then some o' else if b = dx then some u else if b = a then some o else H b) = H b
      rw [if_neg h2, if_neg h, if_neg h2]

/-- C(e), to be raised -/
theorem pmk_err (T : ErrC X.K C) (iC : PySem.W.findIn X.K (.ref C) "__init__" = some (some (.ref fI))) (tI : PySem.W.typeIn X.K (.ref fI) = some (.type "function")) {ps : List Str} (F1 : FnOk X.prog X.w X.K X.mg X.base CX k fI fd ps (spIni C f)) (room : Room (k + 1) X.A)
    (hb : Binds X.K fd ps []) (hx : Passes CX X (fun _ _ _ => False)) (hg : Gl X x) (hm : X.mg x = some (.ref C)) (ha : PA X (e :: es) ta) (hdb : (x == ("__debug__" : Str)) = false := by decide)
    (he : starEach (e :: es) X.env = (false, eval e X.env) :: starEach es X.env := by rfl) (hpl : (backTo pos (starEach es X.env)).any (·.1) = false := by rfl) : PMk X (.Call (.Name x p) (e :: es) [] pos) (tErrX C f ta) := by
  intro pins s σ H Q I h
  obtain ⟨B, newId, initId, bmB, nm, q, N, bs, bm, sn, sub, ab, col, dd, k0, k1, k2, k3, k5, FB, ch, atC⟩ := T.new
  apply wpAny_Call_Name_kw
  apply ld_glob I hg hm _ hdb
  refine PySem.W.callWith_K (h₀ := X.base) I.ok.mod.kin T.kp (thn (ha.run pos pins s σ H _ I h) ?_) he hpl
  rintro us s1 ⟨vs, H1, I1, r1, v, rfl, q1⟩
  refine ⟨I1.kIn, ?_⟩
  show wpAny _ _ (call (.ref C) us) _ _ _
  obtain ⟨hp, g, dr, tk, os⟩ := s1
  have le1 : hp.objs.size ≤ hp.objs.size + 1 := Nat.le_succ _
  have free : H1 (hp.objs.size + 1) = none := I1.hok.fresh le1
  have want : spIni C f (.ref (hp.objs.size + 1) :: [v]) (upd H1 (hp.objs.size + 1) (exo (hp.objs.size + 1) C none))
      (fun r H2 => r = .non ∧ ∃ d : Addr, H2 (hp.objs.size + 1) = some (exo (hp.objs.size + 1) C (some d)) ∧ H2 d = some (exd d [(f, v)]) ∧ H1 d = none ∧ Q (.ref C) (some d) (upd (del H2 (hp.objs.size + 1)) d (.xd [(f, v)]))) (fun _ _ _ => False) := by
    refine ⟨_, v, rfl, upd_same, fun dx hd ne => ⟨rfl, dx, upd_same, ?_, ?_, ?_⟩⟩
    · rw [upd_ne ne, upd_same]
    · rw [upd_ne ne] at hd
      exact hd
    · rw [untracked' free ne]
      rw [upd_ne ne] at hd
      exact q1 dx hd
  have grown : ∀ b o, hp.get? b = some o → ((hp.push (PySem.W.kdv_tup us)).push (PySem.HandSPX.excO C hp.objs.size)).get? b = some o :=
    fun b o z => Heap.get?_push_of_some _ (Heap.get?_push_of_some _ z)
  have made : ((hp.push (PySem.W.kdv_tup us)).push (PySem.HandSPX.excO C hp.objs.size)).get? (hp.objs.size + 1) = some (PySem.HandSPX.excO C hp.objs.size) := by heap_get
  have I2 : Inv X pins σ (upd H1 (hp.objs.size + 1) (exo (hp.objs.size + 1) C none)) ⟨(hp.push (PySem.W.kdv_tup us)).push (PySem.HandSPX.excO C hp.objs.size), g, dr, tk, os⟩ :=
    I1.laid (t' := tk) (a := hp.objs.size + 1) (o := exo (hp.objs.size + 1) C none) (h' := (hp.push (PySem.W.kdv_tup us)).push (PySem.HandSPX.excO C hp.objs.size)) grown le1 (exo_ok made)
  have rel2 : Vals (V.ref (hp.objs.size + 1) :: [v]) (Value.ref (hp.objs.size + 1) :: us) := .cons rfl r1
  have many : (Value.ref (hp.objs.size + 1) :: us).length = ps.length := rel2.length.symm.trans (F1.len _ _ _ _ want)
  have short : us.length ≤ sizeLine := by
    rw [← r1.length, sizeLine_eq]
    simp
  have hb2 := hb ⟨(hp.push (PySem.W.kdv_tup us)).push (PySem.HandSPX.excO C hp.objs.size), g, dr, tk, os⟩ (Value.ref (hp.objs.size + 1) :: us) I2.kIn (by rw [List.append_nil]; exact many)
  rw [List.append_nil] at hb2
  apply wpAny_call
  refine PySem.WbE.callE (iv := .ref fI) FB ch (I1.kIn _ _ atC) (PySem.W.looks_findIn I1.kIn iC) (fun self => PySem.W.bind_fn I1.kIn self tI) short ?_
  refine codeAny_mono (F1.run _ X.stack _ _ ⟨Value.ref (hp.objs.size + 1) :: us, []⟩ (Value.ref (hp.objs.size + 1) :: us) _ _ (fun _ _ _ => False) (room.make C us []) (I2.env0.make C us []) hb2 rel2 want) ?_
  intro r s' got
  match r, got with
  | .error er, got => exact hx pins σ _ _ er s' I2 got
  | .ok (.ret u), got =>
    obtain ⟨r, H2, os2, bare2, un2, ok2, rv, ev, d, ea, ed, hd1, q2⟩ := got
    subst ev
    obtain ⟨h2, g2, d2, t2, os'⟩ := s'
    exact ⟨rv, mk_end (raises_own T.exc T.ty) I1 le1 grown un2 ok2 os2 bare2 ea ed hd1 q2⟩
end

/-! ### an __init__ that does nothing -/
section
variable {prog : Program} {w : World} {A : Around} {R : Result → Shared → Prop} {s : Shared} {K : PySem.W.Frag}
theorem idle {qual : Str} {st : Stmt} {fI : Addr} {fd : FuncData} {pp : Pos} {x : Value} (inK : K.In s.heap) (lim : s.heap.NoLimit) (F : Fun K "__init__" qual st fI fd) (body : defBody st = [.Pass pp])
    (S : FnScope ["self"] ["self"] (defScope st)) (loc : (defScope st).names.lookup ("self" : Str) = some NameKind.local) (bind : BindsTo s fd ⟨[x], []⟩ [("self", x)]) (room : A.depth < recursionLimit)
    (hq : ∀ h' tk, (∀ b o, s.heap.get? b = some o → h'.get? b = some o) → R (.ok (.ret .none)) { s with heap := h', toks := tk }) :
    codeAny (model prog w) A (.call (.ref fI) ⟨[x], []⟩) R s := by
  obtain ⟨a1, a2, a3, a4, a5, a6, cdv, a8, a9, rfl, found, coded⟩ := F.ex
  refine Att.call_fn inK lim found coded room bind ?_ ?_ S.co S.gen S.kind
  · simp [loc]
  · intro s1 ic
    obtain ⟨h1, tk1, rfl⟩ := ic.toInCall.same
    rw [body]
    refine wpAny_execs_cons (wpAny_Pass ?_)
    exact wpAny_execs_nil (hq h1 tk1 ic.toInCall.keep)
end
section
variable {X : Cx} {f x : Str} {p pos : Pos} {C fI : Addr} {fd : FuncData} {k : Nat}
/-- C(): an exception at a new address -/
def tErr0 (C : Addr) : TE := fun _ H Q => ∀ a, H a = none → Q (.ref a) (upd H a (exo a C none))
def tErrX0 (C : Addr) : L2.St → Hp → XK → Prop := fun _ H Q => Q (.ref C) none H

theorem run0 {pins : List (Addr × Obj)} {σ : L2.St} {H : Hp} {s : Shared} {qual : Str} {st : Stmt} {pp : Pos} {Q : Value → Shared → Prop} {E : Value → Shared → Prop} (T : ErrC X.K C) (iC : PySem.W.findIn X.K (.ref C) "__init__" = some (some (.ref fI))) (tI : PySem.W.typeIn X.K (.ref fI) = some (.type "function"))
    (F : Fun X.K "__init__" qual st fI fd) (body : defBody st = [.Pass pp]) (S : FnScope ["self"] ["self"] (defScope st)) (loc : (defScope st).names.lookup ("self" : Str) = some NameKind.local) (bind : ∀ (s : Shared) (v : Value), BindsTo s fd ⟨[v], []⟩ [("self", v)]) (room : Room 1 X.A) (I : Inv X pins σ H s)
    (hq : ∀ h' tk t0, (∀ b o, s.heap.get? b = some o → h'.get? b = some o) → h'.get? (s.heap.objs.size + 1) = some (PySem.HandSPX.excO C t0) → s.heap.get? t0 = none → h'.get? t0 = some (PySem.W.kdv_tup []) → Q (.ref (s.heap.objs.size + 1)) { s with heap := h', toks := tk }) :
    wpAny (model X.prog X.w) X.A (call (.ref C) []) Q E s := by
  obtain ⟨B, newId, initId, bmB, nm, q, N, bs, bm, sn, sub, ab, col, dd, k0, k1, k2, k3, k5, FB, ch, atC⟩ := T.new
  have lim := I.nolimit
  have inK := I.kIn
  obtain ⟨hp, g, dr, tk, os⟩ := s
  have grown : ∀ b o, hp.get? b = some o → ((hp.push (PySem.W.kdv_tup [])).push (PySem.HandSPX.excO C hp.objs.size)).get? b = some o :=
    fun b o z => Heap.get?_push_of_some _ (Heap.get?_push_of_some _ z)
  have made : ((hp.push (PySem.W.kdv_tup [])).push (PySem.HandSPX.excO C hp.objs.size)).get? (hp.objs.size + 1) = some (PySem.HandSPX.excO C hp.objs.size) := by heap_get
  have made2 : ((hp.push (PySem.W.kdv_tup [])).push (PySem.HandSPX.excO C hp.objs.size)).get? hp.objs.size = some (PySem.W.kdv_tup []) := by heap_get
  apply wpAny_call
  refine PySem.WbE.callE (iv := .ref fI) FB ch (inK _ _ atC) (PySem.W.looks_findIn inK iC) (fun self => PySem.W.bind_fn inK self tI) (by rw [sizeLine_eq]; simp) ?_
  refine idle (s := ⟨(hp.push (PySem.W.kdv_tup [])).push (PySem.HandSPX.excO C hp.objs.size), g, dr, tk, os⟩) (inK.keeps grown) (lim.keeps grown) F body S loc (bind _ _) ?_ ?_
  · have := (room.make C [] [] (k := 0)).depth
    exact this
  · intro h' tk' kept
    exact ⟨rfl, hq h' tk' hp.objs.size (fun b o z => kept b o (grown b o z)) (kept _ _ made) (Heap.get?_none_of_le (Nat.le_refl _)) (kept _ _ made2)⟩

theorem pe_err0 {qual : Str} {st : Stmt} {pp : Pos} (T : ErrC X.K C) (iC : PySem.W.findIn X.K (.ref C) "__init__" = some (some (.ref fI))) (tI : PySem.W.typeIn X.K (.ref fI) = some (.type "function"))
    (F : Fun X.K "__init__" qual st fI fd) (body : defBody st = [.Pass pp]) (S : FnScope ["self"] ["self"] (defScope st)) (loc : (defScope st).names.lookup ("self" : Str) = some NameKind.local) (bind : ∀ (s : Shared) (v : Value), BindsTo s fd ⟨[v], []⟩ [("self", v)]) (room : Room 1 X.A)
    (hg : Gl X x) (hm : X.mg x = some (.ref C)) (hdb : (x == ("__debug__" : Str)) = false := by decide) : PE X (.Call (.Name x p) [] [] pos) (tErr0 C) := by
  constructor
  intro pins s σ H Q I h
  apply wpAny_Call_Name_kw
  apply ld_glob I hg hm _ hdb
  refine PySem.W.callWith_K0 I.kIn T.kp ?_
  refine run0 T iC tI F body S loc bind room I ?_
  intro h' tk t0 kept made _ _
  exact ⟨.ref _, _, I.laid (t' := tk) kept (Nat.le_succ _) (exo_ok made), rfl, h _ (I.hok.fresh (Nat.le_succ _))⟩

theorem pmk_err0 {qual : Str} {st : Stmt} {pp : Pos} (T : ErrC X.K C) (iC : PySem.W.findIn X.K (.ref C) "__init__" = some (some (.ref fI))) (tI : PySem.W.typeIn X.K (.ref fI) = some (.type "function"))
    (F : Fun X.K "__init__" qual st fI fd) (body : defBody st = [.Pass pp]) (S : FnScope ["self"] ["self"] (defScope st)) (loc : (defScope st).names.lookup ("self" : Str) = some NameKind.local) (bind : ∀ (s : Shared) (v : Value), BindsTo s fd ⟨[v], []⟩ [("self", v)]) (room : Room 1 X.A)
    (hg : Gl X x) (hm : X.mg x = some (.ref C)) (hdb : (x == ("__debug__" : Str)) = false := by decide) : PMk X (.Call (.Name x p) [] [] pos) (tErrX0 C) := by
  intro pins s σ H Q I h
  apply wpAny_Call_Name_kw
  apply ld_glob I hg hm _ hdb
  refine PySem.W.callWith_K0 I.kIn T.kp ?_
  refine run0 T iC tI F body S loc bind room I ?_
  intro h' tk t0 kept made fr madeT
  have mexc : Heap.MadeExcOf s.heap h' (s.heap.objs.size + 1) (.ref C) [] := ⟨kept, Heap.get?_none_of_le (Nat.le_succ _), t0, made, fr, madeT⟩
  have J : Inv X pins σ H { s with toks := tk } := I.tok tk
  exact mk_of (s := { s with toks := tk }) J mexc (raises_own T.exc T.ty) h (I.hok.fresh (Nat.le_succ _))

/-- a class without own __init__: C() -/
theorem pe_errB {B newId initId : String} {bmB : List Value} (T : ErrC X.K C) (FB : PySem.ExcBaseFacts B newId initId bmB) (iC : PySem.W.findIn X.K (.ref C) "__init__" = some (some (.builtin initId)))
    (new : ∃ (nm q : Str) (N : Addr) (bs bm : List Value) (sn : List Str) (sub : List Value) (ab : Bool) (col : Option Bool) (dd : Option Addr) (k0 k1 k2 k3 k5 : Option Value),
      X.K.lookup C = some (excClassObj nm q C N bs bm true sn sub ab col dd k0 k1 k2 k3 k5 newId) ∧ PySem.WbE.Chain bm B ∧ ∀ X : String, bm.contains (.type X) = bmB.contains (.type X))
    (hg : Gl X x) (hm : X.mg x = some (.ref C)) (hdb : (x == ("__debug__" : Str)) = false := by decide) : PE X (.Call (.Name x p) [] [] pos) (tErr0 C) := by
  obtain ⟨nm, q, N, bs, bm, sn, sub, ab, col, dd, k0, k1, k2, k3, k5, atC, ch, hT⟩ := new
  constructor
  intro pins s σ H Q I h
  apply wpAny_Call_Name_kw
  apply ld_glob I hg hm _ hdb
  refine PySem.W.callWith_K0 I.kIn T.kp ?_
  show wpAny _ _ (call (.ref C) []) _ _ _
  have inK := I.kIn
  have fr := I.hok.fresh (a := s.heap.objs.size + 1) (Nat.le_succ _)
  obtain ⟨hp, g, dr, tk, os⟩ := s
  have grown : ∀ b o, hp.get? b = some o → ((hp.push (PySem.W.kdv_tup [])).push (PySem.HandSPX.excO C hp.objs.size)).get? b = some o :=
    fun b o z => Heap.get?_push_of_some _ (Heap.get?_push_of_some _ z)
  have made : ((hp.push (PySem.W.kdv_tup [])).push (PySem.HandSPX.excO C hp.objs.size)).get? (hp.objs.size + 1) = some (PySem.HandSPX.excO C hp.objs.size) := by heap_get
  apply wpAny_call
  refine PySem.WbE.callE (iv := .builtin initId) FB ch (inK _ _ atC) (PySem.W.looks_findIn inK iC) (fun self => ?_) (by rw [sizeLine_eq]; simp) ?_
  · rw [FB.init.bind self]
    exact .now
  · refine PySem.HandSPX.init_base FB hT (grown _ _ (inK _ _ atC)) made (by rw [sizeLine_eq]; simp) ?_
    intro h' t1 kept now
    have old : ∀ b o, hp.get? b = some o → h'.get? b = some o := fun b o z => kept b o (Nat.ne_of_lt (Nat.lt_succ_of_lt (Heap.lt_size z))) (grown b o z)
    exact ⟨rfl, .ref _, _, I.laid (t' := tk) old (Nat.le_succ _) (exo_ok now), rfl, h _ fr⟩
end
end Wb

set_option Elab.async false
set_option linter.all false
set_option maxRecDepth 100000
set_option maxHeartbeats 4000000
/-! Wb6: the deal that a law draws from: what is known of it, and what is kept beside it. -/
namespace Wb
open PySem PySem.Spec PyProof.Rows L2

/-- the heap without the deal's two lists -/
def off (H : Hp) (d c : Addr) : Hp := fun b => if b = d ∨ b = c then none else H b
theorem off_at {H : Hp} {d c b : Addr} (h1 : b ≠ d) (h2 : b ≠ c) : off H d c b = H b := if_neg (fun z => z.elim h1 h2)
theorem off_some {H : Hp} {d c b : Addr} {o : HO} (h : off H d c b = some o) : H b = some o ∧ b ≠ d ∧ b ≠ c := by
  unfold off at h
  by_cases e : b = d ∨ b = c
  · rw [if_pos e] at h
    cases h
  · rw [if_neg e] at h
    exact ⟨h, fun z => e (.inl z), fun z => e (.inr z)⟩
theorem off_le (H : Hp) (d c : Addr) : Same (off H d c) H := fun b o h => (off_some h).1
theorem off_mono {H H' : Hp} {d c : Addr} (h : Same H H') : Same (off H d c) (off H' d c) := by
  intro b o z
  obtain ⟨z1, z2, z3⟩ := off_some z
  rw [off_at z2 z3]
  exact h b o z1
theorem off_none {H : Hp} {d c b : Addr} (h : H b = none) : off H d c b = none := by
  unfold off
  split
  · rfl
  · exact h
/-- a new object is kept -/
theorem new_same {H : Hp} {p : Addr} {o : HO} (h : H p = none) : Same H (upd H p o) := fun b u z => by
  rw [upd_ne (ne_of_none z h)]
  exact z
theorem off_new {H : Hp} {d c p : Addr} {o : HO} (h1 : p ≠ d) (h2 : p ≠ c) : off (upd H p o) d c p = some o := by
  rw [off_at h1 h2]
  exact upd_same

/-- the deal: a list at d of the cells' list at c, and a number -/
structure Deal (H : Hp) (d c : Addr) : Prop where
  ex : ∃ (cs : List Int) (mix : Int), H d = some (.lst [.ref c, .int mix]) ∧ H c = some (.lst (cs.map V.int)) ∧ cs.length ≤ 63 ∧ (∀ z ∈ cs, 0 ≤ z) ∧ 0 ≤ mix ∧ mix < 2147483647
theorem Deal.ne {H : Hp} {d c : Addr} (D : Deal H d c) : d ≠ c := by
  obtain ⟨cs, mix, h1, h2, _⟩ := D.ex
  refine ne_of h1 h2 fun z => ?_
  have z2 : [V.ref c, V.int mix] = cs.map V.int := HO.lst.inj z
  cases cs with
  | nil => cases z2
  | cons a r => cases z2
theorem Deal.same {H H' : Hp} {d c : Addr} (D : Deal H d c) (s : Same H H') : Deal H' d c := by
  obtain ⟨cs, mix, h1, h2, h3⟩ := D.ex
  exact ⟨cs, mix, s _ _ h1, s _ _ h2, h3⟩
/-- a free address is none of the deal's -/
theorem Deal.free {H : Hp} {d c p : Addr} (D : Deal H d c) (h : H p = none) : p ≠ d ∧ p ≠ c := by
  obtain ⟨cs, mix, h1, h2, h3⟩ := D.ex
  exact ⟨(ne_of_none h1 h).symm, (ne_of_none h2 h).symm⟩
/-- the deal's own lists changed: all else is kept -/
theorem off_dc {H : Hp} {d c : Addr} {o u : HO} : off (upd (upd H c o) d u) d c = off H d c := by
  funext b
  unfold off
  by_cases e : b = d ∨ b = c
  · rw [if_pos e, if_pos e]
  · rw [if_neg e, if_neg e, upd_ne (fun z => e (.inl z)), upd_ne (fun z => e (.inr z))]
theorem off_c {H : Hp} {d c : Addr} {o : HO} : off (upd H c o) d c = off H d c := by
  funext b
  unfold off
  by_cases e : b = d ∨ b = c
  · rw [if_pos e, if_pos e]
  · rw [if_neg e, if_neg e, upd_ne (fun z => e (.inr z))]
theorem off_d {H : Hp} {d c : Addr} {o : HO} : off (upd H d o) d c = off H d c := by
  funext b
  unfold off
  by_cases e : b = d ∨ b = c
  · rw [if_pos e, if_pos e]
  · rw [if_neg e, if_neg e, upd_ne (fun z => e (.inl z))]

theorem seqT {K : PySem.W.Frag} {H H' : Hp} {a : Addr} {xs : List V} (e : Same H H') (h : SqT K H a xs) : SqT K H' a xs := by
  rcases h with (h | ⟨o, h⟩) | h
  · exact Or.inl (Or.inl (e _ _ h))
  · exact Or.inl (Or.inr ⟨o, e _ _ h⟩)
  · exact Or.inr h
/-- an item at a place drawn -/
theorem item_at {xs : List V} {r : Int} (h0 : 0 ≤ r) (h1 : r < (xs.length : Int)) : ∃ v, v ∈ xs ∧ atI xs r = some v := by
  obtain ⟨j, rfl⟩ := Int.eq_ofNat_of_zero_le h0
  have hj : j < xs.length := by omega
  exact ⟨xs[j], List.getElem_mem hj, atI_nat (List.getElem?_eq_getElem hj)⟩
theorem nil_or_last {α : Type} (l : List α) : l = [] ∨ ∃ ini z, l = ini ++ [z] := by
  cases l with
  | nil => exact .inl rfl
  | cons a r => exact .inr ⟨(a :: r).dropLast, (a :: r).getLast (by simp), (List.dropLast_concat_getLast (by simp)).symm⟩
/-- one statement and the rest, what is known between them said apart -/
theorem seqI {t1 t2 : TS} {D : Ends} {σ : L2.St} {H : Hp} (Ex : L2.St → Hp → Prop) (rest : ∀ σ' H', Ex σ' H' → t2 D σ' H')
    (first : ∀ Z : L2.St → Hp → Prop, (∀ σ' H', Ex σ' H' → Z σ' H') → t1 { D with nx := Z } σ H) : tSeq t1 t2 D σ H :=
  first _ rest
/-- a while by an invariant, a measure, and what is known at its end; what follows is asked apart -/
theorem whileI {c : TT} {tb : TS} {D : Ends} {σ : L2.St} {H : Hp} (I Ex : L2.St → Hp → Prop) (m : L2.St → Hp → Nat) (h0 : I σ H) (rest : ∀ σ H, Ex σ H → D.nx σ H)
    (step : ∀ σ H, I σ H → ∀ Y Z : Hp → Prop,
      (∀ H1, tb { D with nx := fun σ' H' => I σ' H' ∧ m σ' H' < m σ H, ct := fun σ' H' => I σ' H' ∧ m σ' H' < m σ H, bk := D.nx } σ H1 → Y H1) → (∀ H1, Ex σ H1 → Z H1) →
      c σ H fun b H1 => if b = true then Y H1 else Z H1) : tWhile c tb D σ H := by
  refine ⟨fun k σ H => k = m σ H ∧ I σ H, ⟨_, rfl, h0⟩, ?_⟩
  rintro k σ H ⟨rfl, hI⟩
  refine step σ H hI _ _ (fun H1 q => ?_) (fun H1 e => rest σ H1 e)
  exact ⟨_, fun σ' H' ⟨p', l⟩ => ⟨_, l, rfl, p'⟩, q⟩

/-- _law_any(deal, bound): some number below the bound; the deal is one again, all else is kept -/
def spAny : Sp := fun vs H Q _ => ∃ (d c : Addr) (bound : Int), vs = [.ref d, .int bound] ∧ Deal H d c ∧ 0 < bound ∧ bound < 2 ^ 300 ∧
  ∀ (r : Int) (H' : Hp), 0 ≤ r → r < bound → Deal H' d c → Same (off H d c) (off H' d c) → Q (.int r) H'
/-- _law_of(deal, some): some item of a list, of a tuple, or a sign of a text -/
def spOf (K : PySem.W.Frag) : Sp := fun vs H Q _ => ∃ (d c : Addr) (x : V), vs = [.ref d, x] ∧ Deal H d c ∧
  ((∃ (p : Addr) (xs : List V), x = .ref p ∧ SqL K (off H d c) p xs ∧ xs ≠ [] ∧ xs.length ≤ 1000 ∧ ∀ (v : V) (H' : Hp), v ∈ xs → Deal H' d c → Same (off H d c) (off H' d c) → Q v H') ∨
   (∃ (p : Addr) (xs : List V), x = .ref p ∧ SqT K (off H d c) p xs ∧ xs ≠ [] ∧ xs.length ≤ 1000 ∧ ∀ (v : V) (H' : Hp), v ∈ xs → Deal H' d c → Same (off H d c) (off H' d c) → Q v H') ∨
   (∃ z : Str, x = .str z ∧ 0 < z.length ∧ z.length ≤ 1000 ∧ ∀ (a : Nat) (H' : Hp), a ∈ z.cps.toList → Deal H' d c → Same (off H d c) (off H' d c) → Q (.str ⟨#[a]⟩) H'))
/-- _law_deal(script, base): a new deal -/
def spDeal (K : PySem.W.Frag) : Sp := fun vs H Q _ => ∃ (a : Addr) (ns : List Int) (b : Int), vs = [.ref a, .int b] ∧ SqL K H a (ns.map V.int) ∧ ns.length ≤ 63 ∧ 0 ≤ b ∧ b ≤ 1000 ∧
  ∀ (d c : Addr) (H' : Hp), H d = none → H c = none → Deal H' d c → Same H H' → Q (.ref d) H'
end Wb

set_option Elab.async false
set_option linter.all false
set_option maxRecDepth 100000
set_option maxHeartbeats 4000000
/-! Wb7: data that is all new; how large it is shown. -/
namespace Wb
open PySem PySem.Spec PyProof.Rows L2

/-- what stands in H' and was free in H -/
def nw (H H' : Hp) : Hp := fun b => if H b = none then H' b else none
theorem nw_at {H H' : Hp} {b : Addr} (h : H b = none) : nw H H' b = H' b := if_pos h
theorem nw_some {H H' : Hp} {b : Addr} {o : HO} (h : nw H H' b = some o) : H b = none ∧ H' b = some o := by
  unfold nw at h
  by_cases e : H b = none
  · rw [if_pos e] at h
    exact ⟨e, h⟩
  · rw [if_neg e] at h
    cases h
theorem nw_le (H H' : Hp) : Same (nw H H') H' := fun b o h => (nw_some h).2
/-- every address that is taken stays taken -/
def Dom (H H' : Hp) : Prop := ∀ b, H' b = none → H b = none
theorem Dom.refl (H : Hp) : Dom H H := fun _ h => h
theorem Dom.trans {H G J : Hp} (a : Dom H G) (b : Dom G J) : Dom H J := fun x h => a x (b x h)
theorem Dom.of {H H' : Hp} (s : Same H H') : Dom H H' := fun b h => s.free h
theorem Dom.deal {H H' : Hp} {d c : Addr} (s : Same (off H d c) (off H' d c)) (D : Deal H' d c) : Dom H H' := by
  intro b h
  obtain ⟨n1, n2⟩ := D.free h
  have q : off H' d c b = none := (off_at n1 n2).trans h
  have z := s.free q
  rwa [off_at n1 n2] at z
/-- new since later is new since earlier; and it is kept where all but the deal is -/
theorem nw_mono {H0 H G G' : Hp} {d c : Addr} (a : Dom H0 H) (D : Deal H d c) (s : Same (off G d c) (off G' d c)) : Same (nw H G) (nw H0 G') := by
  intro b o h
  obtain ⟨h1, h2⟩ := nw_some h
  obtain ⟨n1, n2⟩ := D.free h1
  rw [nw_at (a b h1)]
  have q := s b o (by rw [off_at n1 n2]; exact h2)
  exact (off_some q).1
theorem nw_off {H G : Hp} {d c : Addr} (D : Deal H d c) : Same (nw H G) (off G d c) := by
  intro b o h
  obtain ⟨h1, h2⟩ := nw_some h
  obtain ⟨n1, n2⟩ := D.free h1
  rw [off_at n1 n2]
  exact h2
theorem nw_upd {H G : Hp} {p : Addr} {o : HO} (h : H p ≠ none) : nw H (upd G p o) = nw H G := by
  funext b
  unfold nw
  by_cases e : H b = none
  · rw [if_pos e, if_pos e, upd_ne (fun z => h (by rw [← z]; exact e))]
  · rw [if_neg e, if_neg e]

mutual
theorem dpMono {K : PySem.W.Frag} {H H' : Hp} (s : Same H H') : ∀ (d : PyData) (v : V), Dp K H v d → Dp K H' v d
  | .none, _, h => by
    cases h
    exact .non
  | .bool b, _, h => by
    cases h
    exact .bl b
  | .int i, _, h => by
    cases h
    exact .int i
  | .str x, _, h => by
    cases h
    exact .str x
  | .list ds, _, h => by
    cases h with
    | lst h1 h2 => exact .lst (s.seq h1) (dpMonoAll s ds _ h2)
  | .tuple ds, _, h => by
    cases h with
    | tup h1 h2 => exact .tup (seqT s h1) (dpMonoAll s ds _ h2)
  | .dict _, _, h => by cases h
theorem dpMonoAll {K : PySem.W.Frag} {H H' : Hp} (s : Same H H') : ∀ (ds : List PyData) (vs : List V), DpAll K H vs ds → DpAll K H' vs ds
  | [], _, h => by
    cases h
    exact .nil
  | d :: ds, _, h => by
    cases h with
    | cons h1 h2 => exact .cons (dpMono s d _ h1) (dpMonoAll s ds _ h2)
end
theorem dpAll_snoc {K : PySem.W.Frag} {H : Hp} {v : V} {e : PyData} (h : Dp K H v e) : ∀ {vs : List V} {es : List PyData}, DpAll K H vs es → DpAll K H (vs ++ [v]) (es ++ [e])
  | _, _, .nil => .cons h .nil
  | _, _, .cons h1 h2 => .cons h1 (dpAll_snoc h h2)
theorem dpAll_len {K : PySem.W.Frag} {H : Hp} : ∀ {vs : List V} {es : List PyData}, DpAll K H vs es → vs.length = es.length
  | _, _, .nil => rfl
  | _, _, .cons _ h2 => by simp [dpAll_len h2]
theorem dpAll_mem {K : PySem.W.Frag} {H : Hp} : ∀ {vs : List V} {es : List PyData} {v : V}, DpAll K H vs es → v ∈ vs → ∃ e, e ∈ es ∧ Dp K H v e
  | _, _, _, .nil, h => nomatch h
  | _, _, v, .cons h1 h2, h => by
    rcases List.mem_cons.mp h with rfl | h
    · exact ⟨_, List.mem_cons_self, h1⟩
    · obtain ⟨e, q1, q2⟩ := dpAll_mem h2 h
      exact ⟨e, List.mem_cons_of_mem _ q1, q2⟩

/-- what may be shown: n deep, of a weight W -/
structure Tame (n W : Nat) (e : PyData) : Prop where
  shows : e.showable = true
  noDict : e.hasDict = false
  deep : e.depth ≤ n
  short : e.leavesShort 13 = true
  light : e.weight ≤ W
theorem Tame.fits {n W : Nat} {e : PyData} (t : Tame n W e) (h : W ≤ 1000000) : e.shown.length ≤ sizeLine := by
  have q := PyData.shown_le 13 (by decide) e t.short
  have l := t.light
  rw [sizeLine_eq]
  omega
theorem Tame.more {n m W Z : Nat} {e : PyData} (t : Tame n W e) (h1 : n ≤ m) (h2 : W ≤ Z) : Tame m Z e :=
  ⟨t.shows, t.noDict, Nat.le_trans t.deep h1, t.short, Nat.le_trans t.light h2⟩
structure TameAll (n W : Nat) (es : List PyData) : Prop where
  shows : PyData.showableAll es = true
  noDict : PyData.hasDictAll es = false
  deep : PyData.depthAll es ≤ n
  short : PyData.leavesShortAll 13 es = true
  light : PyData.weightAll es ≤ es.length * (W + 1)
theorem TameAll.nil {n W : Nat} : TameAll n W [] := ⟨by simp [PyData.showableAll], by simp [PyData.hasDictAll], by simp [PyData.depthAll], by simp [PyData.leavesShortAll], by simp [PyData.weightAll]⟩
theorem TameAll.cons {n W : Nat} {e : PyData} {es : List PyData} (t : Tame n W e) (h : TameAll n W es) : TameAll n W (e :: es) := by
  obtain ⟨a1, a2, a3, a4, a5⟩ := t
  obtain ⟨b1, b2, b3, b4, b5⟩ := h
  refine ⟨by simp [PyData.showableAll, a1, b1], by simp [PyData.hasDictAll, a2, b2], ?_, by simp [PyData.leavesShortAll, a4, b4], ?_⟩
  · simp only [PyData.depthAll]
    exact Nat.max_le.mpr ⟨a3, b3⟩
  · simp only [PyData.weightAll, List.length_cons, Nat.succ_mul]
    omega
theorem TameAll.of {n W : Nat} : ∀ {es : List PyData}, (∀ e ∈ es, Tame n W e) → TameAll n W es
  | [], _ => .nil
  | e :: es, h => .cons (h e List.mem_cons_self) (TameAll.of fun x hx => h x (List.mem_cons_of_mem _ hx))
theorem TameAll.list {n W k : Nat} {es : List PyData} (h : TameAll n W es) (few : es.length ≤ k) : Tame (n + 1) (k * (W + 1)) (.list es) := by
  obtain ⟨b1, b2, b3, b4, b5⟩ := h
  refine ⟨by simpa [PyData.showable] using b1, by simpa [PyData.hasDict] using b2, ?_, by simpa [PyData.leavesShort] using b4, ?_⟩
  · simp only [PyData.depth]
    omega
  · simp only [PyData.weight]
    exact Nat.le_trans b5 (Nat.mul_le_mul_right _ few)
theorem TameAll.tuple {n W k : Nat} {es : List PyData} (h : TameAll n W es) (few : es.length ≤ k) : Tame (n + 1) (k * (W + 1)) (.tuple es) := by
  obtain ⟨b1, b2, b3, b4, b5⟩ := h
  refine ⟨by simpa [PyData.showable] using b1, by simpa [PyData.hasDict] using b2, ?_, by simpa [PyData.leavesShort] using b4, ?_⟩
  · simp only [PyData.depth]
    omega
  · simp only [PyData.weight]
    exact Nat.le_trans b5 (Nat.mul_le_mul_right _ few)
theorem tame_none : Tame 0 40 .none := ⟨by decide +kernel, by decide +kernel, by decide +kernel, by decide +kernel, by decide +kernel⟩
theorem tame_bool (b : Bool) : Tame 0 40 (.bool b) := by cases b <;> exact ⟨by decide +kernel, by decide +kernel, by decide +kernel, by decide +kernel, by decide +kernel⟩
theorem log2_small {i : Int} (h : i.natAbs < 10 ^ 12) : i.natAbs.log2 ≤ 39 := by
  by_cases z : i.natAbs = 0
  · rw [z]
    decide
  · have := (Nat.log2_lt z (k := 40)).mpr (Nat.lt_trans h (by decide))
    omega
theorem tame_int {i : Int} (h : i.natAbs < 10 ^ 12) : Tame 0 40 (.int i) := by
  have l := log2_small h
  refine ⟨?_, by simp [PyData.hasDict], by simp [PyData.depth], ?_, ?_⟩
  · simp only [PyData.showable, decide_eq_true_eq]
    omega
  · simp only [PyData.leavesShort, decide_eq_true_eq]
    exact PyData.shown_int_le h
  · simp only [PyData.weight]
    split <;> omega
theorem tame_str {x : Str} (h : ∀ a ∈ x.cps.toList, a < 16 ^ 8) (few : x.length ≤ 40) : Tame 0 40 (.str x) := by
  refine ⟨by simp [PyData.showable], by simp [PyData.hasDict], by simp [PyData.depth], ?_, ?_⟩
  · simp only [PyData.leavesShort, List.all_eq_true, decide_eq_true_eq]
    exact h
  · simp only [PyData.weight]
    exact few

/-- signs glued -/
theorem glued (L : List Nat) : ∀ ys : List Str, (∀ y ∈ ys, ∃ a ∈ L, y = ⟨#[a]⟩) → (Str.join (Str.ofString "") ys).length = ys.length ∧ ∀ a ∈ (Str.join (Str.ofString "") ys).cps.toList, a ∈ L
  | [], _ => ⟨by decide, fun a ha => by
    have e : (Str.join (Str.ofString "") []).cps.toList = [] := by decide
    rw [e] at ha
    cases ha⟩
  | [y], h => by
    obtain ⟨a, ha, rfl⟩ := h y List.mem_cons_self
    refine ⟨rfl, fun b hb => ?_⟩
    have hb' : b ∈ [a] := hb
    rw [List.mem_singleton.mp hb']
    exact ha
  | y :: z :: r, h => by
    obtain ⟨a, ha, rfl⟩ := h y List.mem_cons_self
    obtain ⟨i1, i2⟩ := glued L (z :: r) fun x hx => h x (List.mem_cons_of_mem _ hx)
    have e : Str.join (Str.ofString "") (⟨#[a]⟩ :: z :: r) = (⟨#[a]⟩ ++ Str.ofString "") ++ Str.join (Str.ofString "") (z :: r) := rfl
    rw [e]
    refine ⟨?_, fun b hb => ?_⟩
    · rw [strLen_append, strLen_append, i1]
      have e1 : (Str.ofString "").length = 0 := by decide
      have e2 : (⟨#[a]⟩ : Str).length = 1 := rfl
      rw [e1, e2]
      simp
      omega
    · rw [cps_toList_append, cps_toList_append] at hb
      have e1 : (Str.ofString "").cps.toList = [] := by decide
      rw [e1, List.append_nil] at hb
      rcases List.mem_append.mp hb with q | q
      · have q' : b ∈ [a] := q
        rw [List.mem_singleton.mp q']
        exact ha
      · exact i2 b q
end Wb

set_option Elab.async false
set_option linter.all false
set_option maxRecDepth 100000
set_option maxHeartbeats 4000000
/-! Wf1: what fractions take of the language: // below 0, lcm, calls by names alone, a caught error looked at. -/
namespace Wb
open PySem PySem.Spec PyProof.Rows L2
section
variable {X : Cx}
/-- // by a divisor of either sign -/
def CDivS (_ j : Int) : Prop := j ≠ 0 ∧ j.natAbs.log2 < 9000
theorem op_fdivS : OpR X (binaryOp .FloorDiv) (rI CDivS fun i j => .int (i.fdiv j)) := opI fun i j _ _ _ _ _ hc q => floordiv_int hc.1 q (.inl (PyProof.noPylong_of_log2 hc.2))
def rLcm : List V → Hp → VK → Prop := fun vs H Q => ∃ a b : Int, vs = [.int a, .int b] ∧ a.natAbs < 2 ^ 9000 ∧ b.natAbs < 2 ^ 9000 ∧ Q (.int ((Nat.lcm a.natAbs b.natAbs : Nat) : Int)) H
theorem log_le {n k : Nat} (h : n < 2 ^ k) (h0 : 0 < k) : n.log2 < k := by
  by_cases z : n = 0
  · subst z
    rw [Nat.log2_zero]
    exact h0
  · exact (Nat.log2_lt z).mpr h
theorem cr_lcm : CallR X (.builtin "math.lcm") rLcm := by
  intro pins s σ H vs us Q I r h
  obtain ⟨a, b, rfl, ha, hb, q⟩ := h
  obtain ⟨t, u, rfl⟩ := Vals.int2 r
  have one9 : (1 : Nat) < 2 ^ 9000 := Nat.one_lt_two_pow (by decide)
  have h1 : (max 1 a.natAbs).log2 < 9000 := log_le (Nat.max_lt.mpr ⟨one9, ha⟩) (by decide)
  have h2 : (max a.natAbs b.natAbs).log2 < 9000 := log_le (Nat.max_lt.mpr ⟨ha, hb⟩) (by decide)
  have h3 : (Nat.lcm 1 a.natAbs).lcm b.natAbs = Nat.lcm a.natAbs b.natAbs := by rw [PySem.W.mc_lcm_one]
  have h4 : (Nat.lcm a.natAbs b.natAbs).log2 < 18000 := by
    refine log_le (Nat.lt_of_le_of_lt (PySem.W.mc_lcm_le _ _) ?_) (by decide)
    have e : (18000 : Nat) = 9000 + 9000 := rfl
    rw [e, Nat.pow_add]
    exact Nat.mul_lt_mul'' ha hb
  have h5 : ((((Nat.lcm 1 a.natAbs).lcm b.natAbs : Nat) : Int)).natAbs.log2 < bitsLine := by
    rw [h3, Int.natAbs_natCast]
    exact Nat.lt_trans h4 (by decide)
  refine call_function_meets PySem.W.MGF.kind_lcm PySem.W.MGF.plain_lcm PySem.W.MGF.entry_lcm (PySem.W.MGF.args_lcm _ _) (PySem.W.mg_run_lcm a t b u (by omega) (by omega) h5).meets ?_
  rw [h3]
  exact ⟨.int _, H, I.tok _, ⟨_, rfl⟩, q⟩
end
section
variable {X : Cx} {CX : CXT} {k : Nat} {f C : Addr} {fd : FuncData} {ps ks : List Str} {sp : Sp} {E : XK} {x m : Str} {p pos apos kpos : Pos} {e o : Expr} {es : List Expr} {kws : List Keyword} {te ta : TE} {t tk : TA} {nm : Option Str}
variable {g : List Value → List Value → List Value} {gV : List V → List V → List V}
def tCallK0 (sp : Sp) (gV : List V → List V → List V) (E : XK) (tk : TA) : TE := fun σ H Q => tk σ H fun zs H2 => sp (gV [] zs) H2 Q E
/-- f(k = v, ..), nothing by position -/
theorem pe_callK0 (F : FnOk X.prog X.w X.K X.mg X.base CX k f fd ps sp) (hr : Room k X.A) (hg : Gl X x) (hm : X.mg x = some (.ref f)) (hk : PySem.W.keepIn X.K (.ref f) = true) (hb : KBinds X.K fd ps ks g gV) (hx : Passes CX X E)
    (hkw : PK X kws tk) (hall : (backToKw pos (keywordEach kws X.env)).all (·.1.isSome) = true := by rfl) (hks : (backToKw pos (keywordEach kws X.env)).filterMap (·.1) = ks := by rfl)
    (hdb : (x == ("__debug__" : Str)) = false := by decide) (hpl : ((backTo pos (starEach [] X.env)).any (·.1) || (backToKw pos (keywordEach kws X.env)).any (·.1.isNone)) = false := by rfl) :
    PE X (.Call (.Name x p) [] kws pos) (tCallK0 sp gV E tk) := by
  refine ⟨fun pins s σ H Q I h => ?_⟩
  refine wpAny_Call_Name_kw (ld_glob I hg hm ?_ hdb)
  refine PySem.W.callWith_KW0 (h₀ := X.base) I.ok.mod.kin hk hall (thn (hkw.run pos pins s σ H _ I h) fun ws s2 ⟨zs, H2, I2, rz, q2⟩ => ⟨I2.kIn, ?_⟩) hpl
  rw [hks]
  exact run_fnk (us := []) (vs := []) F hr hb hx I2 .nil rz q2
end
/-- a def that may raise, where it doesn't -/
theorem quiet {P : Program} {w : World} {K : PySem.W.Frag} {mg : Str → Option Value} {base : Heap} {k : Nat} {f : Addr} {fd : FuncData} {ps : List Str} {sp : Sp} (F : FnOk P w K mg base (L2.CX P w) k f fd ps sp) :
    FnOk P w K mg base CX0 k f fd ps (fun vs H Q _ => sp vs H Q (fun _ _ _ => False)) :=
  ⟨fun vs H Q E h => F.len vs H Q _ h, fun A outer s H args us vs Q E hr he hb hv hs => by
    refine codeAny_mono (F.run A outer s H args us vs Q (fun _ _ _ => False) hr he hb hv hs) ?_
    intro r s' h
    match r, h with
    | .ok (.ret u), h => exact h
    | .error er, h =>
      obtain ⟨a, B, H', cls, d, _, _, _, _, _, _, _, z⟩ := h
      exact z.elim⟩
section
variable {X : Cx} {e : Expr} {te : TE} {pos : Pos} {a : Addr} {oe : Obj} {cls : Value} {d : Option Addr} {pn : List (Addr × Obj)} {f : Str}
theorem xd_at {P : Program} {w : World} {H : Hp} {h : Heap} {dd : Addr} {fs : List (Str × V)} (hok : HOk P w H h) (ea : H dd = some (.xd fs)) : ∃ mA, h.Ns1 dd mA ∧ ∀ g, RelO (fs.lookup g) (mA g) := by
  have hx : ObjOk P w H h dd (.xd fs) := hok dd _ ea
  obtain ⟨mA, hns, hr⟩ := hx
  exact ⟨mA, hns, hr⟩
/-- e.f, e the error that the suite holds -/
def tErrF (K : PySem.W.Frag) (a : Addr) (cls : Value) (d : Option Addr) (f : Str) (te : TE) : TE := fun σ H Q => te σ H fun x H1 => x = .ref a ∧ ∃ (C dd : Addr) (v : V), cls = .ref C ∧ d = some dd ∧ ErrC K C ∧ PySem.W.findIn K (.ref C) f = some none ∧ H1 dd = some (.xd [(f, v)]) ∧ Q v H1
theorem pe_errF (hz : Zc cls d oe) (hf : ∃ vs, oe.data = .fields vs) (he : PE (X.suite a ((a, oe) :: pn)) e te) (hb : attributeBase e f X.env (eval e X.env) = eval e X.env := by rfl) :
    PE (X.suite a ((a, oe) :: pn)) (.Attribute e f pos) (tErrF X.K a cls d f te) := by
  refine ⟨fun pins s σ H Q I h => ?_⟩
  refine attr_of hb (thn (he.run pins s σ H _ I h) fun u s1 hh => ?_)
  obtain ⟨x, H1, I1, rx, ex, C, dd, v, ec, ed, T, no, ea, q⟩ := hh
  subst ex
  obtain rfl : u = Value.ref a := rx
  subst ec
  subst ed
  obtain ⟨ha, _⟩ := I1.pin (a, oe) (List.mem_append_left _ List.mem_cons_self)
  obtain ⟨vs, hd⟩ := hf
  obtain ⟨mA, hns, hr⟩ := xd_at I1.hok ea
  obtain ⟨od, ho, hl⟩ := lookIn_ns hns
  have l : List.lookup f [(f, v)] = some v := by simp [List.lookup]
  obtain ⟨u, hu, ru⟩ := RelO.some_of (v := v) (o := mA f) (by rw [← l]; exact hr f)
  have J : PySem.W.InstAt s1.heap a oe C (some od) := ⟨ha, hz.1, by unfold PySem.W.notCls; rw [hd] <;> rfl, by rw [hz.2]; exact ho⟩
  exact HandSPX.exc_get I1.kIn J T.ga T.gg T.exc (PySem.W.findObj_own T.hd no rfl (by rw [hl, hu])) (handed_of ru) ⟨v, H1, I1.tok _, ru, q⟩
/-- isinstance(e, ..), e the error that the suite holds -/
def rIsX (K : PySem.W.Frag) (a : Addr) (cls : Value) (d : Option Addr) : List V → Hp → VK → Prop := fun xs H Q =>
  ∃ (C : Addr) (c : V) (cu : Value) (b : Bool), xs = [.ref a, c] ∧ cls = .ref C ∧ (∀ dd, d = some dd → ∃ fs, H dd = some (.xd fs)) ∧ ErrC K C ∧ ClsV c cu ∧ PySem.W.kitOne K (.ref C) cu = some b ∧ Q (.bl b) H
theorem call_isX (hz : Zc cls d oe) (hf : ∃ vs, oe.data = .fields vs) : CallR (X.suite a ((a, oe) :: pn)) (.builtin "isinstance") (rIsX X.K a cls d) := by
  intro pins s σ H xs us Q I r h
  obtain ⟨C, c, cu, b, rfl, ec, hod, T, kc, ek, q⟩ := h
  obtain ⟨u1, u2, rfl, r1, r2⟩ := vals2 r
  obtain rfl : u1 = Value.ref a := r1
  have e2 := kc.eq r2
  subst e2
  subst ec
  obtain ⟨ha, _⟩ := I.pin (a, oe) (List.mem_append_left _ List.mem_cons_self)
  obtain ⟨vs, hd⟩ := hf
  have cls : (PySem.W.clsIn X.K C).isSome = true := by
    obtain ⟨cd, hcd, _⟩ := PySem.W.any_some T.hd
    rw [hcd]
    rfl
  have fin : ∀ tk, EP (X.suite a ((a, oe) :: pn)) pins σ Q (.bool b) { s with toks := tk } := fun tk => ⟨.bl b, H, I.tok tk, rfl, q⟩
  have no : PySem.W.notCls oe = true := by unfold PySem.W.notCls; rw [hd] <;> rfl
  cases d with
  | none =>
    exact PySem.W.kia_one (PySem.W.kitx_exc (od := none) cls T.ga T.gg T.exc T.hc T.hn T.ht T.hm) I.kIn (⟨ha, hz.1, no, by rw [hz.2]; exact trivial⟩ : PySem.W.InstAt s.heap a oe C none) ek (fun z => nomatch z) fin
  | some dx =>
    obtain ⟨fs, ed⟩ := hod dx rfl
    obtain ⟨mA, hns, _⟩ := xd_at I.hok ed
    obtain ⟨od, ho, _⟩ := lookIn_ns hns
    exact PySem.W.kia_one (PySem.W.kitx_exc (od := some od) cls T.ga T.gg T.exc T.hc T.hn T.ht T.hm) I.kIn (⟨ha, hz.1, no, by rw [hz.2]; exact ho⟩ : PySem.W.InstAt s.heap a oe C (some od)) ek (fun z => nomatch z) fin
end
end Wb

set_option Elab.async false
set_option linter.all false
set_option maxRecDepth 100000
set_option maxHeartbeats 4000000
/-! Wc0: a def by its name: what may be called (Cal, CalG), the rules of its calls, how one comes to be. -/
namespace Wb
open PySem PySem.Spec PyProof.Rows L2
/-- the def's record -/
def FdOf (x : Str) (st : Stmt) (fd : FuncData) : Prop := ∃ (kV dc pm : Value) (an : Option Addr) (cd ct : Value), fd = PySem.W.fnOf x x (defArgs st) (defBody st) (defScope st) .none kV dc pm an cd ct
section
variable (P : Program) (w : World) (K : PySem.W.Frag) (mg : Str → Option Value) (base : Heap)
/-- the def of this name, promised -/
def Cal (CX : CXT) (k : Nat) (x : Str) (st : Stmt) (ps : List Str) (sp : Sp) : Prop := ∃ (f : Addr) (fd : FuncData), FnOk P w K mg base CX k f fd ps sp ∧ mg x = some (.ref f) ∧ PySem.W.keepIn K (.ref f) = true ∧ Binds K fd ps [] ∧ FdOf x st fd
/-- .. where no repr runs -/
def CalG (CX : CXT) (k : Nat) (x : Str) (st : Stmt) (ps : List Str) (sp : Sp) : Prop := ∃ (f : Addr) (fd : FuncData), FnG P w K mg base CX k f fd ps sp ∧ mg x = some (.ref f) ∧ PySem.W.keepIn K (.ref f) = true ∧ Binds K fd ps [] ∧ FdOf x st fd
/-- the def of this name as it stands in the text -/
def Def (K : PySem.W.Frag) (mg : Str → Option Value) (x : Str) (st : Stmt) (ps : List Str) : Prop := ∃ (f : Addr) (fd : FuncData), Fun K x x st f fd ∧ mg x = some (.ref f) ∧ Binds K fd ps [] ∧ FdOf x st fd
end
section
variable {P : Program} {w : World} {K : PySem.W.Frag} {mg : Str → Option Value} {base : Heap} {CX : CXT} {k : Nat} {x : Str} {N ps : List Str} {sp : Sp} {st : Stmt}
theorem Cal.G (C : Cal P w K mg base CX k x st ps sp) : CalG P w K mg base CX k x st ps sp := by
  obtain ⟨f, fd, F, m, kp, b, o⟩ := C
  exact ⟨f, fd, .of F, m, kp, b, o⟩
theorem Cal.quiet (C : Cal P w K mg base (L2.CX P w) k x st ps sp) : Cal P w K mg base CX0 k x st ps (fun vs H Q _ => sp vs H Q (fun _ _ _ => False)) := by
  obtain ⟨f, fd, F, m, kp, b, o⟩ := C
  exact ⟨f, fd, Wb.quiet F, m, kp, b, o⟩
theorem Cal.weaken {sp' : Sp} (C : Cal P w K mg base CX k x st ps sp) (h : ∀ vs H Q E, sp' vs H Q E → sp vs H Q E) : Cal P w K mg base CX k x st ps sp' := by
  obtain ⟨f, fd, F, m, kp, b, o⟩ := C
  exact ⟨f, fd, ⟨fun vs H Q E z => F.len vs H Q E (h _ _ _ _ z), fun A outer s H args us vs Q E hr he hb hv hs => F.run A outer s H args us vs Q E hr he hb hv (h _ _ _ _ hs)⟩, m, kp, b, o⟩
theorem Def.ok (D : Def K mg x st ps) (S : FnScope N ps (defScope st)) (len : ∀ vs H Q E, sp vs H Q E → vs.length = ps.length)
    (hbody : ∀ (cdv : Value) (f : Addr) (A : Around) (outer : List Env) (s : Shared) (H : Hp) (vs : List V) (Q : VK) (E : XK), Room k (A.deeper (envOfC x (defScope st) s.heap.objs.size f cdv)) → sp vs H Q E →
      ∃ t, PSs (cxOf CX0 P w K mg base N x (defScope st) f cdv A outer s H E).nox (defBody st) t ∧ t { nx := fun _ H' => Q .non H', rt := Q } (start N vs) H) : Cal P w K mg base CX0 (k + 1) x st ps sp := by
  obtain ⟨f, fd, F, m, b, o⟩ := D
  exact ⟨f, fd, F.ok S len fun cdv => hbody cdv f, m, F.kp, b, o⟩
theorem Def.okX (D : Def K mg x st ps) (S : FnScope N ps (defScope st)) (len : ∀ vs H Q E, sp vs H Q E → vs.length = ps.length)
    (hbody : ∀ (cdv : Value) (f : Addr) (A : Around) (outer : List Env) (s : Shared) (H : Hp) (vs : List V) (Q : VK) (E : XK), Room k (A.deeper (envOfC x (defScope st) s.heap.objs.size f cdv)) → sp vs H Q E →
      ∃ t, PSs (cxOf (L2.CX P w) P w K mg base N x (defScope st) f cdv A outer s H E) (defBody st) t ∧ t { nx := fun _ H' => Q .non H', rt := Q } (start N vs) H) : Cal P w K mg base (L2.CX P w) (k + 1) x st ps sp := by
  obtain ⟨f, fd, F, m, b, o⟩ := D
  exact ⟨f, fd, F.okX S len fun cdv => hbody cdv f, m, F.kp, b, o⟩
theorem Def.okG (D : Def K mg x st ps) (S : FnScope N ps (defScope st)) (len : ∀ vs H Q E, sp vs H Q E → vs.length = ps.length)
    (hbody : ∀ (cdv : Value) (f : Addr) (A : Around) (outer : List Env) (s : Shared) (H : Hp) (vs : List V) (Q : VK) (E : XK),
      (A.deeper (envOfC x (defScope st) s.heap.objs.size f cdv)).guards = some [] → Room k (A.deeper (envOfC x (defScope st) s.heap.objs.size f cdv)) → sp vs H Q E →
      ∃ t, PSs (cxOf CX P w K mg base N x (defScope st) f cdv A outer s H E) (defBody st) t ∧ t { nx := fun _ H' => Q .non H', rt := Q } (start N vs) H) : CalG P w K mg base CX (k + 1) x st ps sp := by
  obtain ⟨f, fd, F, m, b, o⟩ := D
  exact ⟨f, fd, Wb.okG F S len fun cdv => hbody cdv f, m, F.kp, b, o⟩
end
section
variable {X : Cx} {CX : CXT} {k : Nat} {ps ks : List Str} {sp : Sp} {E : XK} {x : Str} {st : Stmt} {p pos : Pos} {e : Expr} {es : List Expr} {t : TA}
theorem pe_cal (C : Cal X.prog X.w X.K X.mg X.base CX k x st ps sp) (hr : Room k X.A) (hg : Gl X x) (hx : Passes CX X E)
    (ha : PA X (e :: es) t) (hdb : (x == ("__debug__" : Str)) = false := by decide) (he : starEach (e :: es) X.env = (false, eval e X.env) :: starEach es X.env := by rfl) (hpl : (backTo pos (starEach es X.env)).any (·.1) = false := by rfl) :
    PE X (.Call (.Name x p) (e :: es) [] pos) (tCall sp [] E t) := by
  obtain ⟨f, fd, F, m, kp, b, o⟩ := C
  exact pe_call F hr hg m kp b .nil hx ha hdb he hpl
theorem pe_cal0 (C : Cal X.prog X.w X.K X.mg X.base CX k x st ps sp) (hr : Room k X.A) (hg : Gl X x) (hx : Passes CX X E) (hdb : (x == ("__debug__" : Str)) = false := by decide) : PE X (.Call (.Name x p) [] [] pos) (tCall sp [] E tNil) := by
  obtain ⟨f, fd, F, m, kp, b, o⟩ := C
  exact pe_call0 F hr hg m kp b .nil hx hdb
theorem pe_calG (C : CalG X.prog X.w X.K X.mg X.base CX k x st ps sp) (gd : X.A.guards = some []) (hr : Room k X.A) (hg : Gl X x) (hx : Passes CX X E)
    (ha : PA X (e :: es) t) (hdb : (x == ("__debug__" : Str)) = false := by decide) (he : starEach (e :: es) X.env = (false, eval e X.env) :: starEach es X.env := by rfl) (hpl : (backTo pos (starEach es X.env)).any (·.1) = false := by rfl) :
    PE X (.Call (.Name x p) (e :: es) [] pos) (tCall sp [] E t) := by
  obtain ⟨f, fd, F, m, kp, b, o⟩ := C
  exact pe_callG F gd hr hg m kp b .nil hx ha hdb he hpl
/-- a def that may raise, called where it is caught, or let out -/
theorem pe_calS {E : L2.St → XK} (C : Cal X.prog X.w X.K X.mg X.base CX k x st ps sp) (hr : Room k X.A) (hg : Gl X x) (hx : ∀ σ, PassesAt CX X σ (E σ))
    (ha : PA X (e :: es) t) (hdb : (x == ("__debug__" : Str)) = false := by decide) (he : starEach (e :: es) X.env = (false, eval e X.env) :: starEach es X.env := by rfl) (hpl : (backTo pos (starEach es X.env)).any (·.1) = false := by rfl) :
    PE X (.Call (.Name x p) (e :: es) [] pos) (tCallS sp E t) := by
  obtain ⟨f, fd, F, m, kp, b, o⟩ := C
  exact pe_callS F hr hg m kp b hx ha hdb he hpl
end
/-- f(k = v, ..): ix tells, for each parameter, the place of its keyword among those written -/
def kwV (ix : List Nat) (zs : List V) : List V := ix.map fun i => zs.getD i .non
def kwU (ix : List Nat) (zs : List Value) : List Value := ix.map fun i => zs.getD i .none
theorem kw_rel {vs : List V} {us : List Value} (r : Vals vs us) : ∀ ix : List Nat, Vals (kwV ix vs) (kwU ix us)
  | [] => .nil
  | i :: ix => by
    refine .cons ?_ (kw_rel r ix)
    have go : ∀ {vs : List V} {us : List Value}, Vals vs us → ∀ i : Nat, RelV (vs.getD i .non) (us.getD i .none) := by
      intro vs us r
      induction r with
      | nil => intro i; exact rfl
      | cons h _ ih =>
        intro i
        cases i with
        | zero => exact h
        | succ i => exact ih i
    exact go r i
/-- how the keywords of such a call bind -/
def Kw (x : Str) (st : Stmt) (ps ks : List Str) (ix : List Nat) : Prop := ix.length = ps.length ∧ ∀ (kV dc pm : Value) (an : Option Addr) (cd ct : Value) (s : Shared) (ws : List Value), ws.length = ks.length →
  BindsTo s (PySem.W.fnOf x x (defArgs st) (defBody st) (defScope st) .none kV dc pm an cd ct) ⟨[], ks.zip ws⟩ (ps.zip (kwU ix ws))
section
variable {X : Cx} {CX : CXT} {k : Nat} {ps ks : List Str} {sp : Sp} {E : XK} {x : Str} {p pos : Pos} {st : Stmt} {kws : List Keyword} {tk : TA} {ix : List Nat}
def tCalK (sp : Sp) (ix : List Nat) (n : Nat) (E : XK) (tk : TA) : TE := fun σ H Q => tk σ H fun zs H2 => zs.length = n ∧ sp (kwV ix zs) H2 Q E
theorem pe_calK (C : Cal X.prog X.w X.K X.mg X.base CX k x st ps sp) (hr : Room k X.A) (hg : Gl X x) (hx : Passes CX X E) (hb : Kw x st ps ks ix)
    (hkw : PK X kws tk) (hall : (backToKw pos (keywordEach kws X.env)).all (·.1.isSome) = true := by rfl) (hks : (backToKw pos (keywordEach kws X.env)).filterMap (·.1) = ks := by rfl)
    (hdb : (x == ("__debug__" : Str)) = false := by decide) (hpl : ((backTo pos (starEach [] X.env)).any (·.1) || (backToKw pos (keywordEach kws X.env)).any (·.1.isNone)) = false := by rfl) :
    PE X (.Call (.Name x p) [] kws pos) (tCalK sp ix ks.length E tk) := by
  obtain ⟨f, fd, F, m, kp, b, ⟨kV, dc, pm, an, cd, ct, rfl⟩⟩ := C
  refine ⟨fun pins s σ H Q I h => ?_⟩
  refine wpAny_Call_Name_kw (ld_glob I hg m ?_ hdb)
  refine PySem.W.callWith_KW0 (h₀ := X.base) I.ok.mod.kin kp hall (thn (hkw.run pos pins s σ H _ I h) fun ws s2 ⟨zs, H2, I2, rz, hl, q2⟩ => ⟨I2.kIn, ?_⟩) hpl
  rw [hks]
  have hl2 : ws.length = ks.length := by rw [← rz.length]; exact hl
  have r2 := kw_rel rz ix
  refine wpAny_call (codeAny_mono (F.run X.A X.stack s2 H2 ⟨[], ks.zip ws⟩ (kwU ix ws) (kwV ix zs) _ E hr I2.env0 (hb.2 _ _ _ _ _ _ s2 ws hl2) r2 q2) fun r s' hq => ?_)
  cases r with
  | error e => exact hx pins σ H2 s2 e s' I2 hq
  | ok fl =>
    cases fl with
    | ret u => exact I2.after hq
    | next => exact False.elim hq
    | brk => exact False.elim hq
    | cont => exact False.elim hq
theorem pe_calKG (C : CalG X.prog X.w X.K X.mg X.base CX k x st ps sp) (gd : X.A.guards = some []) (hr : Room k X.A) (hg : Gl X x) (hx : Passes CX X E) (hb : Kw x st ps ks ix)
    (hkw : PK X kws tk) (hall : (backToKw pos (keywordEach kws X.env)).all (·.1.isSome) = true := by rfl) (hks : (backToKw pos (keywordEach kws X.env)).filterMap (·.1) = ks := by rfl)
    (hdb : (x == ("__debug__" : Str)) = false := by decide) (hpl : ((backTo pos (starEach [] X.env)).any (·.1) || (backToKw pos (keywordEach kws X.env)).any (·.1.isNone)) = false := by rfl) :
    PE X (.Call (.Name x p) [] kws pos) (tCalK sp ix ks.length E tk) := by
  obtain ⟨f, fd, F, m, kp, b, ⟨kV, dc, pm, an, cd, ct, rfl⟩⟩ := C
  refine ⟨fun pins s σ H Q I h => ?_⟩
  refine wpAny_Call_Name_kw (ld_glob I hg m ?_ hdb)
  refine PySem.W.callWith_KW0 (h₀ := X.base) I.ok.mod.kin kp hall (thn (hkw.run pos pins s σ H _ I h) fun ws s2 ⟨zs, H2, I2, rz, hl, q2⟩ => ⟨I2.kIn, ?_⟩) hpl
  rw [hks]
  have hl2 : ws.length = ks.length := by rw [← rz.length]; exact hl
  have r2 := kw_rel rz ix
  refine wpAny_call (codeAny_mono (F.go X.A X.stack s2 H2 ⟨[], ks.zip ws⟩ (kwU ix ws) (kwV ix zs) _ E gd hr I2.env0 (hb.2 _ _ _ _ _ _ s2 ws hl2) r2 q2) fun r s' hq => ?_)
  cases r with
  | error e => exact hx pins σ H2 s2 e s' I2 hq
  | ok fl =>
    cases fl with
    | ret u => exact I2.after hq
    | next => exact False.elim hq
    | brk => exact False.elim hq
    | cont => exact False.elim hq
end
/-! ### what the head finds -/
/-- a def as the top has left it -/
def FnF (K : PySem.W.Frag) (nm q : Str) (st : Stmt) (f : Addr) : Prop := ∃ (oc : Value) (od : Option Addr) (kV dc pm : Value) (an : Option Addr) (cd ct : Value) (sl : Array (Option Value)),
  K.lookup f = some ⟨oc, od, .func (PySem.W.fnOf nm q (defArgs st) (defBody st) (defScope st) .none kV dc pm an cd ct), sl⟩ ∧ PySem.W.codeIn K cd q = true ∧ PySem.W.keepIn K (.ref f) = true
theorem FnF.mk2 {K : PySem.W.Frag} {nm q : Str} {st : Stmt} {f : Addr} {oc : Value} {od : Option Addr} {kV dc pm : Value} {an : Option Addr} {cd ct : Value} {sl : Array (Option Value)}
    (l : K.lookup f = some ⟨oc, od, .func (PySem.W.fnOf nm q (defArgs st) (defBody st) (defScope st) .none kV dc pm an cd ct), sl⟩) (c : PySem.W.codeIn K cd q = true) (k : PySem.W.keepIn K (.ref f) = true) : FnF K nm q st f := ⟨oc, od, kV, dc, pm, an, cd, ct, sl, l, c, k⟩
theorem FnF.def_ {K : PySem.W.Frag} {mg : Str → Option Value} {h : Heap} (X : K.In h) (G : h.Ns mainGlobals mg) {x : Str} {st : Stmt} {ps : List Str} {f : Addr} (z : PySem.W.nsIn K mainGlobals x = some (some (.ref f))) (y : FnF K x x st f)
    (b : ∀ (kV doc pm : Value) (an : Option Addr) (cdv ct : Value) (us : List Value), us.length = ps.length → bindArgs (PySem.W.fnOf x x (defArgs st) (defBody st) (defScope st) .none kV doc pm an cdv ct) ⟨us, []⟩ = pure (ps.zip us)) : Def K mg x st ps := by
  obtain ⟨oc, od, kV, dc, pm, an, cd, ct, sl, l, c, kp⟩ := y
  exact ⟨f, _, fun_mk l c kp, PySem.W.mg_of X G z, .all (b kV dc pm an cd ct), kV, dc, pm, an, cd, ct, rfl⟩
end Wb

set_option Elab.async false
set_option linter.all false
set_option maxRecDepth 100000
set_option maxHeartbeats 4000000
/-! Wc1: own exceptions by their names: what the head finds of them, how they are raised, caught, asked. -/
namespace Wb
open PySem PySem.Spec PyProof.Rows L2
section
variable {K : PySem.W.Frag}
/-- an own exception's class as the top has left it: what stands above it in its chain, and how it is made -/
def ClsRow (K : PySem.W.Frag) (C : Addr) (top : List Value) (newId : String) : Prop :=
  ∃ (nm q : Str) (N : Addr) (bs : List Value) (sn : List Str) (sub : List Value) (ab : Bool) (col : Option Bool) (dd : Option Addr) (k0 k1 k2 k3 k5 : Option Value),
    K.lookup C = some (excClassObj nm q C N bs top true sn sub ab col dd k0 k1 k2 k3 k5 newId)
structure EF (K : PySem.W.Frag) (C : Addr) (top : List Value) (newId : String) : Prop where
  row : ClsRow K C top newId
  sa : PySem.W.findIn K (.ref C) "__setattr__" = some (some (.builtin "object.__setattr__"))
  ga : PySem.W.findIn K (.ref C) "__getattribute__" = some (some (.builtin "BaseException.__getattribute__"))
  gg : PySem.W.findIn K (.ref C) "__getattr__" = some none
  exc : PySem.W.subIn K (.ref C) (.type "BaseException") = some true
  ty : PySem.W.typeIn K (.ref C) = some (.type "type")
  hd : PySem.W.hasDictIn K C = true
  kp : PySem.W.keepIn K (.ref C) = true
  hc : PySem.W.findIn K (.ref C) "__class__" = some (some (.builtin "object.__class__"))
  hm : PySem.W.mroIn K C (.type "object") = some true
theorem EF.err {C : Addr} {top : List Value} {newId B initId S : String} {bmB bmS : List Value} (e : EF K C top newId) (FB : PySem.ExcBaseFacts B newId initId bmB) (SF : PySem.StoreFacts S bmS "object.__setattr__" "object") (ch : PySem.WbE.Chain top B)
    (tl : PySem.W.excTail bmS top = true) (hn : PySem.W.specialIn K (.builtin "object.__class__") "__get__" = some (some (.builtin "getset_descriptor.__get__"))) (ht : PySem.W.takesIn K (.builtin "object.__class__") = some true) : ErrC K C := by
  obtain ⟨nm, q, N, bs, sn, sub, ab, col, dd, k0, k1, k2, k3, k5, xL⟩ := e.row
  refine ⟨⟨B, newId, initId, bmB, nm, q, N, bs, top, sn, sub, ab, col, dd, k0, k1, k2, k3, k5, FB, ch, xL⟩, ⟨S, bmS, SF, ?_⟩, e.sa, e.ga, e.gg, e.exc, e.ty, e.hd, e.kp, e.hc, hn, ht, e.hm⟩
  unfold PySem.W.excOver PySem.W.clsIn
  rw [xL]
  show (C == C && PySem.W.excTail bmS top) = true
  rw [tl]
  simp
/-- what is below what -/
structure Row (K : PySem.W.Frag) (C : Addr) (top : List Value) : Prop where
  sub : ∀ v, PySem.W.subIn K (.ref C) v = some ((Value.ref C :: top).contains v)
  cls : (PySem.W.clsIn K C).isSome = true
  ty : PySem.W.typeIn K (.ref C) = some (.type "type")
theorem EF.chain {C : Addr} {top : List Value} {newId : String} (e : EF K C top newId) : Row K C top := by
  obtain ⟨nm, q, N, bs, sn, sub, ab, col, dd, k0, k1, k2, k3, k5, xL⟩ := e.row
  refine ⟨fun v => ?_, ?_, e.ty⟩
  · show PySem.W.mroIn K C v = _
    unfold PySem.W.mroIn PySem.W.clsIn
    rw [xL]
    rfl
  · unfold PySem.W.clsIn
    rw [xL]
    rfl
theorem Row.one_ty {C : Addr} {top : List Value} {X : String} (r : Row K C top) (km : PySem.W.kitMeta X = true) : PySem.W.kitOne K (.ref C) (.type X) = some (top.contains (.type X)) := by
  unfold PySem.W.kitOne
  rw [if_neg (by simp)]
  show (if PySem.W.kitMeta X = true then PySem.W.subIn K (.ref C) (.type X) else none) = _
  rw [if_pos km, r.sub]
  simp
theorem Row.one_ref {C D : Addr} {top up : List Value} (r : Row K C top) (r2 : Row K D up) : PySem.W.kitOne K (.ref C) (.ref D) = some (decide (C = D) || top.contains (.ref D)) := by
  unfold PySem.W.kitOne
  by_cases h : C = D
  · subst h
    rw [if_pos (by simp)]
    simp
  · rw [if_neg (by simpa using h)]
    show (if ((PySem.W.clsIn K D).isSome && PySem.W.typeIn K (.ref D) == some (.type "type")) = true then PySem.W.subIn K (.ref C) (.ref D) else none) = _
    rw [r2.cls, r2.ty, if_pos (by simp), r.sub]
    have h' : ¬ D = C := fun e => h e.symm
    simp [h, h']
theorem Row.exm_ref {C D : Addr} {top up : List Value} (r : Row K C top) (r2 : Row K D up) (b : up.contains (.type "BaseException") = true) : PySem.W.exmOne K (.ref C) (.ref D) = some (decide (C = D) || top.contains (.ref D)) := by
  unfold PySem.W.exmOne
  rw [r2.sub, if_pos (by rw [List.contains_cons, b]; simp)]
  show (if ((PySem.W.clsIn K D).isSome && PySem.W.typeIn K (.ref D) == some (.type "type")) = true then PySem.W.subIn K (.ref C) (.ref D) else none) = _
  rw [r2.cls, r2.ty, if_pos (by simp), r.sub]
  by_cases h : C = D
  · subst h
    simp
  · have h' : ¬ D = C := fun e => h e.symm
    simp [h, h']
theorem Row.exm_ty {C : Addr} {top : List Value} {X : String} (r : Row K C top) (km : PySem.W.kitMeta X = true) (b : PySem.W.subIn K (.type X) (.type "BaseException") = some true) : PySem.W.exmOne K (.ref C) (.type X) = some (top.contains (.type X)) := by
  unfold PySem.W.exmOne
  rw [b, if_pos (by simp)]
  show (if PySem.W.kitMeta X = true then PySem.W.subIn K (.ref C) (.type X) else none) = _
  rw [if_pos km, r.sub]
  simp
theorem ClsRow.mk2 {C : Addr} {top : List Value} {newId : String} {nm q : Str} {N : Addr} {bs : List Value} {sn : List Str} {sub : List Value} {ab : Bool} {col : Option Bool} {dd : Option Addr} {k0 k1 k2 k3 k5 : Option Value}
    (l : K.lookup C = some (excClassObj nm q C N bs top true sn sub ab col dd k0 k1 k2 k3 k5 newId)) : ClsRow K C top newId := ⟨nm, q, N, bs, sn, sub, ab, col, dd, k0, k1, k2, k3, k5, l⟩

end
def topE (CB : Addr) : List Value := [.ref CB, .type "Exception", .type "BaseException", .type "object"]
def topK : List Value := [.type "KeyError", .type "LookupError", .type "Exception", .type "BaseException", .type "object"]
def topB : List Value := [.type "Exception", .type "BaseException", .type "object"]
section
variable (P : Program) (w : World) (K : PySem.W.Frag) (mg : Str → Option Value) (base : Heap)
/-- an own exception with one field -/
structure Err (x fld : Str) (C : Addr) (top : List Value) : Prop where
  T : ErrC K C
  g : mg x = some (.ref C)
  row : Row K C top
  no : PySem.W.findIn K (.ref C) fld = some none
  ini : ∃ (fI : Addr) (fd : FuncData), PySem.W.findIn K (.ref C) "__init__" = some (some (.ref fI)) ∧ PySem.W.typeIn K (.ref fI) = some (.type "function") ∧ FnOk P w K mg base CX0 1 fI fd ["self", fld] (spIni C fld) ∧ Binds K fd ["self", fld] []
/-- an own exception without fields -/
structure ErrB (K : PySem.W.Frag) (mg : Str → Option Value) (x : Str) (C : Addr) (top : List Value) : Prop where
  T : ErrC K C
  g : mg x = some (.ref C)
  row : Row K C top
end
section
variable {P : Program} {w : World} {K : PySem.W.Frag} {mg : Str → Option Value} {base : Heap} {x fld y g : Str} {C D B : Addr} {top : List Value}
theorem Err.exm_self (Z : Err P w K mg base x fld C top) (h : top.contains (.type "BaseException") = true) : PySem.W.exmOne K (.ref C) (.ref C) = some true := by
  rw [Z.row.exm_ref Z.row h]
  simp
theorem Err.is_self (Z : Err P w K mg base x fld C top) : PySem.W.kitOne K (.ref C) (.ref C) = some true := by
  rw [Z.row.one_ref Z.row]
  simp
theorem Err.is_base (Z : Err P w K mg base x fld C (topE B)) (ZB : ErrB K mg y B topB) : PySem.W.kitOne K (.ref C) (.ref B) = some true := by
  rw [Z.row.one_ref ZB.row]
  simp [topE]
theorem Err.isnt {up : List Value} (Z : Err P w K mg base x fld C (topE B)) (Y : Err P w K mg base y g D up) (h1 : C ≠ D) (h2 : D ≠ B) : PySem.W.kitOne K (.ref C) (.ref D) = some false := by
  rw [Z.row.one_ref Y.row]
  simp [topE, h1, h2]
end
section
variable {X : Cx} {x fld : Str} {C : Addr} {top : List Value} {k : Nat} {p pos : Pos} {e : Expr} {es : List Expr} {ta : TA}
/-- raise C(e) -/
theorem pmk_E (Z : Err X.prog X.w X.K X.mg X.base x fld C top) (hr : Room k X.A) (hk : 2 ≤ k) (hg : Gl X x) (ha : PA X (e :: es) ta) (hdb : (x == ("__debug__" : Str)) = false := by decide)
    (he : starEach (e :: es) X.env = (false, eval e X.env) :: starEach es X.env := by rfl) (hpl : (backTo pos (starEach es X.env)).any (·.1) = false := by rfl) : PMk X (.Call (.Name x p) (e :: es) [] pos) (tErrX C fld ta) := by
  obtain ⟨fI, fd, iC, tI, F1, hb⟩ := Z.ini
  exact pmk_err Z.T iC tI F1 (hr.mono hk) hb pass0 hg Z.g ha hdb he hpl
end
end Wb

set_option Elab.async false
set_option linter.all false
set_option maxRecDepth 100000
set_option maxHeartbeats 4000000
/-! Wc2: the law's own call, for a def by its name; the head's ends. -/
namespace Wb
open PySem PySem.Spec PyProof.Rows L2

/-- the law's def, promised where no repr runs, called from outside -/
theorem lawG2 {P : Program} {w : World} {K : PySem.W.Frag} {mg mb : Str → Option Value} {CX : CXT} {k : Nat} {fa a : Addr} {x : Str} {sp : Sp} {st : Shared} {vs : List Value} {ns : List Int}
    (inK : K.In st.heap) (names : st.heap.Ns mainGlobals mg) (bns : st.heap.Ns builtinsNs mb) (boot : ∀ x : Str, x ≠ "__name__" → mb x = bootBuiltins x) (lim : st.heap.NoLimit) (nogen : st.gens = #[])
    (atA : st.heap.get? a = some { cls := .type "list", data := .seq vs.toArray }) (areInts : IntsAre vs ns) (short : ns.length ≤ sizeLine) (room : Room k callerA)
    (F : ∀ base : Heap, K.In base → base.Ns mainGlobals mg → ∃ fd : FuncData, (∀ (s : Shared) (u : Value), BindsTo s fd ⟨[u], []⟩ [(x, u)]) ∧ FnG P w K mg base CX k fa fd [x] sp)
    (want : ∀ H : Hp, Only H → SqL K H a (ns.map V.int) → sp [.ref a] H (fun v _ => v = .bl true) fun _ _ _ => False)
    (noX : ∀ H e s', CX [] H st (fun _ _ _ => False) e s' → False) :
    codeAny (model P w) callerA (.call (.ref fa) ⟨[.ref a], []⟩) (fun r s' => r = .ok (.ret (.bool true)) ∧ OldK st.heap s'.heap ∧ s'.os = st.os ∧ AllBare s'.gens) st := by
  have rel := vals_ints areInts
  have same := areInts.length
  -- what is told of any abstract heap that tracks the script at most
  suffices go : ∀ H : Hp, Only H → SqL K H a (ns.map V.int) → HOk P w H st.heap → (∀ b, H b ≠ none → b = a) → (H a ≠ none → K.lookup a = none) →
      codeAny (model P w) callerA (.call (.ref fa) ⟨[.ref a], []⟩) (fun r s' => r = .ok (.ret (.bool true)) ∧ OldK st.heap s'.heap ∧ s'.os = st.os ∧ AllBare s'.gens) st by
    rcases own : K.lookup a with _ | ob
    · -- the script is tracked, as a thing that stands still
      let frozen : HO := .frz { cls := .type "list", data := .seq vs.toArray } (.lst (ns.map V.int))
      refine go (fun b => if b = a then some frozen else none) ?_ ?_ ?_ ?_ (fun _ => own)
      · intro b
        by_cases e : b = a
        · exact Or.inr ⟨_, _, if_pos e⟩
        · exact Or.inl (if_neg e)
      · exact Or.inl (Or.inr ⟨_, if_pos rfl⟩)
      · intro b u e
        by_cases h : b = a
        · subst h
          cases (if_pos rfl).symm.trans e
          exact ⟨atA, by simpa using short, vs, _, rel, atA⟩
        · cases (if_neg h).symm.trans e
      · intro b e
        by_cases h : b = a
        · exact h
        · exact absurd (if_neg h) e
    · -- the script is one of the module's own objects
      have there := inK a ob own
      rw [atA] at there
      cases there
      refine go (fun _ => none) (fun _ => Or.inl rfl) ?_ (fun b u e => ?_) (fun b e => absurd rfl e) (fun e => absurd rfl e)
      · exact Or.inr ⟨_, vs.toArray, _, own, rfl, rfl, rfl, by rw [List.size_toArray, same]; exact short, by simpa using rel⟩
      · have e' : (none : Option HO) = some u := e
        cases e'
  intro H only seq ok just notK
  have keepB : ∀ {b : Addr} {o : Obj}, st.heap.get? b = some o → H b = none → (hidT st.heap H).get? b = some o := fun e n => hidT_get e n
  have dictFree : ∀ {b : Addr} {o : Obj} {es : Array DictEntry} {ep : Nat}, st.heap.get? b = some o → o.data = .dict es ep → H b = none := by
    intro b o es ep e d
    by_cases q : H b = none
    · exact q
    · have h := just b q
      subst h
      rw [atA] at e
      cases e
      have d' : Data.seq vs.toArray _ = Data.dict es ep := d
      cases d'
  have nsIn : ∀ {b : Addr} {m : Str → Option Value}, st.heap.Ns b m → (hidT st.heap H).Ns b m := by
    rintro b m ⟨o, es, ep, e, d, r⟩
    exact ⟨o, es, ep, keepB e (dictFree e d), d, r⟩
  have inBase : K.In (hidT st.heap H) := by
    intro b o e
    refine keepB (inK b o e) ?_
    by_cases q : H b = none
    · exact q
    · have h := just b q
      subst h
      rw [notK q] at e
      cases e
  have md : Mod K mg (hidT st.heap H) := by
    obtain ⟨mc, l1, l2⟩ := lim
    exact ⟨inBase, nsIn names, ⟨mb, nsIn bns, boot⟩, ⟨mc, nsIn l1, l2⟩⟩
  have env0 : Env0 P w K mg (hidT st.heap H) callerA [] st H :=
    ⟨rfl, md, fun b o e => of_hidT e, Nat.le_of_eq (hidT_size _ _), trivial, fun b hb => absurd (show b ∈ ([] : List Addr) from hb) (by simp), ok, .of_eq nogen⟩
  obtain ⟨fd, bind1, FF⟩ := F _ inBase (nsIn names)
  have ran := FF.go callerA [] st H ⟨[.ref a], []⟩ [.ref a] [.ref a] _ _ rfl room env0 (bind1 st (.ref a)) (.cons rfl .nil) (want H only seq)
  refine codeAny_mono ran ?_
  intro r s' h
  match r, h with
  | .error e, h => exact (noX H e s' h).elim
  | .ok (.ret u), h =>
    obtain ⟨v, H', os, bare, un, ok', rv, q⟩ := h
    have q' : v = .bl true := q
    subst q'
    obtain rfl : u = Value.bool true := rv
    refine ⟨rfl, OldK.of_keep ?_, os, bare⟩
    intro b o e
    by_cases q : H b = none
    · exact un.keep b o e q (fun z => absurd (show b ∈ ([] : List Addr) from z) (by simp)) (by simp)
    · rcases only b with z | ⟨ob, xs, z⟩
      · exact absurd z q
      · obtain ⟨e1, _⟩ := ok b _ z
        obtain ⟨e2, _⟩ := ok' b _ (un.frzs b ob _ z)
        rw [e] at e1
        cases e1
        exact e2

/-- the goal that the head leaves, from such a promise of the law's def -/
theorem walkG2 {l : PySem.W.OpenLaw} {n k : Nat} {q : Program} {loose : List Str} {XP : (Str → Option Value) → Heap → Prop} {YP : World → Heap → Prop} {d : DefRec} {K : Params → PySem.W.Frag} {CX : World → CXT} {sp : World → Sp} {x : Str}
    (h1 : l.most = some n) (h2 : n ≤ sizeLine) (h3 : d.params.defaults = []) (room : Room k callerA) (hY : ∀ (w : World) (h : Heap), YP w h → (K w.params).In h)
    (F : ∀ (w : World) (mg : Str → Option Value) (fa : Addr) (h : Heap), (K w.params).In h → h.Ns mainGlobals mg → mg d.name = some (.ref fa) →
      ∀ base : Heap, (K w.params).In base → base.Ns mainGlobals mg → ∃ fd : FuncData, (∀ (s : Shared) (u : Value), BindsTo s fd ⟨[u], []⟩ [(x, u)]) ∧ FnG l.prog w (K w.params) mg base (CX w) k fa fd [x] (sp w))
    (want : ∀ (w : World) (H : Hp) (a : Addr) (ns : List Int), ns.length ≤ n → Only H → SqL (K w.params) H a (ns.map V.int) → sp w [.ref a] H (fun v _ => v = .bl true) fun _ _ _ => False)
    (noX : ∀ (w : World) (H : Hp) (s : Shared) (e : Value) (s' : Shared), CX w [] H s (fun _ _ _ => False) e s' → False) :
    PySem.W.WalkO q loose XP YP l.row.toRowW d [] (fun f vs => PySem.call f vs) := by
  apply Att.attach_call h1 h3
  intro w s₀ s₁ mg mb fa o pm cd doc a vs ns G Y ho hd hcd hmg hobj hints hlen hg
  have inK := hY w _ Y
  have hF := F w mg fa _ inK G.T.g hmg
  exact lawG2 inK G.T.g G.T.b G.T.builtins G.T.nolimit hg hobj hints (Nat.le_trans hlen h2) room hF (fun H hO hS => want w H a ns hlen hO hS) fun H e s' => noX w H s₁ e s'
theorem FnF.fn {K : PySem.W.Frag} {nm q : Str} {st : Stmt} {f : Addr} (h : FnF K nm q st f) : ∃ (kV dc pm : Value) (an : Option Addr) (cd ct : Value), Fun K nm q st f (PySem.W.fnOf nm q (defArgs st) (defBody st) (defScope st) .none kV dc pm an cd ct) := by
  obtain ⟨oc, od, kV, dc, pm, an, cd, ct, sl, l, c, k⟩ := h
  exact ⟨kV, dc, pm, an, cd, ct, fun_mk l c k⟩
/-- what the head needs of the law -/
theorem CalG.law {P : Program} {w : World} {K : PySem.W.Frag} {mg : Str → Option Value} {base : Heap} {k : Nat} {st : Stmt} {sp : Sp} {fa : Addr} (C : CalG P w K mg base CX0 k "law" st ["script"] sp) (hfa : mg "law" = some (.ref fa))
    (hb : ∀ (kV dc pm : Value) (an : Option Addr) (cd ct : Value) (s : Shared) (u : Value), BindsTo s (PySem.W.fnOf "law" "law" (defArgs st) (defBody st) (defScope st) .none kV dc pm an cd ct) ⟨[u], []⟩ [("script", u)]) :
    ∃ fd : FuncData, (∀ (s : Shared) (u : Value), BindsTo s fd ⟨[u], []⟩ [("script", u)]) ∧ FnG P w K mg base CX0 k fa fd ["script"] sp := by
  obtain ⟨f, fd, F, m, _, _, kV, dc, pm, an, cd, ct, rfl⟩ := C
  have e := m.symm.trans hfa
  cases e
  exact ⟨_, hb kV dc pm an cd ct, F⟩
/-- the law of a script -/
def spLaw (K : PySem.W.Frag) : Sp := fun vs H Q _ => ∃ (a : Addr) (ns : List Int), vs = [.ref a] ∧ SqL K H a (ns.map V.int) ∧ ns.length ≤ 63 ∧ ∀ H', Q (.bl true) H'
theorem walk2 {l : PySem.W.OpenLaw} {q : Program} {loose : List Str} {XP : (Str → Option Value) → Heap → Prop} {YP : World → Heap → Prop} {d : DefRec} {K : Params → PySem.W.Frag} {k : Nat} (room : Room k callerA) (hn : l.most = some 63) (hdf : d.params.defaults = [])
    (hY : ∀ (w : World) (h : Heap), YP w h → (K w.params).In h)
    (F : ∀ (w : World) (mg : Str → Option Value) (fa : Addr) (h : Heap), (K w.params).In h → h.Ns mainGlobals mg → mg d.name = some (.ref fa) →
      ∀ base : Heap, (K w.params).In base → base.Ns mainGlobals mg → ∃ fd : FuncData, (∀ (s : Shared) (u : Value), BindsTo s fd ⟨[u], []⟩ [("script", u)]) ∧ FnG l.prog w (K w.params) mg base CX0 k fa fd ["script"] (spLaw (K w.params))) :
    PySem.W.WalkO q loose XP YP l.row.toRowW d [] (fun f vs => PySem.call f vs) :=
  walkG2 (n := 63) (k := k) (x := "script") (CX := fun _ => CX0) (sp := fun w => spLaw (K w.params)) hn (by decide) hdf room hY F (fun _ _ a ns hl _ hS => ⟨a, ns, rfl, hS, hl, fun _ => rfl⟩) fun _ _ _ _ _ z => z
/-- a written tuple of ints -/
theorem tup_of {K : PySem.W.Frag} {a : Addr} {od : Option Addr} {its : Array Value} {n : Nat} {sl : Array (Option Value)} {xs : List V} (l : K.lookup a = some ⟨.type "tuple", od, .seq its n, sl⟩) (hz : its.size ≤ sizeLine) (r : Vals xs its.toList) : ∀ H, SqT K H a xs :=
  fun H => .inr ⟨_, its, n, l, rfl, rfl, hz, r⟩
end Wb

set_option Elab.async false
set_option linter.all false
set_option maxRecDepth 100000
set_option maxHeartbeats 4000000
/-! Wd0: what may be shown, ints of some hundred figures among it. -/
namespace Wb
open PySem PySem.Spec PyProof.Rows L2
/-- what repr asks of data -/
def Shw (d : PyData) : Prop := d.showable = true ∧ d.hasDict = false ∧ d.depth ≤ 60 ∧ d.shown.length ≤ sizeLine
structure Tb (n W : Nat) (e : PyData) : Prop where
  shows : e.showable = true
  noDict : e.hasDict = false
  deep : e.depth ≤ n
  short : e.leavesShort 2000 = true
  light : e.bulk ≤ W
structure TbAll (n W : Nat) (es : List PyData) : Prop where
  shows : PyData.showableAll es = true
  noDict : PyData.hasDictAll es = false
  deep : PyData.depthAll es ≤ n
  short : PyData.leavesShortAll 2000 es = true
  light : PyData.bulkAll es ≤ W
theorem Tb.shw {n W : Nat} {e : PyData} (t : Tb n W e) (h : n ≤ 60 := by decide) (hw : W ≤ 8000 := by decide) : Shw e := by
  refine ⟨t.shows, t.noDict, Nat.le_trans t.deep h, ?_⟩
  have q := PyData.shown_le_bulk 2000 (by decide) e t.short
  have l := t.light
  rw [sizeLine_eq]
  omega
theorem Tb.more {n m W Z : Nat} {e : PyData} (t : Tb n W e) (h1 : n ≤ m) (h2 : W ≤ Z) : Tb m Z e :=
  ⟨t.shows, t.noDict, Nat.le_trans t.deep h1, t.short, Nat.le_trans t.light h2⟩
theorem TbAll.nil {n : Nat} : TbAll n 0 [] := ⟨by simp [PyData.showableAll], by simp [PyData.hasDictAll], by simp [PyData.depthAll], by simp [PyData.leavesShortAll], by simp [PyData.bulkAll]⟩
theorem TbAll.cons {n V W : Nat} {e : PyData} {es : List PyData} (t : Tb n V e) (h : TbAll n W es) : TbAll n (V + 1 + W) (e :: es) := by
  obtain ⟨a1, a2, a3, a4, a5⟩ := t
  obtain ⟨b1, b2, b3, b4, b5⟩ := h
  refine ⟨by simp [PyData.showableAll, a1, b1], by simp [PyData.hasDictAll, a2, b2], ?_, by simp [PyData.leavesShortAll, a4, b4], ?_⟩
  · simp only [PyData.depthAll]
    exact Nat.max_le.mpr ⟨a3, b3⟩
  · simp only [PyData.bulkAll]
    omega
theorem TbAll.of {n W : Nat} : ∀ {es : List PyData}, (∀ e ∈ es, Tb n W e) → TbAll n (es.length * (W + 1)) es
  | [], _ => by
    have := TbAll.nil (n := n)
    simpa using this
  | e :: es, h => by
    have a := TbAll.cons (h e List.mem_cons_self) (TbAll.of fun x hx => h x (List.mem_cons_of_mem _ hx))
    have q : (e :: es).length * (W + 1) = W + 1 + es.length * (W + 1) := by
      rw [List.length_cons, Nat.succ_mul]
      omega
    rw [q]
    exact a
theorem TbAll.more {n m W Z : Nat} {es : List PyData} (t : TbAll n W es) (h1 : n ≤ m) (h2 : W ≤ Z) : TbAll m Z es :=
  ⟨t.shows, t.noDict, Nat.le_trans t.deep h1, t.short, Nat.le_trans t.light h2⟩
theorem TbAll.list {n W : Nat} {es : List PyData} (h : TbAll n W es) : Tb (n + 1) W (.list es) := by
  obtain ⟨b1, b2, b3, b4, b5⟩ := h
  refine ⟨by simpa [PyData.showable] using b1, by simpa [PyData.hasDict] using b2, ?_, by simpa [PyData.leavesShort] using b4, by simpa [PyData.bulk] using b5⟩
  simp only [PyData.depth]
  omega
theorem TbAll.tuple {n W : Nat} {es : List PyData} (h : TbAll n W es) : Tb (n + 1) W (.tuple es) := by
  obtain ⟨b1, b2, b3, b4, b5⟩ := h
  refine ⟨by simpa [PyData.showable] using b1, by simpa [PyData.hasDict] using b2, ?_, by simpa [PyData.leavesShort] using b4, by simpa [PyData.bulk] using b5⟩
  simp only [PyData.depth]
  omega
theorem tb_none : Tb 0 0 .none := ⟨by decide +kernel, by decide +kernel, by decide +kernel, by decide +kernel, by decide +kernel⟩
theorem tb_bool (b : Bool) : Tb 0 0 (.bool b) := by cases b <;> exact ⟨by decide +kernel, by decide +kernel, by decide +kernel, by decide +kernel, by decide +kernel⟩
theorem tb_int {i : Int} (h : i.natAbs < 2 ^ 1900) : Tb 0 0 (.int i) := by
  have l : i.natAbs.log2 < 1900 := log_le h (by decide)
  refine ⟨?_, by simp [PyData.hasDict], by simp [PyData.depth], ?_, by simp [PyData.bulk]⟩
  · simp only [PyData.showable, decide_eq_true_eq]
    omega
  · simp only [PyData.leavesShort, decide_eq_true_eq]
    have := int_text_length_le (a := i) (by decide) l
    show (Str.ofString (toString i)).length ≤ 2000
    have e : (Str.ofString (toString i)).length = (toString i).length := by
      rw [Str.ofString_eq_toList]
      simp [Str.length]
      exact String.length_toList
    rw [e]
    omega
theorem tb_str {x : Str} {n : Nat} (h : ∀ a ∈ x.cps.toList, a < 16 ^ 8) (few : x.length ≤ n) : Tb 0 n (.str x) := by
  refine ⟨by simp [PyData.showable], by simp [PyData.hasDict], by simp [PyData.depth], ?_, ?_⟩
  · simp only [PyData.leavesShort, List.all_eq_true, decide_eq_true_eq]
    exact h
  · simp only [PyData.bulk]
    exact few
end Wb

set_option Elab.async false
set_option linter.all false
set_option maxRecDepth 100000
set_option maxHeartbeats 4000000
/-! Wv0: what an expression is worth, told apart from what may change: a base heap that only grows, values by relations. -/
namespace Wv
open PySem PySem.Spec PyProof.Rows L2 Wb

/-- a base within a heap, and both later: nothing hidden comes into the base -/
structure Ext (B H B' H' : Hp) : Prop where
  hh : Same H H'
  bb : Same B B'
  bh : Same B' H'
  nw : ∀ b, H b ≠ none → B b = none → B' b = none
theorem Ext.refl {B H : Hp} (s : Same B H) : Ext B H B H := ⟨Same.refl _, Same.refl _, s, fun _ _ h => h⟩
theorem Ext.trans {B H B1 H1 B2 H2 : Hp} (a : Ext B H B1 H1) (b : Ext B1 H1 B2 H2) : Ext B H B2 H2 :=
  ⟨a.hh.trans b.hh, a.bb.trans b.bb, b.bh, fun x h1 h2 => by
    refine b.nw x ?_ (a.nw x h1 h2)
    cases e : H x with
    | none => exact absurd e h1
    | some o =>
      rw [a.hh x o e]
      exact fun z => nomatch z⟩
/-- a new object, in the base too -/
theorem Ext.new {B H : Hp} {p : Addr} {o : HO} (s : Same B H) (h : H p = none) : Ext B H (upd B p o) (upd H p o) :=
  ⟨new_same h, new_same (s.free h), fun b u z => by
    by_cases e : b = p
    · subst e
      rw [upd_same] at *
      exact z
    · rw [upd_ne e] at *
      exact s b u z, fun b h1 h2 => by
    have e : b ≠ p := fun e => h1 (by rw [e]; exact h)
    rw [upd_ne e]
    exact h2⟩
/-- .. of the heap alone -/
theorem Ext.own {B H : Hp} {p : Addr} {o : HO} (s : Same B H) (h : H p = none) : Ext B H B (upd H p o) :=
  ⟨new_same h, Same.refl _, s.trans (new_same h), fun _ _ h => h⟩

/-! ### relations -/
abbrev Rel := Hp → V → Prop
class Mo (R : Rel) : Prop where
  mo : ∀ {B B' : Hp} {v : V}, Same B B' → R B v → R B' v
def dat (K : PySem.W.Frag) (d : PyData) : Rel := fun B v => Dp K B v d
instance {K : PySem.W.Frag} {d : PyData} : Mo (dat K d) := ⟨fun s h => dpMono s d _ h⟩
def AllR : List Rel → Hp → List V → Prop
  | [], _, vs => vs = []
  | R :: Rs, B, vs => ∃ v r, vs = v :: r ∧ R B v ∧ AllR Rs B r
class MoA (Rs : List Rel) : Prop where
  mo : ∀ {B B' : Hp} {vs : List V}, Same B B' → AllR Rs B vs → AllR Rs B' vs
instance : MoA [] := ⟨fun _ h => h⟩
instance {R : Rel} {Rs : List Rel} [m : Mo R] [t : MoA Rs] : MoA (R :: Rs) := ⟨fun s ⟨v, r, e, h, g⟩ => ⟨v, r, e, m.mo s h, t.mo s g⟩⟩
theorem moA_of {Rs : List Rel} (h : ∀ R ∈ Rs, Mo R) : MoA Rs := by
  induction Rs with
  | nil => exact inferInstance
  | cons R Rs ih =>
    have := h R List.mem_cons_self
    have := ih fun R hR => h R (List.mem_cons_of_mem _ hR)
    exact inferInstance
instance {K : PySem.W.Frag} {ds : List PyData} : MoA (ds.map (dat K)) := moA_of fun R h => by
  obtain ⟨d, _, rfl⟩ := List.mem_map.mp h
  exact inferInstance
theorem allR_dp {K : PySem.W.Frag} {B : Hp} : ∀ {ds : List PyData} {vs : List V}, AllR (ds.map (dat K)) B vs → DpAll K B vs ds
  | [], _, h => by
    have h : _ = [] := h
    subst h
    exact .nil
  | d :: ds, _, h => by
    obtain ⟨v, r, rfl, h1, h2⟩ := h
    exact .cons h1 (allR_dp h2)
theorem dp_allR {K : PySem.W.Frag} {B : Hp} : ∀ {ds : List PyData} {vs : List V}, DpAll K B vs ds → AllR (ds.map (dat K)) B vs
  | _, _, .nil => rfl
  | _, _, .cons h t => ⟨_, _, rfl, h, dp_allR t⟩
theorem allR_len {B : Hp} : ∀ {Rs : List Rel} {vs : List V}, AllR Rs B vs → vs.length = Rs.length
  | [], _, h => by
    have h : _ = [] := h
    subst h
    rfl
  | R :: Rs, _, h => by
    obtain ⟨v, r, rfl, _, h2⟩ := h
    simp [allR_len h2]
theorem allR_at {B : Hp} : ∀ {Rs : List Rel} {vs : List V} {i : Nat} {v : V}, AllR Rs B vs → vs[i]? = some v → ∃ R, Rs[i]? = some R ∧ R B v
  | [], _, _, _, h, z => by
    have h : _ = [] := h
    subst h
    cases z
  | R :: Rs, _, 0, _, h, z => by
    obtain ⟨v, r, rfl, h1, _⟩ := h
    cases z
    exact ⟨R, rfl, h1⟩
  | R :: Rs, _, i + 1, _, h, z => by
    obtain ⟨v, r, rfl, _, h2⟩ := h
    exact allR_at (i := i) h2 z
theorem allR_of {B : Hp} : ∀ {Rs : List Rel} {vs : List V} {i : Nat} {R : Rel}, AllR Rs B vs → Rs[i]? = some R → ∃ v, vs[i]? = some v ∧ R B v
  | R :: Rs, _, 0, _, h, z => by
    obtain ⟨v, r, rfl, h1, _⟩ := h
    cases z
    exact ⟨v, rfl, h1⟩
  | R :: Rs, _, i + 1, _, h, z => by
    obtain ⟨v, r, rfl, _, h2⟩ := h
    exact allR_of (i := i) h2 z
theorem allR_app {B : Hp} : ∀ {Rs Ss : List Rel} {vs ws : List V}, AllR Rs B vs → AllR Ss B ws → AllR (Rs ++ Ss) B (vs ++ ws)
  | [], _, _, _, h, g => by
    have h : _ = [] := h
    subst h
    exact g
  | R :: Rs, _, _, _, h, g => by
    obtain ⟨v, r, rfl, h1, h2⟩ := h
    exact ⟨v, r ++ _, rfl, h1, allR_app h2 g⟩
theorem allR_snoc {B : Hp} {R : Rel} {Rs : List Rel} {vs : List V} {v : V} (h : AllR Rs B vs) (g : R B v) : AllR (Rs ++ [R]) B (vs ++ [v]) := allR_app h ⟨v, [], rfl, g, rfl⟩
/-- a list, a tuple of such -/
def lstR (K : PySem.W.Frag) (Rs : List Rel) : Rel := fun B v => ∃ a xs, v = .ref a ∧ SqL K B a xs ∧ AllR Rs B xs
def tupR (K : PySem.W.Frag) (Rs : List Rel) : Rel := fun B v => ∃ a xs, v = .ref a ∧ SqT K B a xs ∧ AllR Rs B xs
instance {K : PySem.W.Frag} {Rs : List Rel} [m : MoA Rs] : Mo (lstR K Rs) := ⟨fun s ⟨a, xs, e, h, g⟩ => ⟨a, xs, e, s.seq h, m.mo s g⟩⟩
instance {K : PySem.W.Frag} {Rs : List Rel} [m : MoA Rs] : Mo (tupR K Rs) := ⟨fun s ⟨a, xs, e, h, g⟩ => ⟨a, xs, e, seqT s h, m.mo s g⟩⟩
theorem lstR_dat {K : PySem.W.Frag} {ds : List PyData} {B : Hp} {v : V} (h : lstR K (ds.map (dat K)) B v) : dat K (.list ds) B v := by
  obtain ⟨a, xs, rfl, h, g⟩ := h
  exact .lst h (allR_dp g)
theorem tupR_dat {K : PySem.W.Frag} {ds : List PyData} {B : Hp} {v : V} (h : tupR K (ds.map (dat K)) B v) : dat K (.tuple ds) B v := by
  obtain ⟨a, xs, rfl, h, g⟩ := h
  exact .tup h (allR_dp g)
theorem dat_lstR {K : PySem.W.Frag} {ds : List PyData} {B : Hp} {v : V} (h : dat K (.list ds) B v) : lstR K (ds.map (dat K)) B v := by
  cases h with
  | lst h1 h2 => exact ⟨_, _, rfl, h1, dp_allR h2⟩
theorem dat_tupR {K : PySem.W.Frag} {ds : List PyData} {B : Hp} {v : V} (h : dat K (.tuple ds) B v) : tupR K (ds.map (dat K)) B v := by
  cases h with
  | tup h1 h2 => exact ⟨_, _, rfl, h1, dp_allR h2⟩
theorem dat_int {K : PySem.W.Frag} {i : Int} {B : Hp} {v : V} (h : dat K (.int i) B v) : v = .int i := by cases h; rfl
theorem dat_str {K : PySem.W.Frag} {i : Str} {B : Hp} {v : V} (h : dat K (.str i) B v) : v = .str i := by cases h; rfl
theorem dat_bl {K : PySem.W.Frag} {i : Bool} {B : Hp} {v : V} (h : dat K (.bool i) B v) : v = .bl i := by cases h; rfl

/-! ### what evaluates to what -/
def De (te : TE) (σ : L2.St) (B : Hp) (R : Rel) : Prop := ∀ B1 H, Same B B1 → Same B1 H → ∀ Q : VK, (∀ v B' H', Ext B1 H B' H' → R B' v → Q v H') → te σ H Q
def Da (ta : TA) (σ : L2.St) (B : Hp) (Rs : List Rel) : Prop := ∀ B1 H, Same B B1 → Same B1 H → ∀ Q : List V → Hp → Prop, (∀ vs B' H', Ext B1 H B' H' → AllR Rs B' vs → Q vs H') → ta σ H Q
def Dt (tt : TT) (σ : L2.St) (B : Hp) (b : Bool) : Prop := ∀ B1 H, Same B B1 → Same B1 H → ∀ Q : Bool → Hp → Prop, (∀ B' H', Ext B1 H B' H' → Q b H') → tt σ H Q
def Do (to : TO) (σ : L2.St) (B : Hp) (o : Option Int) : Prop := ∀ B1 H, Same B B1 → Same B1 H → ∀ Q : Option Int → Hp → Prop, (∀ B' H', Ext B1 H B' H' → Q o H') → to σ H Q
/-- operations on values -/
def Rv (r : R2) (B : Hp) (R S T : Rel) : Prop := ∀ x y B1 H, Same B B1 → Same B1 H → R B1 x → S B1 y → ∀ Q : VK, (∀ v B' H', Ext B1 H B' H' → T B' v → Q v H') → r x y H Q
def Ru (r : V → Hp → VK → Prop) (B : Hp) (R T : Rel) : Prop := ∀ x B1 H, Same B B1 → Same B1 H → R B1 x → ∀ Q : VK, (∀ v B' H', Ext B1 H B' H' → T B' v → Q v H') → r x H Q
def Rc (r : List V → Hp → VK → Prop) (B : Hp) (Rs : List Rel) (T : Rel) : Prop := ∀ vs B1 H, Same B B1 → Same B1 H → AllR Rs B1 vs → ∀ Q : VK, (∀ v B' H', Ext B1 H B' H' → T B' v → Q v H') → r vs H Q

section
variable {K : PySem.W.Frag} {σ : L2.St} {B B' : Hp} {ta tb te : TE} {tt tu : TT} {R S T U : Rel} {Rs : List Rel} {x v : V}
theorem De.mono (s : Same B B') (h : De te σ B R) : De te σ B' R := fun B1 H s1 s2 => h B1 H (s.trans s1) s2
theorem Da.mono {ta : TA} (s : Same B B') (h : Da ta σ B Rs) : Da ta σ B' Rs := fun B1 H s1 s2 => h B1 H (s.trans s1) s2
theorem Dt.mono {b : Bool} (s : Same B B') (h : Dt tt σ B b) : Dt tt σ B' b := fun B1 H s1 s2 => h B1 H (s.trans s1) s2
theorem De.conv (h : De te σ B R) (f : ∀ B v, R B v → S B v) : De te σ B S := fun B1 H s1 s2 Q q => h B1 H s1 s2 Q fun v B2 H2 e hv => q v B2 H2 e (f _ _ hv)
theorem De.eq {d e : PyData} (h : De te σ B (dat K d)) (z : d = e) : De te σ B (dat K e) := z ▸ h
theorem Dt.eq {b c : Bool} (h : Dt tt σ B b) (z : b = c) : Dt tt σ B c := z ▸ h
theorem De.var {i : Nat} [m : Mo R] (hR : R B v) (h : σ[i]? = some (some v)) : De (tVar i) σ B R := fun B1 H s1 s2 Q q => ⟨v, h, q v B1 H (.refl s2) (m.mo s1 hR)⟩
theorem De.cst (h : ∀ B, R B v) : De (tC v) σ B R := fun B1 H _ s2 Q q => q v B1 H (.refl s2) (h _)
theorem De.int {n : Int} : De (tC (.int n)) σ B (dat K (.int n)) := .cst fun _ => .int n
theorem De.str {z : Str} : De (tC (.str z)) σ B (dat K (.str z)) := .cst fun _ => .str z
theorem De.bl {b : Bool} : De (tC (.bl b)) σ B (dat K (.bool b)) := .cst fun _ => .bl b
theorem De.non : De (tC .non) σ B (dat K .none) := .cst fun _ => .non
theorem Da.nil : Da tNil σ B [] := fun B1 H _ s2 Q q => q [] B1 H (.refl s2) rfl
theorem Da.cons {tr : TA} [m : Mo R] (h : De ta σ B R) (t : Da tr σ B Rs) : Da (tCons ta tr) σ B (R :: Rs) := fun B1 H s1 s2 Q q =>
  h B1 H s1 s2 _ fun v B2 H2 e hv => t B2 H2 (s1.trans e.bb) e.bh _ fun vs B3 H3 e2 hvs => q _ B3 H3 (e.trans e2) ⟨v, vs, rfl, m.mo e2.bb hv, hvs⟩
theorem De.lst {ta : TA} [m : MoA Rs] (h : Da ta σ B Rs) (hz : Rs.length ≤ sizeLine) : De (tLst ta) σ B (lstR K Rs) := fun B1 H s1 s2 Q q =>
  h B1 H s1 s2 _ fun vs B2 H2 e hvs => ⟨by rw [allR_len hvs]; exact hz, fun p hp => q _ (upd B2 p (.lst vs)) _ (e.trans (Ext.new e.bh hp)) ⟨p, vs, rfl, SqL.of upd_same, m.mo (new_same (e.bh.free hp)) hvs⟩⟩
theorem De.tup {ta : TA} [m : MoA Rs] (h : Da ta σ B Rs) (hz : Rs.length ≤ sizeLine) : De (tTup ta) σ B (tupR K Rs) := fun B1 H s1 s2 Q q =>
  h B1 H s1 s2 _ fun vs B2 H2 e hvs => ⟨by rw [allR_len hvs]; exact hz, fun p hp => q _ (upd B2 p (.tup vs)) _ (e.trans (Ext.new e.bh hp)) ⟨p, vs, rfl, SqT.of upd_same, m.mo (new_same (e.bh.free hp)) hvs⟩⟩
theorem De.op {r : R2} [m : Mo R] (ha : De ta σ B R) (hb : De tb σ B S) (hr : Rv r B R S T) : De (tOp r ta tb) σ B T := fun B1 H s1 s2 Q q =>
  ha B1 H s1 s2 _ fun x B2 H2 e hx => hb B2 H2 (s1.trans e.bb) e.bh _ fun y B3 H3 e2 hy => hr x y B3 H3 ((s1.trans e.bb).trans e2.bb) e2.bh (m.mo e2.bb hx) hy Q fun v B4 H4 e3 hv => q v B4 H4 ((e.trans e2).trans e3) hv
theorem De.un {r : V → Hp → VK → Prop} (ha : De ta σ B R) (hr : Ru r B R T) : De (tUn r ta) σ B T := fun B1 H s1 s2 Q q =>
  ha B1 H s1 s2 _ fun x B2 H2 e hx => hr x B2 H2 (s1.trans e.bb) e.bh hx Q fun v B4 H4 e3 hv => q v B4 H4 (e.trans e3) hv
theorem De.cb {r : List V → Hp → VK → Prop} {ta : TA} (ha : Da ta σ B Rs) (hr : Rc r B Rs T) : De (tCB r ta) σ B T := fun B1 H s1 s2 Q q =>
  ha B1 H s1 s2 _ fun x B2 H2 e hx => hr x B2 H2 (s1.trans e.bb) e.bh hx Q fun v B4 H4 e3 hv => q v B4 H4 (e.trans e3) hv
/-- what a def is worth, that changes nothing that was -/
def Pf {α : Type} (args : α → List Rel) (pre : α → Prop) (res : α → Rel) : Sp := fun vs H Q _ => ∃ (B : Hp) (a : α), Same B H ∧ AllR (args a) B vs ∧ pre a ∧ ∀ v B' H', Ext B H B' H' → res a B' v → Q v H'
theorem De.call {α : Type} {args : α → List Rel} {pre : α → Prop} {res : α → Rel} {E : XK} {ta : TA} (a : α) (ha : Da ta σ B (args a)) (hp : pre a) : De (tCall (Pf args pre res) [] E ta) σ B (res a) := fun B1 H s1 s2 Q q =>
  ha B1 H s1 s2 _ fun x B2 H2 e hx => by
    show Pf args pre res (x ++ []) H2 Q E
    rw [List.append_nil]
    exact ⟨B2, a, e.bh, hx, hp, fun v B4 H4 e3 hv => q v B4 H4 (e.trans e3) hv⟩
/-- .. by names: the values as they are written, the parameters' places among them -/
theorem De.callK {α : Type} {args : α → List Rel} {pre : α → Prop} {res : α → Rel} {E : XK} {tk : TA} {ix : List Nat} {n : Nat} (a : α) (ha : Da tk σ B Rs) (hn : Rs.length = n) (hx : ∀ B vs, AllR Rs B vs → AllR (args a) B (kwV ix vs)) (hp : pre a) : De (tCalK (Pf args pre res) ix n E tk) σ B (res a) := fun B1 H s1 s2 Q q =>
  ha B1 H s1 s2 _ fun x B2 H2 e hv => ⟨by rw [allR_len hv]; exact hn, B2, a, e.bh, hx _ _ hv, hp, fun v B4 H4 e3 hv => q v B4 H4 (e.trans e3) hv⟩
theorem Do.none : Do tNoPart σ B none := fun B1 H _ s2 Q q => q B1 H (.refl s2)
theorem Do.some {i : Int} (h : De te σ B (dat K (.int i))) : Do (tPart te) σ B (some i) := fun B1 H s1 s2 Q q =>
  h B1 H s1 s2 _ fun v B2 H2 e hv => ⟨i, dat_int hv, q B2 H2 e⟩
theorem De.sl {r : V → Option Int → Option Int → Hp → VK → Prop} {tl th : TO} {lo hi : Option Int} [m : Mo R] (h : De te σ B R) (h1 : Do tl σ B lo) (h2 : Do th σ B hi)
    (hr : ∀ x B1 H, Same B B1 → Same B1 H → R B1 x → ∀ Q : VK, (∀ v B' H', Ext B1 H B' H' → T B' v → Q v H') → r x lo hi H Q) : De (tSl r te tl th) σ B T := fun B1 H s1 s2 Q q =>
  h B1 H s1 s2 _ fun x B2 H2 e hx => h1 B2 H2 (s1.trans e.bb) e.bh _ fun B3 H3 e2 => h2 B3 H3 ((s1.trans e.bb).trans e2.bb) e2.bh _ fun B4 H4 e3 =>
    hr x B4 H4 (((s1.trans e.bb).trans e2.bb).trans e3.bb) e3.bh (m.mo (e2.bb.trans e3.bb) hx) Q fun v B5 H5 e4 hv => q v B5 H5 (((e.trans e2).trans e3).trans e4) hv

/-! ### tests, choices -/
theorem Dt.test {b : Bool} (h : De te σ B (dat K (.bool b))) : Dt (tTest te) σ B b := fun B1 H s1 s2 Q q => h B1 H s1 s2 _ fun v B2 H2 e hv => ⟨b, dat_bl hv, q B2 H2 e⟩
theorem Dt.tB {b : Bool} (h : De te σ B (dat K (.bool b))) : Dt (tB te) σ B b := fun B1 H s1 s2 Q q => h B1 H s1 s2 _ fun v B2 H2 e hv => ⟨b, dat_bl hv, q B2 H2 e⟩
theorem Dt.and {a b : Bool} (h1 : Dt tt σ B a) (h2 : a = true → Dt tu σ B b) : Dt (tAnd tt tu) σ B (a && b) := fun B1 H s1 s2 Q q => h1 B1 H s1 s2 _ fun B2 H2 e => by
  cases a with
  | true => exact h2 rfl B2 H2 (s1.trans e.bb) e.bh Q fun B3 H3 e3 => q B3 H3 (e.trans e3)
  | false => exact q B2 H2 e
theorem Dt.or {a b : Bool} (h1 : Dt tt σ B a) (h2 : a = false → Dt tu σ B b) : Dt (tOr tt tu) σ B (a || b) := fun B1 H s1 s2 Q q => h1 B1 H s1 s2 _ fun B2 H2 e => by
  cases a with
  | true => exact q B2 H2 e
  | false => exact h2 rfl B2 H2 (s1.trans e.bb) e.bh Q fun B3 H3 e3 => q B3 H3 (e.trans e3)
theorem Dt.not {a : Bool} (h1 : Dt tt σ B a) : Dt (tNot tt) σ B (!a) := fun B1 H s1 s2 Q q => h1 B1 H s1 s2 _ q
theorem Dt.yes : Dt tYes σ B true := fun B1 H _ s2 Q q => q B1 H (.refl s2)
theorem De.ite {b : Bool} (h : Dt tt σ B b) (h1 : b = true → De ta σ B R) (h2 : b = false → De tb σ B R) : De (tIf tt ta tb) σ B R := fun B1 H s1 s2 Q q => h B1 H s1 s2 _ fun B2 H2 e => by
  cases b with
  | true => exact h1 rfl B2 H2 (s1.trans e.bb) e.bh Q fun v B3 H3 e3 => q v B3 H3 (e.trans e3)
  | false => exact h2 rfl B2 H2 (s1.trans e.bb) e.bh Q fun v B3 H3 e3 => q v B3 H3 (e.trans e3)
theorem De.iteD {b : Bool} {d e : PyData} (h : Dt tt σ B b) (h1 : b = true → De ta σ B (dat K d)) (h2 : b = false → De tb σ B (dat K e)) : De (tIf tt ta tb) σ B (dat K (if b = true then d else e)) :=
  .ite h (fun z => by rw [if_pos z]; exact h1 z) (fun z => by rw [if_neg (by rw [z]; decide)]; exact h2 z)
theorem De.andV {a b : Bool} (h1 : De ta σ B (dat K (.bool a))) (h2 : a = true → De tb σ B (dat K (.bool b))) : De (tAndV ta tb) σ B (dat K (.bool (a && b))) := fun B1 H s1 s2 Q q => h1 B1 H s1 s2 _ fun v B2 H2 e hv => ⟨a, dat_bl hv, by
  cases a with
  | true => exact h2 rfl B2 H2 (s1.trans e.bb) e.bh Q fun v B3 H3 e3 => q v B3 H3 (e.trans e3)
  | false => exact q _ B2 H2 e (.bl false)⟩
theorem De.orV {a b : Bool} (h1 : De ta σ B (dat K (.bool a))) (h2 : a = false → De tb σ B (dat K (.bool b))) : De (tOrV ta tb) σ B (dat K (.bool (a || b))) := fun B1 H s1 s2 Q q => h1 B1 H s1 s2 _ fun v B2 H2 e hv => ⟨a, dat_bl hv, by
  cases a with
  | true => exact q _ B2 H2 e (.bl true)
  | false => exact h2 rfl B2 H2 (s1.trans e.bb) e.bh Q fun v B3 H3 e3 => q v B3 H3 (e.trans e3)⟩
theorem De.notV {a : Bool} (h1 : De ta σ B (dat K (.bool a))) : De (tNotV ta) σ B (dat K (.bool (!a))) := fun B1 H s1 s2 Q q => h1 B1 H s1 s2 _ fun v B2 H2 e hv => ⟨a, dat_bl hv, q _ B2 H2 e (.bl _)⟩

/-! ### operations -/
theorem Rv.I0 {f : Int → Int → Int} {i j : Int} : Rv (rI0 fun i j => V.int (f i j)) B (dat K (.int i)) (dat K (.int j)) (dat K (.int (f i j))) := fun x y B1 H _ s2 hx hy Q q =>
  ⟨i, j, dat_int hx, dat_int hy, q _ B1 H (.refl s2) (.int _)⟩
theorem Rv.I0b {f : Int → Int → Bool} {i j : Int} : Rv (rI0 fun i j => V.bl (f i j)) B (dat K (.int i)) (dat K (.int j)) (dat K (.bool (f i j))) := fun x y B1 H _ s2 hx hy Q q =>
  ⟨i, j, dat_int hx, dat_int hy, q _ B1 H (.refl s2) (.bl _)⟩
theorem Rv.I {C : Int → Int → Prop} {f : Int → Int → Int} {i j : Int} (hc : C i j) : Rv (rI C fun i j => V.int (f i j)) B (dat K (.int i)) (dat K (.int j)) (dat K (.int (f i j))) := fun x y B1 H _ s2 hx hy Q q =>
  ⟨i, j, dat_int hx, dat_int hy, hc, q _ B1 H (.refl s2) (.int _)⟩
theorem Rv.addS {x y : Str} (hz : x.length + y.length ≤ sizeLine) : Rv (fun x y H Q => ∃ i j, x = .str i ∧ y = .str j ∧ i.length + j.length ≤ sizeLine ∧ Q (.str (i ++ j)) H) B (dat K (.str x)) (dat K (.str y)) (dat K (.str (x ++ y))) := fun _ _ B1 H _ s2 hx hy Q q =>
  ⟨x, y, dat_str hx, dat_str hy, hz, q _ B1 H (.refl s2) (.str _)⟩
theorem Rv.eqD {d e : PyData} (hd : SeqAt.shaped d = true) (he : SeqAt.shaped e = true) : Rv (rEqD K) B (dat K d) (dat K e) (dat K (.bool (PyData.eqv d e))) := fun x y B1 H _ s2 hx hy Q q =>
  ⟨d, e, dpMono s2 _ _ hx, dpMono s2 _ _ hy, hd, he, q _ B1 H (.refl s2) (.bl _)⟩
theorem Rv.neD {d e : PyData} (hd : SeqAt.shaped d = true) (he : SeqAt.shaped e = true) : Rv (rNeD K) B (dat K d) (dat K e) (dat K (.bool (!PyData.eqv d e))) := fun x y B1 H _ s2 hx hy Q q =>
  ⟨d, e, dpMono s2 _ _ hx, dpMono s2 _ _ hy, hd, he, q _ B1 H (.refl s2) (.bl _)⟩
theorem Rv.inL {d : PyData} {ds : List PyData} (hd : SeqAt.shaped d = true) (he : SeqAt.shaped (.list ds) = true) : Rv (rInD K) B (dat K d) (dat K (.list ds)) (dat K (.bool (ds.any fun z => PyData.eqv z d))) := fun x y B1 H _ s2 hx hy Q q =>
  ⟨d, ds, dpMono s2 _ _ hx, dpMono s2 _ _ hy, hd, he, q _ B1 H (.refl s2) (.bl _)⟩
theorem Rv.notInL {d : PyData} {ds : List PyData} (hd : SeqAt.shaped d = true) (he : SeqAt.shaped (.list ds) = true) : Rv (rNotInD K) B (dat K d) (dat K (.list ds)) (dat K (.bool (!ds.any fun z => PyData.eqv z d))) := fun x y B1 H _ s2 hx hy Q q =>
  ⟨d, ds, dpMono s2 _ _ hx, dpMono s2 _ _ hy, hd, he, q _ B1 H (.refl s2) (.bl _)⟩
theorem allR_atI {xs : List V} {i : Int} (h : AllR Rs B xs) (z : atI Rs i = some R) : ∃ v, atI xs i = some v ∧ R B v := by
  unfold atI at *
  rw [allR_len h]
  cases e : ixN Rs.length i with
  | none =>
    rw [e] at z
    cases z
  | some j =>
    rw [e] at z
    exact allR_of h z
theorem Rv.ixL {i : Int} (z : atI Rs i = some R) : Rv (rIxL K) B (lstR K Rs) (dat K (.int i)) R := fun x y B1 H _ s2 hx hy Q q => by
  obtain ⟨a, xs, rfl, h, g⟩ := hx
  obtain ⟨v, hv, hR⟩ := allR_atI g z
  exact ⟨a, xs, i, v, rfl, dat_int hy, s2.seq h, hv, q v B1 H (.refl s2) hR⟩
theorem Rv.ixT {i : Int} (z : atI Rs i = some R) : Rv (rIxT K) B (tupR K Rs) (dat K (.int i)) R := fun x y B1 H _ s2 hx hy Q q => by
  obtain ⟨a, xs, rfl, h, g⟩ := hx
  obtain ⟨v, hv, hR⟩ := allR_atI g z
  exact ⟨a, xs, i, v, rfl, dat_int hy, seqT s2 h, hv, q v B1 H (.refl s2) hR⟩
theorem atI_map {α β : Type} (f : α → β) {xs : List α} {i : Int} {x : α} (h : atI xs i = some x) : atI (xs.map f) i = some (f x) := by
  unfold atI at *
  rw [List.length_map]
  cases e : ixN xs.length i with
  | none =>
    rw [e] at h
    cases h
  | some j =>
    rw [e] at h
    have h : xs[j]? = some x := h
    show (xs.map f)[j]? = some (f x)
    rw [List.getElem?_map, h]
    rfl
theorem Rv.ixLD {ds : List PyData} {d : PyData} {i : Int} (z : atI ds i = some d) : Rv (rIxL K) B (dat K (.list ds)) (dat K (.int i)) (dat K d) := fun x y B1 H s1 s2 hx hy => Rv.ixL (K := K) (atI_map (dat K) z) x y B1 H s1 s2 (dat_lstR hx) hy
theorem Rv.ixTD {ds : List PyData} {d : PyData} {i : Int} (z : atI ds i = some d) : Rv (rIxT K) B (dat K (.tuple ds)) (dat K (.int i)) (dat K d) := fun x y B1 H s1 s2 hx hy => Rv.ixT (K := K) (atI_map (dat K) z) x y B1 H s1 s2 (dat_tupR hx) hy
/-- tuple + tuple -/
theorem Rv.catT {xs ys : List PyData} (hz : xs.length + ys.length ≤ sizeLine) : Rv (rCatA K) B (dat K (.tuple xs)) (dat K (.tuple ys)) (dat K (.tuple (xs ++ ys))) := fun x y B1 H _ s2 hx hy Q q => by
  have hx' := hx
  have hy' := hy
  obtain ⟨a, us, rfl, h, g⟩ := dat_tupR hx
  obtain ⟨b, ws, rfl, h', g'⟩ := dat_tupR hy
  have l1 := allR_len g
  have l2 := allR_len g'
  rw [List.length_map] at l1 l2
  refine ⟨a, b, us, ws, rfl, rfl, seqT s2 h, seqT s2 h', by omega, fun e => ?_, fun _ e => ?_, fun _ _ p hp => ?_⟩
  · have : xs = [] := List.eq_nil_of_length_eq_zero (by rw [← l1, e]; rfl)
    subst this
    exact q _ B1 H (.refl s2) hy'
  · have : ys = [] := List.eq_nil_of_length_eq_zero (by rw [← l2, e]; rfl)
    subst this
    rw [List.append_nil] at q
    exact q _ B1 H (.refl s2) hx'
  · refine q _ (upd B1 p (.tup (us ++ ws))) _ (Ext.new s2 hp) ?_
    have s := new_same (o := .tup (us ++ ws)) (s2.free hp)
    exact .tup (SqT.of upd_same) (dpMonoAll s _ _ (allR_dp (by rw [List.map_append]; exact allR_app g g')))
end
end Wv

set_option Elab.async false
set_option linter.all false
set_option maxRecDepth 100000
set_option maxHeartbeats 4000000
/-! Ws0: sorted(xs), xs a list of data that are alike, empty tuples among them too. -/
namespace PySem.W
open PySem PySem.Calls PyProof.Rows PySem.SeqAt
section
variable {prog : Program} {w : World} {A : Around} {E : Value → Shared → Prop} {s : Shared}
theorem oneLt_tup {f : Bool} {xs ys : List PyData} {a b : Value} {as bs : List Addr} {Q : Bool → Shared → Prop} (ra : Reads s.heap a (.tuple xs) as) (rb : Reads s.heap b (.tuple ys) bs) (h : alike (.tuple xs) (.tuple ys) = true)
    (hu : A.units + min (PyData.tuple xs).depth (PyData.tuple ys).depth < cLine) (hq : Q (dataLt (.tuple xs) (.tuple ys)) s) : wpAny (model prog w) A (oneLt' f a b) Q E s := by
  cases f with
  | false => exact oneLt_alike (fun z => nomatch z) ra rb h (fun z => nomatch z) hu hq
  | true =>
    have hal : alikeAll xs ys = true := by simpa [alike] using h
    cases ra with
    | @tuple l o vs n _ as₁ h1 h2 h3 h4 =>
      cases rb with
      | @tuple l' o' vs' n' _ bs₁ k1 k2 k3 k4 =>
        have n1 : vs.size = xs.length := by simpa using ReadsAll.length _ _ _ h4
        have n2 : vs'.size = ys.length := by simpa using ReadsAll.length _ _ _ k4
        rw [dataLt_tuple, ← firstLt_toks xs ys hal, ← n1, ← n2] at hq
        rw [oneLt'_eq]
        simp only [if_true]
        refine wpAny_bind (wpAny_cRoomFor (room_here hu) ?_)
        obtain ⟨cls, dd, data, sl⟩ := o
        obtain ⟨cls2, dd2, data2, sl2⟩ := o'
        simp only at h2 h3 k2 k3
        subst h2 h3 k2 k3
        refine wpAny_bind (wpAny_callSpecialIfBound?_slot (T := "tuple") ⟨_, h1, rfl⟩ F.slot_tuple_lt (call_meets F.slot_tuple_lt ⟨_, h1, rfl⟩ F.entry_tuple_lt (F.args_tuple_lt_2 _ _)
          (tuple_ltAt l l' vs vs' n n' dd dd2 sl sl2 (pairEq xs ys) (fun j => dataLt (xs.getD j .none) (ys.getD j .none))) ⟨h1, k1, fun j j1 j2 => ?_, fun j j1 j2 hj => ?_, ?_⟩))
        · have := eqAt_alikeAll xs ys A.in1 s vs.toList vs'.toList _ _ h4 k4 hal (room_in hu) j (by simpa using j1) (by simpa using j2)
          simpa using this
        · have := rcLt_alikeAll xs ys A.in1 s vs.toList vs'.toList _ _ h4 k4 hal (room_in hu) j (by simpa using j1) (by simpa using j2) hj
          simpa using this
        · exact wpAny_truthy_bool hq
def full : PyData → Bool
  | .tuple (_ :: _) => true
  | _ => false
/-- the first items of tuples, empty ones among them -/
theorem firsts_mix : ∀ (vs : List Value) (ds : List PyData) {Q : List (Option Value) → Shared → Prop}, EachIs (fun v d => ∃ as, Reads s.heap v d as) vs ds → (∀ d, d ∈ ds → ∃ xs, d = .tuple xs) →
    (∀ fs : List (Option Value), fs.map (·.isSome) = ds.map full → Q fs s) → wpAny (model prog w) A (vs.mapM firstOfTuple') Q E s
  | _, _, _, .nil, _, h => by
    rw [List.mapM_nil]
    exact wpAny_pure (h [] rfl)
  | _, _, Q, .cons (b := d) (as := vs) (bs := ds) ⟨as, r⟩ t, ht, h => by
    obtain ⟨xs, rfl⟩ := ht d List.mem_cons_self
    cases r with
    | @tuple a o us n _ _ ho hc hd hr =>
      rw [List.mapM_cons]
      refine wpAny_bind ?_
      rw [kas_first_eq]
      refine wpAny_bind (Looks.here (show Looks (model prog w) s.heap (typeOf (.ref a)) o.cls from (Looks.ld ho).andThen .now) ?_)
      rw [hc, if_neg (by first | decide | simp)]
      refine wpAny_bind (listItems_at ho hd (wpAny_pure ?_))
      have e : (us[0]?).isSome = full (.tuple xs) := by
        have n1 : us.size = xs.length := by simpa using ReadsAll.length _ _ _ hr
        cases xs with
        | nil =>
          have : us[0]? = none := by
            rw [Array.getElem?_eq_none_iff, n1]
            exact Nat.le_refl _
          rw [this]
          rfl
        | cons x r =>
          have : 0 < us.size := by rw [n1]; simp
          rw [Array.getElem?_eq_getElem this]
          rfl
      exact wpAny_bind (firsts_mix vs ds (Q := fun bs s' => wpAny (model prog w) A (pure (us[0]? :: bs)) Q E s') t (fun d hd => ht d (List.mem_cons_of_mem _ hd)) fun fs hf => wpAny_pure (h _ (by rw [List.map_cons, List.map_cons, hf, e])))
/-- tuples that are alike can be sorted -/
theorem SortsAt.tups {vs : List Value} {ds : List PyData} (e : EachIs (fun v d => ∃ as, Reads s.heap v d as) vs ds) (hal : AllAlike ds) (ht : ∀ d, d ∈ ds → ∃ xs, d = .tuple xs) (hu : ∀ d, d ∈ ds → A.units + d.depth < cLine) : SortsAt prog w A s (dataKind s.heap ds) vs := by
  by_cases hf : ∀ d, d ∈ ds → full d = true
  · refine SortsAt.data e hal (.inl fun d hd => ?_) hu
    obtain ⟨xs, rfl⟩ := ht d hd
    have := hf _ hd
    cases xs with
    | nil => cases this
    | cons x r => exact ⟨x, r, rfl⟩
  have lt : ∀ kd : SortKind, (∀ x y, keyLt' kd x y = oneLt' true x y) ∨ (∀ x y, keyLt' kd x y = oneLt' false x y) → H.LtAt prog w A s (dataKind s.heap ds) kd := by
    intro kd hk E x y a b Q ha hb hq
    obtain ⟨d, as, hd, ra, rfl⟩ := dataKind_inv ha
    obtain ⟨d', as', hd', rb, rfl⟩ := dataKind_inv hb
    obtain ⟨xs, rfl⟩ := ht d hd
    obtain ⟨ys, rfl⟩ := ht d' hd'
    have room : A.units + min (PyData.tuple xs).depth (PyData.tuple ys).depth < cLine := Nat.lt_of_le_of_lt (Nat.add_le_add_left (Nat.min_le_left _ _) _) (hu _ hd)
    rcases hk with hk | hk
    · rw [hk]
      exact oneLt_tup ra rb (hal _ hd _ hd') room hq
    · rw [hk]
      exact oneLt_tup ra rb (hal _ hd _ hd') room hq
  have hkeys : ∀ v, v ∈ vs → ∃ a, (dataKind s.heap ds).keyOf v = some a := fun v hv => by
    obtain ⟨d, hd, as, r⟩ := e.left v hv
    exact ⟨_, dataKind_some hal hd r⟩
  cases ds with
  | nil => exact absurd (fun d hd => nomatch hd) hf
  | cons d₀ ds₀ =>
    have many : ∀ fs : List (Option Value), fs.map (·.isSome) = (d₀ :: ds₀).map full → fs.toArray.all (·.isSome) = false := by
      intro fs hfs
      rw [Bool.eq_false_iff]
      intro q
      refine hf fun d hd => ?_
      rw [List.all_toArray, List.all_eq_true] at q
      have m : full d ∈ fs.map (·.isSome) := by
        rw [hfs]
        exact List.mem_map.mpr ⟨d, hd, rfl⟩
      obtain ⟨o, ho, eo⟩ := List.mem_map.mp m
      rw [← eo]
      exact q o ho
    have first : ∀ fs : List (Option Value), fs.map (·.isSome) = (d₀ :: ds₀).map full → ((fs.toArray[0]?).bind id).isSome = full d₀ := by
      intro fs hfs
      cases fs with
      | nil => cases hfs
      | cons o r =>
        rw [List.map_cons, List.map_cons] at hfs
        have := (List.cons.inj hfs).1
        simpa using this
    cases hd0 : full d₀ with
    | true =>
      refine ⟨hkeys, general', lt _ (.inr fun _ _ => rfl), fun _ E Q hq => ?_⟩
      rw [keyKind'_eq, List.mapM_toArray, map_eq_pure_bind]
      refine wpAny_bind (wpAny_bind (firsts_mix vs _ e ht fun fs hfs => wpAny_pure ?_))
      rw [if_neg (by rw [many fs hfs]; decide), if_pos (by rw [first fs hfs, hd0])]
      exact wpAny_pure hq
    | false =>
      refine ⟨hkeys, oneType', lt _ (.inl fun _ _ => rfl), fun _ E Q hq => ?_⟩
      rw [keyKind'_eq, List.mapM_toArray, map_eq_pure_bind]
      refine wpAny_bind (wpAny_bind (firsts_mix vs _ e ht fun fs hfs => wpAny_pure ?_))
      rw [if_neg (by rw [many fs hfs]; decide), if_neg (by rw [first fs hfs, hd0]; decide)]
      rw [oneTypeOnly'_eq, List.mapM_toArray, map_eq_pure_bind]
      have tys : ∀ v ∈ vs, ∀ Q' : Value → Shared → Prop, Q' (.type "tuple") s → wpAny (model prog w) A (typeOf v) Q' E s := fun v hv Q' hq' => by
        obtain ⟨d, hd, as, r⟩ := e.left v hv
        obtain ⟨xs, rfl⟩ := ht d hd
        exact (looks_reads r).here hq'
      refine wpAny_bind (wpAny_bind (wpAny_bind (kas_mapM (r := Value.type "tuple") _ (fun v hv Q' hq' => tys v hv Q' hq') (wpAny_pure ?_))))
      cases e with
      | cons h1 t =>
        rename_i v0 vr _
        have h0 : (List.map (fun _ => Value.type "tuple") (v0 :: vr)).toArray[0]? = some (Value.type "tuple") := by simp
        rw [h0]
        have h3 : ((List.map (fun _ => Value.type "tuple") (v0 :: vr)).toArray.all fun x => x == Value.type "tuple") = true := by
          simp only [List.all_toArray, List.all_map, List.all_eq_true]
          intro _ _
          exact beq_self_eq_true _
        dsimp only
        rw [if_pos h3]
        exact wpAny_pure (wpAny_pure hq)
/-- what can be sorted: tuples, or neither tuples nor None -/
def SortOk (ds : List PyData) : Prop := (∀ d, d ∈ ds → ∃ xs, d = .tuple xs) ∨ ∀ d, d ∈ ds → d ≠ .none ∧ ∀ xs, d ≠ .tuple xs
theorem SortsAt.ok {vs : List Value} {ds : List PyData} (e : EachIs (fun v d => ∃ as, Reads s.heap v d as) vs ds) (hal : AllAlike ds) (hk : SortOk ds) (hu : ∀ d, d ∈ ds → A.units + d.depth < cLine) : SortsAt prog w A s (dataKind s.heap ds) vs := by
  rcases hk with h | h
  · exact SortsAt.tups e hal h hu
  · exact SortsAt.data e hal (.inr h) hu
theorem sorted_ok {l : Addr} {β : Type} {vs : List Value} {bs : List β} {enc : β → PyData} {R : Value → β → Prop} {Q : Value → Shared → Prop} (hl : s.heap.IsList l vs.toArray) (e : EachIs R vs bs) (er : EachIs (fun v b => ∃ as, Reads s.heap v (enc b) as) vs bs)
    (hal : AllAlike (bs.map enc)) (hk : SortOk (bs.map enc)) (hL : bs.length ≤ sizeLine)
    (hu : ∀ b, b ∈ bs → A.units + 2 + (enc b).depth < cLine) (h : ∀ out, out.length = bs.length → EachIs R out (bs.mergeSort (dataLe false enc)) → Q (.ref (s.heap.objs.size + 1)) { s with heap := sortedAll s.heap vs (List.toArray out) }) :
    wpAny (model prog w) A (call (.builtin "sorted") [.ref l]) Q E s := by
  have er' : EachIs (fun v b => ∃ as, Reads (sortingHeap (copyHeap s.heap vs) (s.heap.objs.size + 1) vs) v (enc b) as) vs bs := er.mono fun _ _ ⟨as, r⟩ => ⟨as, PyProof.Rows.Reads.keeps (fun _ _ => sorting_copy_old) r⟩
  exact sorted_vals hl (SortsAt.ok (s := { s with heap := sortingHeap (copyHeap s.heap vs) (s.heap.objs.size + 1) vs }) (each_map (R := fun v d => ∃ as, Reads (sortingHeap (copyHeap s.heap vs) (s.heap.objs.size + 1) vs) v d as) enc er') hal hk (bound_map hu)) (by rw [e.length]; exact hL)
    (h _ (by rw [sortVals_length false rfl]; exact e.length) (sortVals_data false e er' hal))
end
end PySem.W
namespace Wb
open PySem PySem.Spec PyProof.Rows L2
/-- the order of data -/
def dle (x y : PyData) : Bool := PySem.W.dataLe false (fun d : PyData => d) x y
def sortD (ds : List PyData) : List PyData := ds.mergeSort dle
/-- the values in that order -/
def sortV (xs : List V) (ds : List PyData) : List V := ((xs.zip ds).mergeSort fun a b => dle a.2 b.2).map Prod.fst
/-- sorted(xs) of a list of data -/
def rSortedD (K : PySem.W.Frag) : List V → Hp → VK → Prop := fun vs H Q => ∃ (a : Addr) (xs : List V) (ds : List PyData), vs = [.ref a] ∧ SqL K H a xs ∧ DpAll K H xs ds ∧ PySem.W.AllAlike ds ∧ PySem.W.SortOk ds ∧ (∀ d ∈ ds, d.depth ≤ 60) ∧
  ∀ p, H p = none → Q (.ref p) (upd H p (.lst (sortV xs ds)))
theorem dpAll_pairs {K : PySem.W.Frag} {H : Hp} : ∀ {l : List (V × PyData)}, (∀ p ∈ l, Dp K H p.1 p.2) → DpAll K H (l.map Prod.fst) (l.map Prod.snd)
  | [], _ => .nil
  | p :: l, h => .cons (h p List.mem_cons_self) (dpAll_pairs fun q hq => h q (List.mem_cons_of_mem _ hq))
theorem pairs_dpAll {K : PySem.W.Frag} {H : Hp} : ∀ {xs : List V} {ds : List PyData}, DpAll K H xs ds → ∀ p ∈ xs.zip ds, Dp K H p.1 p.2
  | _, _, .nil => fun p h => nomatch h
  | _, _, .cons h t => fun p hp => by
    rcases List.mem_cons.mp hp with e | hp
    · rw [e]
      exact h
    · exact pairs_dpAll t p hp
theorem each_pairs {X : Cx} {pins : List (Addr × Obj)} {σ : L2.St} {H : Hp} {s : Shared} (I : Inv X pins σ H s) : ∀ {xs : List V} {its : List Value} {ds : List PyData}, Vals xs its → DpAll X.K H xs ds →
    PySem.W.EachIs (fun (v : Value) (b : V × PyData) => RelV b.1 v ∧ Dp X.K H b.1 b.2) its (xs.zip ds)
  | _, _, _, .nil, .nil => .nil
  | _, _, _, .cons r t, .cons h g => .cons ⟨r, h⟩ (each_pairs I t g)
theorem pairs_out {K : PySem.W.Frag} {H : Hp} : ∀ {out : List Value} {bs : List (V × PyData)}, PySem.W.EachIs (fun (v : Value) (b : V × PyData) => RelV b.1 v ∧ Dp K H b.1 b.2) out bs → Vals (bs.map Prod.fst) out ∧ DpAll K H (bs.map Prod.fst) (bs.map Prod.snd)
  | _, _, .nil => ⟨.nil, .nil⟩
  | _, _, .cons h t => by
    obtain ⟨a, b⟩ := pairs_out t
    exact ⟨.cons h.1 a, .cons h.2 b⟩
theorem zip_snd : ∀ {xs : List V} {ds : List PyData}, xs.length = ds.length → (xs.zip ds).map Prod.snd = ds
  | [], [], _ => rfl
  | x :: xs, d :: ds, h => by
    rw [List.zip_cons_cons, List.map_cons, zip_snd (by simpa using h)]
theorem dp_sort {K : PySem.W.Frag} {H : Hp} {xs : List V} {ds : List PyData} (h : DpAll K H xs ds) : DpAll K H (sortV xs ds) (sortD ds) := by
  have e : ((xs.zip ds).mergeSort fun a b => dle a.2 b.2).map Prod.snd = sortD ds := by
    unfold sortD
    rw [List.map_mergeSort (s := dle) (f := Prod.snd) (fun a _ b _ => rfl), zip_snd (dpAll_len h)]
  rw [← e]
  exact dpAll_pairs fun p hp => pairs_dpAll h p ((List.mergeSort_perm _ _).mem_iff.mp hp)
section
variable {X : Cx}
theorem cr_sortedD (hu : X.A.units + 64 < cLine) : CallR X (.builtin "sorted") (rSortedD X.K) := by
  intro pins s σ H vs us Q I r h
  obtain ⟨a, xs, ds, rfl, hs, hd, hal, hk, hdep, q⟩ := h
  obtain ⟨its, rv, hl, hz⟩ := I.list hs
  obtain ⟨u, rfl, ru⟩ := vals1 r
  obtain rfl : u = Value.ref a := ru
  have len : xs.length = ds.length := dpAll_len hd
  have em : (xs.zip ds).map Prod.snd = ds := zip_snd len
  have e := each_pairs I rv hd
  have er : PySem.W.EachIs (fun (v : Value) (b : V × PyData) => ∃ as, Reads s.heap v b.2 as) its (xs.zip ds) := e.mono fun v b h => Dp.reads I b.2 b.1 v h.2 h.1
  refine PySem.W.sorted_ok (enc := Prod.snd) hl.isList e er (by rw [em]; exact hal) (by rw [em]; exact hk) (by rw [List.length_zip]; omega) (fun b hb => ?_) fun out ho eo => ?_
  · have := hdep b.2 (List.of_mem_zip hb).2
    omega
  · obtain ⟨o1, o2⟩ := pairs_out eo
    obtain ⟨c, hc⟩ := PyProof.Rows.sortedAll_at s.heap its out.toArray
    have ln : (((xs.zip ds).mergeSort (PySem.W.dataLe false Prod.snd)).map Prod.fst).length ≤ sizeLine := by
      rw [List.length_map, List.length_mergeSort, List.length_zip]
      omega
    exact ⟨.ref (s.heap.objs.size + 1), upd H (s.heap.objs.size + 1) (.lst (((xs.zip ds).mergeSort (PySem.W.dataLe false Prod.snd)).map Prod.fst)), I.laid (t' := s.toks) (fun _ _ => PyProof.Rows.sortedAll_old) (Nat.le_succ _) ⟨ln, out, c, o1, hc⟩, rfl, q _ (I.hok.fresh (Nat.le_succ _))⟩
end
end Wb

set_option Elab.async false
set_option linter.all false
set_option maxRecDepth 100000
set_option maxHeartbeats 4000000
/-! Wv1: what is walked, loops, comprehensions, built-in functions, objects that never change. -/
namespace Wv
open PySem PySem.Spec PyProof.Rows L2 Wb

/-! ### more rules of the language -/
section
variable {X : Cx}
/-- list + list -/
def rCatS (K : PySem.W.Frag) : R2 := fun x y H Q => ∃ l b xs zs, x = .ref l ∧ y = .ref b ∧ SqL K H l xs ∧ SqL K H b zs ∧ xs.length + zs.length ≤ sizeLine ∧ ∀ p, H p = none → Q (.ref p) (upd H p (.lst (xs ++ zs)))
theorem op_catS : OpR X (binaryOp .Add) (rCatS X.K) := by
  intro pins s σ H x y v u Q I rx ry h
  obtain ⟨l, b, xs, zs, rfl, rfl, hl, hb, hz, q⟩ := h
  cases rx
  cases ry
  obtain ⟨its, r, ⟨⟨c1, d1, t1, sl1⟩, n, e, hc, hd, ht⟩, z1⟩ := I.list hl
  obtain ⟨its2, r2, ⟨⟨c2, d2, t2, sl2⟩, n2, e2, hc2, hd2, ht2⟩, z2⟩ := I.list hb
  simp only at hc hd ht hc2 hd2 ht2
  subst hc hd ht hc2 hd2 ht2
  have hlen := r.length
  have hlen2 := r2.length
  refine concat_meets ⟨_, e, rfl⟩ ⟨_, e2, rfl⟩ noFill_list_add seq_list_add PySem.F.slot_list_add PySem.F.entry_list_add (PySem.F.args_list_add_2 _ _) (list_addW l b its.toArray its2.toArray n n2 none none sl1 sl2 (by rw [List.size_toArray, List.size_toArray]; omega)) ⟨e, e2, ?_⟩
  have ea : its.toArray ++ its2.toArray = (its ++ its2).toArray := by simp
  rw [ea]
  exact ⟨.ref _, _, I.lnew (t' := s.toks) (r.append r2) (by rw [List.length_append]; omega), rfl, q _ I.fresh⟩
/-- x in t, a tuple of data -/
def rInT (K : PySem.W.Frag) (neg : Bool) : R2 := fun x y H Q => ∃ d ds, Dp K H x d ∧ Dp K H y (.tuple ds) ∧ SeqAt.shaped d = true ∧ SeqAt.shaped (.tuple ds) = true ∧ Q (.bl (if neg = true then !ds.any fun z => PyData.eqv z d else ds.any fun z => PyData.eqv z d)) H
theorem room_in_shaped' {ds : List PyData} {d : PyData} {u : Nat} (sd : SeqAt.shaped d = true) (hu : u + 65 < cLine) : u + 1 + min (PyData.depthAll ds) d.depth < cLine := by
  have h : d.depth ≤ 64 := by
    unfold SeqAt.shaped at sd
    rw [Bool.and_eq_true] at sd
    exact of_decide_eq_true sd.2
  omega
theorem canLay_tup {ds : List PyData} (h : SeqAt.shaped (.tuple ds) = true) : PyData.canLayAll0 ds = true := by
  unfold SeqAt.shaped at h
  rw [Bool.and_eq_true] at h
  simpa only [PyData.canLay0] using h.1
theorem op_inT (hu : X.A.units + 65 < cLine) : OpR X (compareOp .In) (rInT X.K false) := by
  intro pins s σ H x y v u Q I rx ry h
  obtain ⟨d, ds, hd, he, sd, se, q⟩ := h
  obtain ⟨as, r1⟩ := Dp.reads I d x v hd rx
  obtain ⟨bs, r2⟩ := Dp.reads I (.tuple ds) y u he ry
  exact SeqAt.in_tuple_reads r2 r1 (canLay_tup se) (SeqAt.canLay_of_shaped sd) (room_in_shaped' sd hu) ⟨.bl _, H, I, rfl, q⟩
theorem op_notInT (hu : X.A.units + 65 < cLine) : OpR X (compareOp .NotIn) (rInT X.K true) := by
  intro pins s σ H x y v u Q I rx ry h
  obtain ⟨d, ds, hd, he, sd, se, q⟩ := h
  obtain ⟨as, r1⟩ := Dp.reads I d x v hd rx
  obtain ⟨bs, r2⟩ := Dp.reads I (.tuple ds) y u he ry
  exact SeqAt.notIn_tuple_reads r2 r1 (canLay_tup se) (SeqAt.canLay_of_shaped sd) (room_in_shaped' sd hu) ⟨.bl _, H, I, rfl, q⟩
theorem fold_rep (b : Array Nat) : ∀ (k : Nat) (a : Array Nat), (List.foldl (· ++ ·) a (List.replicate k b)).toList = a.toList ++ (List.replicate k b.toList).flatten
  | 0, a => by simp
  | k + 1, a => by
    rw [List.replicate_succ, List.foldl_cons, fold_rep b k (a ++ b), List.replicate_succ, List.flatten_cons, Array.toList_append, List.append_assoc]
/-- a text some times -/
def mulS (z : Str) (n : Nat) : Str := ⟨((List.replicate n z.cps.toList).flatten).toArray⟩
theorem mulS_eq (z : Str) (n : Nat) : (⟨List.foldl (· ++ ·) #[] (List.replicate n z.cps)⟩ : Str) = mulS z n := by
  unfold mulS
  congr 1
  apply Array.toList_inj.mp
  rw [fold_rep]
  simp
theorem mulS_len (z : Str) (n : Nat) : (mulS z n).length = n * z.length := by
  unfold mulS Str.length
  simp
def rMulS : R2 := fun x y H Q => ∃ (z : Str) (n : Int), x = .str z ∧ y = .int n ∧ 2 ≤ n ∧ n ≤ 1000 ∧ 0 < z.length ∧ z.length ≤ 1000 ∧ Q (.str (mulS z n.toNat)) H
theorem op_mulS : OpR X (binaryOp .Mult) rMulS := by
  intro pins s σ H x y v u Q I rx ry h
  obtain ⟨z, n, rfl, rfl, n2, n3, z0, z1, q⟩ := h
  obtain ⟨t, rfl⟩ := rx
  obtain ⟨t', rfl⟩ := ry
  have h1 : ¬ n < 1 := by omega
  have h2 : (n == 1 || z.length == 0) = false := by
    simp only [Bool.or_eq_false_iff, beq_eq_false_iff_ne]
    constructor <;> omega
  have len : z.length * n.toNat ≤ 1000 * 1000 := Nat.mul_le_mul z1 (by omega)
  refine PySem.P.mul_str (by simp only [Bool.or_eq_false_iff, decide_eq_false_iff_not]; constructor <;> omega) (fun _ _ => ?_) (fun _ _ => ?_) ?_
  · have : (2 ^ 63 - 1 : Int) / n ≥ 1000 := by
      refine (Int.le_ediv_iff_mul_le (by omega)).mpr ?_
      have : (1000 : Int) * n ≤ 1000 * 1000 := by omega
      omega
    omega
  · have : sizeLine = 16777216 := sizeLine_eq
    have : ¬ z.length * n.toNat > sizeLine := by omega
    exact decide_eq_false this
  · rw [if_neg h1, h2, if_neg (by decide)]
    rw [mulS_eq]
    refine ⟨?_, ⟨.str _, H, I.tok _, ⟨_, rfl⟩, q⟩⟩
    rw [mulS_len, sizeLine_eq, Nat.mul_comm]
    omega
end

/-! ### what is walked -/
section
variable {K : PySem.W.Frag} {σ : L2.St} {B B' : Hp} {ta tb te tl : TE} {tt tu : TT} {R S T U : Rel} {Rs : List Rel} {x v : V}
/-- an iterator that gives such items, while a base stands -/
def Wk (J : It) (B1 : Hp) (Rs : List Rel) : Prop := Walk J Rs.length (fun H => Same B1 H) (fun i H x H' => ∃ R, Rs[i]? = some R ∧ ∀ Bc, Same B1 Bc → Same Bc H → ∃ Bn, Ext Bc H Bn H' ∧ R Bn x)
def Di (wi : TI) (σ : L2.St) (B : Hp) (Rs : List Rel) : Prop := ∀ B1 H, Same B B1 → Same B1 H → ∀ Q : It → Hp → Prop, (∀ J B' H', Ext B1 H B' H' → Wk J B' Rs → Q J H') → wi σ H Q
theorem Di.mono {wi : TI} (s : Same B B') (h : Di wi σ B Rs) : Di wi σ B' Rs := fun B1 H s1 s2 => h B1 H (s.trans s1) s2
theorem Di.list [m : MoA Rs] (h : De tl σ B (lstR K Rs)) : Di (iList K tl) σ B Rs := fun B1 H s1 s2 Q q => h B1 H s1 s2 _ fun v B2 H2 e hv => by
  obtain ⟨a, xs, rfl, hs, hR⟩ := hv
  refine ⟨a, rfl, ⟨xs, e.bh.seq hs⟩, q _ B2 H2 e ?_⟩
  have len := allR_len hR
  unfold Wk
  rw [← len]
  refine (walk_list (K := K) (a := a) (xs := xs)).mono (fun H' s => s.seq hs) fun i H' x H'' hi s y => ?_
  obtain ⟨rfl, hx⟩ := y
  obtain ⟨R, hR1, hR2⟩ := allR_at hR hx
  exact ⟨R, hR1, fun Bc sc sh => ⟨Bc, .refl sh, by
    obtain ⟨v', hv', hR3⟩ := allR_of (m.mo sc hR) hR1
    rw [hx] at hv'
    cases hv'
    exact hR3⟩⟩
theorem Di.tup [m : MoA Rs] (h : De tl σ B (tupR K Rs)) : Di (iTup K tl) σ B Rs := fun B1 H s1 s2 Q q => h B1 H s1 s2 _ fun v B2 H2 e hv => by
  obtain ⟨a, xs, rfl, hs, hR⟩ := hv
  refine ⟨a, rfl, ⟨xs, seqT e.bh hs⟩, q _ B2 H2 e ?_⟩
  have len := allR_len hR
  unfold Wk
  rw [← len]
  refine (walk_tup (K := K) (a := a) (xs := xs)).mono (fun H' s => seqT s hs) fun i H' x H'' hi s y => ?_
  obtain ⟨rfl, hx⟩ := y
  obtain ⟨R, hR1, hR2⟩ := allR_at hR hx
  exact ⟨R, hR1, fun Bc sc sh => ⟨Bc, .refl sh, by
    obtain ⟨v', hv', hR3⟩ := allR_of (m.mo sc hR) hR1
    rw [hx] at hv'
    cases hv'
    exact hR3⟩⟩
theorem Di.listD {ds : List PyData} (h : De tl σ B (dat K (.list ds))) : Di (iList K tl) σ B (ds.map (dat K)) := .list (h.conv fun _ _ => dat_lstR)
theorem Di.tupD {ds : List PyData} (h : De tl σ B (dat K (.tuple ds))) : Di (iTup K tl) σ B (ds.map (dat K)) := .tup (h.conv fun _ _ => dat_tupR)
def intsR (K : PySem.W.Frag) (lo : Int) (n : Nat) : List Rel := (List.range n).map fun i : Nat => dat K (.int (lo + (i : Int)))
theorem wk_ints {lo : Int} {n : Nat} : Wk (Itr lo n) B (intsR K lo n) := by
  unfold Wk intsR
  rw [List.length_map, List.length_range]
  refine (walk_range (lo := lo) (n := n)).mono (fun _ _ => trivial) fun i H' x H'' hi s y => ?_
  obtain ⟨rfl, rfl⟩ := y
  refine ⟨dat K (.int (lo + (i : Int))), by rw [List.getElem?_map, List.getElem?_range hi]; rfl, fun Bc sc sh => ⟨Bc, .refl sh, Dp.int _⟩⟩
theorem Di.rng1 {ta : TA} {n : Int} (h : Da ta σ B [dat K (.int n)]) (h0 : -(2 ^ 62) ≤ n) (h1 : n < 2 ^ 62) : Di (iRng1 ta) σ B (intsR K 0 n.toNat) := fun B1 H s1 s2 Q q => h B1 H s1 s2 _ fun vs B2 H2 e hv => by
  obtain ⟨v, r, rfl, h2, h3⟩ := hv
  have h3 : r = [] := h3
  subst h3
  have h2 := dat_int h2
  subst h2
  exact ⟨n, rfl, h0, h1, q _ B2 H2 e wk_ints⟩
theorem Di.rng2 {ta : TA} {lo n : Int} (h : Da ta σ B [dat K (.int lo), dat K (.int n)]) (h0 : -(2 ^ 62) ≤ lo ∧ lo < 2 ^ 62 ∧ -(2 ^ 62) ≤ n ∧ n < 2 ^ 62) : Di (iRng2 ta) σ B (intsR K lo (n - lo).toNat) := fun B1 H s1 s2 Q q => h B1 H s1 s2 _ fun vs B2 H2 e hv => by
  obtain ⟨v, r, rfl, h2, v', r', rfl, h4, h5⟩ := hv
  have h5 : r' = [] := h5
  subst h5
  have h2 := dat_int h2
  subst h2
  have h4 := dat_int h4
  subst h4
  exact ⟨lo, n, rfl, h0, q _ B2 H2 e wk_ints⟩
theorem Di.str {z : Str} (h : De tl σ B (dat K (.str z))) : Di (iStr tl) σ B (z.cps.toList.map fun c => dat K (.str ⟨#[c]⟩)) := fun B1 H s1 s2 Q q => h B1 H s1 s2 _ fun v B2 H2 e hv => by
  have hv := dat_str hv
  subst hv
  refine ⟨z, rfl, q _ B2 H2 e ?_⟩
  unfold Wk
  have len : (z.cps.toList.map fun c => dat K (.str ⟨#[c]⟩)).length = z.cps.size := by simp
  rw [len]
  refine (walk_str (z := z)).mono (fun _ _ => trivial) fun i H' x H'' hi s y => ?_
  obtain ⟨rfl, c, hc, rfl⟩ := y
  refine ⟨dat K (.str ⟨#[c]⟩), ?_, fun Bc sc sh => ⟨Bc, .refl sh, Dp.str _⟩⟩
  rw [List.getElem?_map, Array.getElem?_toList, hc]
  rfl
/-- a new pair -/
theorem pair_new {R S : Rel} [m1 : Mo R] [m2 : Mo S] {Bc H : Hp} {p : Addr} {x y : V} (sh : Same Bc H) (hp : H p = none) (hx : R Bc x) (hy : S Bc y) : ∃ Bn, Ext Bc H Bn (upd H p (.tup [x, y])) ∧ tupR K [R, S] Bn (.ref p) :=
  ⟨upd Bc p (.tup [x, y]), .new sh hp, p, _, rfl, SqT.of upd_same, x, [y], rfl, m1.mo (new_same (sh.free hp)) hx, y, [], rfl, m2.mo (new_same (sh.free hp)) hy, rfl⟩
theorem Di.zip {ta : TA} {Ss : List Rel} [m : MoA Rs] [m' : MoA Ss] (hm : ∀ R ∈ Rs, Mo R) (hm' : ∀ R ∈ Ss, Mo R) (h : Da ta σ B [lstR K Rs, lstR K Ss]) : Di (iZip K ta) σ B ((Rs.zip Ss).map fun p => tupR K [p.1, p.2]) := fun B1 H s1 s2 Q q => h B1 H s1 s2 _ fun vs B2 H2 e hv => by
  obtain ⟨v, r, rfl, ⟨a, xs, rfl, hs, hR⟩, v', r', rfl, ⟨b, ys, rfl, hs', hR'⟩, h5⟩ := hv
  have h5 : r' = [] := h5
  subst h5
  refine ⟨a, b, xs, ys, rfl, e.bh.seq hs, e.bh.seq hs', q _ B2 H2 e ?_⟩
  have len := allR_len hR
  have len' := allR_len hR'
  unfold Wk
  rw [List.length_map]
  refine (walk_zip (K := K) (a := a) (b := b) (xs := xs) (ys := ys) (n := (Rs.zip Ss).length) (by rw [List.length_zip, len, len'])).mono (fun H' s => ⟨s.seq hs, s.seq hs'⟩) fun i H' x H'' hi s y => ?_
  obtain ⟨p, u, w, rfl, hp, rfl, hu, hw⟩ := y
  have hu : xs[i]? = some u := hu
  have hw : ys[i]? = some w := hw
  obtain ⟨R, hR1, _⟩ := allR_at hR hu
  obtain ⟨S, hS1, _⟩ := allR_at hR' hw
  refine ⟨tupR K [R, S], ?_, fun Bc sc sh => ?_⟩
  · rw [List.getElem?_map, List.getElem?_zip_eq_some (z := (R, S)) |>.mpr ⟨hR1, hS1⟩]
    rfl
  · have := hm R (List.mem_of_getElem? hR1)
    have := hm' S (List.mem_of_getElem? hS1)
    obtain ⟨v1, hv1, q1⟩ := allR_of (m.mo sc hR) hR1
    obtain ⟨v2, hv2, q2⟩ := allR_of (m'.mo sc hR') hS1
    rw [hu] at hv1
    rw [hw] at hv2
    cases hv1
    cases hv2
    exact pair_new sh hp q1 q2
theorem Di.enum {ta : TA} [m : MoA Rs] (hm : ∀ R ∈ Rs, Mo R) (h : Da ta σ B [lstR K Rs]) : Di (iEnum K ta) σ B (Rs.zipIdx.map fun p => tupR K [dat K (.int (p.2 : Int)), p.1]) := fun B1 H s1 s2 Q q => h B1 H s1 s2 _ fun vs B2 H2 e hv => by
  obtain ⟨v, r, rfl, ⟨a, xs, rfl, hs, hR⟩, h5⟩ := hv
  have h5 : r = [] := h5
  subst h5
  refine ⟨a, xs, rfl, e.bh.seq hs, q _ B2 H2 e ?_⟩
  have len := allR_len hR
  unfold Wk
  rw [List.length_map, List.length_zipIdx, ← len]
  refine (walk_enum (K := K) (a := a) (xs := xs)).mono (fun H' s => s.seq hs) fun i H' x H'' hi s y => ?_
  obtain ⟨p, u, w, rfl, hp, rfl, hu, hw⟩ := y
  cases hu
  have hw : xs[i]? = some w := hw
  obtain ⟨R, hR1, _⟩ := allR_at hR hw
  refine ⟨tupR K [dat K (.int (i : Int)), R], ?_, fun Bc sc sh => ?_⟩
  · rw [List.getElem?_map, List.getElem?_zipIdx, hR1]
    simp
  · have := hm R (List.mem_of_getElem? hR1)
    obtain ⟨v1, hv1, q1⟩ := allR_of (m.mo sc hR) hR1
    rw [hw] at hv1
    cases hv1
    exact pair_new sh hp (Dp.int _) q1

/-! ### loops -/
/-- what is wanted behind a turn -/
def Nx (B1 : Hp) (P : L2.St → Hp → Hp → Prop) : L2.St → Hp → Prop := fun σ H => ∃ B', Same B1 B' ∧ Same B' H ∧ P σ B' H
theorem s_for {wi : TI} {g : TG} {ts : TS} {D : Ends} {H : Hp} (hi : Di wi σ B Rs) (hB : Same B H) (Pv : Nat → L2.St → Hp → Hp → Prop) (h0 : ∀ B' H', Ext B H B' H' → Pv 0 σ B' H')
    (hs : ∀ B1 i R v σ' Bc Hc Bn Hn, Same B B1 → Same B1 Bc → Rs[i]? = some R → Pv i σ' Bc Hc → Ext Bc Hc Bn Hn → R Bn v → g v σ' Hn fun σ2 H2 => ts { D with nx := Nx B1 (Pv (i + 1)), ct := Nx B1 (Pv (i + 1)), bk := D.nx } σ2 H2)
    (hd : ∀ σ' B' H', Same B B' → Same B' H' → Pv Rs.length σ' B' H' → D.nx σ' H') : tFor wi g ts D σ H :=
  hi B H (Same.refl _) hB _ fun J B1 H1 e hw => for_it hw (fun i σ' H' => Nx B1 (Pv i) σ' H') ⟨B1, Same.refl _, e.bh, h0 B1 H1 e⟩ (fun i σ' H' _ ⟨B', s1, s2, _⟩ => s1.trans s2)
    (fun i x σ' H' H'' hi ⟨Bc, s1, s2, p⟩ ⟨R, hR, y⟩ => by
      obtain ⟨Bn, e2, hx⟩ := y Bc s1 s2
      exact hs B1 i R x σ' Bc H' Bn H'' e.bb s1 hR p e2 hx)
    (fun σ' H' ⟨B', s1, s2, p⟩ => hd σ' B' H' (e.bb.trans s1) s2 p)

/-! ### comprehensions -/
theorem De.lc {α : Type} {as : List α} {r : α → Rel} {wi : TI} {g : TG} {vs : List Nat} (hi : Di wi σ B (as.map r)) (p : α → Bool) (o : α → Rel) [mo : ∀ a, Mo (o a)] (hz : as.length < sizeLine)
    (turn : ∀ a v Bn H, a ∈ as → Same B Bn → Same Bn H → r a Bn v → ∃ σ2, (∀ Q : L2.St → Hp → Prop, Q σ2 H → g v (wipe σ vs) H Q) ∧ wipe σ2 vs = wipe σ vs ∧ Dt tt σ2 Bn (p a) ∧ (p a = true → De te σ2 Bn (o a))) :
    De (tLc wi g tt te vs) σ B (lstR K ((as.filter p).map o)) := fun B1 H s1 s2 Q q => hi B1 H s1 s2 _ fun J B2 H2 e hw => fun D hD => by
  have moA : ∀ l : List α, MoA (l.map o) := fun l => moA_of fun R h => by
    obtain ⟨a, _, rfl⟩ := List.mem_map.mp h
    exact mo a
  have hw' : Walk J as.length (fun H => Same B2 H) (fun i H x H' => ∃ R, (as.map r)[i]? = some R ∧ ∀ Bc, Same B2 Bc → Same Bc H → ∃ Bn, Ext Bc H Bn H' ∧ R Bn x) := by
    have := hw
    unfold Wk at this
    rw [List.length_map] at this
    exact this
  refine lc_it hw' (fun i H' => ∃ B' xs, Ext B2 H2 B' H' ∧ B' D = none ∧ H' D = some (.lst xs) ∧ xs.length ≤ i ∧ AllR (((as.take i).filter p).map o) B' xs) ?_ (fun i H' _ ⟨B', xs, e', _⟩ => e'.bb.trans e'.bh) ?_ ?_
  · exact ⟨B2, [], .own e.bh hD, e.bh.free hD, upd_same, Nat.le_refl _, by rw [List.take_zero]; rfl⟩
  · rintro i x H' H'' hi' ⟨B', xs, e', nD, atD, few, hxs⟩ ⟨R, hR, y⟩
    obtain ⟨Bn, e2, hx⟩ := y B' e'.bb e'.bh
    rw [List.getElem?_map] at hR
    obtain ⟨a, ha, rfl⟩ := Option.map_eq_some_iff.mp hR
    obtain ⟨σ2, t1, t2, t3, t4⟩ := turn a x Bn H'' (List.mem_of_getElem? ha) (((s1.trans e.bb).trans e'.bb).trans e2.bb) e2.bh hx
    have atD2 := e2.hh _ _ atD
    have nD2 : Bn D = none := e2.nw D (by rw [atD]; exact fun z => nomatch z) nD
    have tk : as.take (i + 1) = as.take i ++ [a] := by rw [List.take_succ, ha]; rfl
    refine t1 _ ⟨t2, t3 Bn H'' (Same.refl _) e2.bh _ fun B3 H3 e3 => ?_⟩
    have atD3 := e3.hh _ _ atD2
    have nD3 : B3 D = none := e3.nw D (by rw [atD2]; exact fun z => nomatch z) nD2
    have e13 := (e'.trans e2).trans e3
    cases hp : p a with
    | true =>
      refine t4 hp B3 H3 e3.bb e3.bh _ fun y B4 H4 e4 hy => ?_
      have atD4 := e4.hh _ _ atD3
      have nD4 : B4 D = none := e4.nw D (by rw [atD3]; exact fun z => nomatch z) nD3
      have e14 := e13.trans e4
      refine ⟨xs, atD4, by omega, B4, xs ++ [y], ⟨fun b u hb => ?_, e14.bb, fun b u hb => ?_, e14.nw⟩, nD4, upd_same, by simp; omega, ?_⟩
      · rw [upd_ne (ne_of_none hb hD)]
        exact e14.hh b u hb
      · rw [upd_ne (ne_of_none hb nD4)]
        exact e14.bh b u hb
      · rw [tk, List.filter_append, List.map_append]
        have : [a].filter p = [a] := by simp [hp]
        rw [this]
        exact allR_snoc ((moA _).mo ((e2.bb.trans e3.bb).trans e4.bb) hxs) hy
    | false =>
      refine ⟨B3, xs, e13, nD3, atD3, by omega, ?_⟩
      rw [tk, List.filter_append]
      have : [a].filter p = [] := by simp [hp]
      rw [this, List.append_nil]
      exact (moA _).mo (e2.bb.trans e3.bb) hxs
  · rintro H' ⟨B', xs, e', nD, atD, few, hxs⟩
    rw [List.take_length] at hxs
    refine q (.ref D) (upd B' D (.lst xs)) H' ⟨e.hh.trans e'.hh, (e.bb.trans e'.bb).trans (new_same nD), fun b u hb => ?_, fun b h1 h2 => ?_⟩ ⟨D, xs, rfl, SqL.of upd_same, (moA _).mo (new_same nD) hxs⟩
    · by_cases z : b = D
      · subst z
        rw [upd_same] at hb
        cases hb
        exact atD
      · rw [upd_ne z] at hb
        exact e'.bh b u hb
    · have z : b ≠ D := by
        rintro rfl
        cases w : H b with
        | none => exact h1 w
        | some u =>
          rw [e.hh b u w] at hD
          cases hD
      rw [upd_ne z]
      exact (e.trans e').nw b h1 h2
/-- .. of data -/
theorem De.lcD {α : Type} {as : List α} {r : α → Rel} {wi : TI} {g : TG} {vs : List Nat} (hi : Di wi σ B (as.map r)) (p : α → Bool) (o : α → PyData) (hz : as.length < sizeLine)
    (turn : ∀ a v Bn H, a ∈ as → Same B Bn → Same Bn H → r a Bn v → ∃ σ2, (∀ Q : L2.St → Hp → Prop, Q σ2 H → g v (wipe σ vs) H Q) ∧ wipe σ2 vs = wipe σ vs ∧ Dt tt σ2 Bn (p a) ∧ (p a = true → De te σ2 Bn (dat K (o a)))) :
    De (tLc wi g tt te vs) σ B (dat K (.list ((as.filter p).map o))) :=
  (De.lc (K := K) hi p (fun a => dat K (o a)) hz turn).conv fun B' v h => lstR_dat (by rw [List.map_map]; exact h)
/-- without a test -/
theorem De.lcA {α : Type} {as : List α} {r : α → Rel} {wi : TI} {g : TG} {vs : List Nat} (hi : Di wi σ B (as.map r)) (o : α → PyData) (hz : as.length < sizeLine)
    (turn : ∀ a v Bn H, a ∈ as → Same B Bn → Same Bn H → r a Bn v → ∃ σ2, (∀ Q : L2.St → Hp → Prop, Q σ2 H → g v (wipe σ vs) H Q) ∧ wipe σ2 vs = wipe σ vs ∧ De te σ2 Bn (dat K (o a))) :
    De (tLc wi g tYes te vs) σ B (dat K (.list (as.map o))) := by
  have := De.lcD (K := K) (tt := tYes) (te := te) hi (fun _ => true) o hz fun a v Bn H h1 h2 h3 h4 => by
    obtain ⟨σ2, t1, t2, t3⟩ := turn a v Bn H h1 h2 h3 h4
    exact ⟨σ2, t1, t2, .yes, fun _ => t3⟩
  rw [List.filter_eq_self.mpr (fun _ _ => rfl)] at this
  exact this
/-- a pair is taken apart -/
theorem gTup2 {Bn H : Hp} {v : V} {R S : Rel} {σ1 : L2.St} {i j : Nat} (s : Same Bn H) (h : tupR K [R, S] Bn v) : ∃ x y, R Bn x ∧ S Bn y ∧ ∀ Q : L2.St → Hp → Prop, Q ((σ1.set i (some x)).set j (some y)) H → gTup K 2 (gCons (gName i) (gCons (gName j) gNil)) v σ1 H Q := by
  obtain ⟨a, xs, rfl, hs, x, r, rfl, hx, y, r', rfl, hy, hr⟩ := h
  have hr : r' = [] := hr
  subst hr
  exact ⟨x, y, hx, hy, fun Q q => ⟨a, _, rfl, seqT s hs, rfl, x, [y], rfl, y, [], rfl, rfl, q⟩⟩
theorem dat_pair {d e : PyData} {Bn : Hp} {v : V} (h : dat K (.tuple [d, e]) Bn v) : tupR K [dat K d, dat K e] Bn v := dat_tupR h

/-! ### built-in functions -/
theorem rc_len {ds : List PyData} : Rc (fun xs H Q => ∃ x n, xs = [x] ∧ LenV K x H n ∧ Q (.int n) H) B [dat K (.list ds)] (dat K (.int (ds.length : Int))) := fun vs B1 H _ s2 hv Q q => by
  obtain ⟨v, r, rfl, h, h2⟩ := hv
  have h2 : r = [] := h2
  subst h2
  obtain ⟨a, xs, rfl, hs, hR⟩ := dat_lstR h
  have len := allR_len hR
  rw [List.length_map] at len
  exact ⟨.ref a, ds.length, rfl, .inl ⟨xs, s2.seq hs, len.symm⟩, q _ B1 H (.refl s2) (.int _)⟩
theorem rc_lenT {ds : List PyData} : Rc (fun xs H Q => ∃ x n, xs = [x] ∧ LenV K x H n ∧ Q (.int n) H) B [dat K (.tuple ds)] (dat K (.int (ds.length : Int))) := fun vs B1 H _ s2 hv Q q => by
  obtain ⟨v, r, rfl, h, h2⟩ := hv
  have h2 : r = [] := h2
  subst h2
  obtain ⟨a, xs, rfl, hs, hR⟩ := dat_tupR h
  have len := allR_len hR
  rw [List.length_map] at len
  exact ⟨.ref a, ds.length, rfl, .inr ⟨xs, seqT s2 hs, len.symm⟩, q _ B1 H (.refl s2) (.int _)⟩
theorem rc_lenS {z : Str} (hz : z.length ≤ sizeLine) : Rc (fun xs H Q => ∃ x n, xs = [x] ∧ LenV K x H n ∧ Q (.int n) H) B [dat K (.str z)] (dat K (.int (z.length : Int))) := fun vs B1 H _ s2 hv Q q => by
  obtain ⟨v, r, rfl, h, h2⟩ := hv
  have h2 : r = [] := h2
  subst h2
  have h := dat_str h
  subst h
  exact ⟨.str z, z.length, rfl, ⟨hz, rfl⟩, q _ B1 H (.refl s2) (.int _)⟩
theorem rc_show {d : PyData} (h : Shw d) : Rc (rShow K) B [dat K d] (dat K (.str d.shown)) := fun vs B1 H _ s2 hv Q q => by
  obtain ⟨v, r, rfl, hv, h2⟩ := hv
  have h2 : r = [] := h2
  subst h2
  exact ⟨v, d, rfl, dpMono s2 _ _ hv, h.1, h.2.1, h.2.2.1, h.2.2.2, q _ B1 H (.refl s2) (.str _)⟩
theorem rc_tupL {Rs : List Rel} [m : MoA Rs] : Rc (fun xs H Q => ∃ p ys, xs = [.ref p] ∧ ((SqL K H p ys ∧ ∀ l, H l = none → Q (.ref l) (upd H l (.tup ys))) ∨ (SqT K H p ys ∧ Q (.ref p) H))) B [lstR K Rs] (tupR K Rs) := fun vs B1 H _ s2 hv Q q => by
  obtain ⟨v, r, rfl, ⟨a, xs, rfl, hs, hR⟩, h2⟩ := hv
  have h2 : r = [] := h2
  subst h2
  exact ⟨a, xs, rfl, .inl ⟨s2.seq hs, fun p hp => q _ (upd B1 p (.tup xs)) _ (.new s2 hp) ⟨p, xs, rfl, SqT.of upd_same, m.mo (new_same (s2.free hp)) hR⟩⟩⟩
theorem rc_tupT {Rs : List Rel} [m : MoA Rs] : Rc (fun xs H Q => ∃ p ys, xs = [.ref p] ∧ ((SqL K H p ys ∧ ∀ l, H l = none → Q (.ref l) (upd H l (.tup ys))) ∨ (SqT K H p ys ∧ Q (.ref p) H))) B [tupR K Rs] (tupR K Rs) := fun vs B1 H _ s2 hv Q q => by
  obtain ⟨v, r, rfl, ⟨a, xs, rfl, hs, hR⟩, h2⟩ := hv
  have h2 : r = [] := h2
  subst h2
  exact ⟨a, xs, rfl, .inr ⟨seqT s2 hs, q _ B1 H (.refl s2) ⟨a, xs, rfl, hs, hR⟩⟩⟩
theorem rc_lstL {Rs : List Rel} [m : MoA Rs] : Rc (fun xs H Q => ∃ p ys, xs = [.ref p] ∧ (SqL K H p ys ∨ SqT K H p ys) ∧ ∀ l, H l = none → Q (.ref l) (upd H l (.lst ys))) B [lstR K Rs] (lstR K Rs) := fun vs B1 H _ s2 hv Q q => by
  obtain ⟨v, r, rfl, ⟨a, xs, rfl, hs, hR⟩, h2⟩ := hv
  have h2 : r = [] := h2
  subst h2
  exact ⟨a, xs, rfl, .inl (s2.seq hs), fun p hp => q _ (upd B1 p (.lst xs)) _ (.new s2 hp) ⟨p, xs, rfl, SqL.of upd_same, m.mo (new_same (s2.free hp)) hR⟩⟩
theorem rc_lstT {Rs : List Rel} [m : MoA Rs] : Rc (fun xs H Q => ∃ p ys, xs = [.ref p] ∧ (SqL K H p ys ∨ SqT K H p ys) ∧ ∀ l, H l = none → Q (.ref l) (upd H l (.lst ys))) B [tupR K Rs] (lstR K Rs) := fun vs B1 H _ s2 hv Q q => by
  obtain ⟨v, r, rfl, ⟨a, xs, rfl, hs, hR⟩, h2⟩ := hv
  have h2 : r = [] := h2
  subst h2
  exact ⟨a, xs, rfl, .inr (seqT s2 hs), fun p hp => q _ (upd B1 p (.lst xs)) _ (.new s2 hp) ⟨p, xs, rfl, SqL.of upd_same, m.mo (new_same (s2.free hp)) hR⟩⟩
theorem rc_sorted {ds : List PyData} (hal : PySem.W.AllAlike ds) (hk : PySem.W.SortOk ds) (hd : ∀ d ∈ ds, d.depth ≤ 60) : Rc (rSortedD K) B [dat K (.list ds)] (dat K (.list (sortD ds))) := fun vs B1 H _ s2 hv Q q => by
  obtain ⟨v, r, rfl, h, h2⟩ := hv
  have h2 : r = [] := h2
  subst h2
  obtain ⟨a, xs, rfl, hs, hR⟩ := dat_lstR h
  have g := allR_dp hR
  exact ⟨a, xs, ds, rfl, s2.seq hs, dpMonoAll s2 _ _ g, hal, hk, hd, fun p hp => q _ (upd B1 p (.lst (sortV xs ds))) _ (.new s2 hp) (.lst (SqL.of upd_same) (dpMonoAll (new_same (s2.free hp)) _ _ (dp_sort g)))⟩
/-- lists and tuples of data, by what they are -/
theorem Da.one {d : PyData} (h : De ta σ B (dat K d)) : Da (tCons ta tNil) σ B [dat K d] := .cons h .nil

/-! ### objects that never change -/
def AllF : List (Str × Rel) → Hp → List (Str × V) → Prop
  | [], _, us => us = []
  | (f, R) :: r, B, us => ∃ v u, us = (f, v) :: u ∧ R B v ∧ AllF r B u
class MoF (fs : List (Str × Rel)) : Prop where
  mo : ∀ {B B' : Hp} {us : List (Str × V)}, Same B B' → AllF fs B us → AllF fs B' us
instance : MoF [] := ⟨fun _ h => h⟩
instance {f : Str} {R : Rel} {r : List (Str × Rel)} [m : Mo R] [t : MoF r] : MoF ((f, R) :: r) := ⟨fun s ⟨v, u, e, h, g⟩ => ⟨v, u, e, m.mo s h, t.mo s g⟩⟩
def insR (C : Addr) (fs : List (Str × Rel)) : Rel := fun B v => ∃ a dx us, v = .ref a ∧ B a = some (.ins C dx us) ∧ AllF fs B us
instance {C : Addr} {fs : List (Str × Rel)} [m : MoF fs] : Mo (insR C fs) := ⟨fun s ⟨a, dx, us, e, h, g⟩ => ⟨a, dx, us, e, s _ _ h, m.mo s g⟩⟩
theorem allF_get {f : Str} : ∀ {fs : List (Str × Rel)} {us : List (Str × V)}, AllF fs B us → fs.lookup f = some R → ∃ v, us.lookup f = some v ∧ R B v
  | (g, S) :: r, _, ⟨v, u, e, h, t⟩, z => by
    subst e
    simp only [List.lookup] at *
    cases q : f == g with
    | true =>
      rw [q] at z
      cases z
      exact ⟨v, rfl, h⟩
    | false =>
      rw [q] at z
      exact allF_get t z
theorem De.fld {C : Addr} {f : Str} {fs : List (Str × Rel)} (he : De te σ B (insR C fs)) (c : Cls K C) (n : NoAttr K C f) (hf : fs.lookup f = some R) : De (tFld K te f) σ B R := fun B1 H s1 s2 Q q => he B1 H s1 s2 _ fun v B2 H2 e hv => by
  obtain ⟨a, dx, us, rfl, h, g⟩ := hv
  obtain ⟨x, hx, hR⟩ := allF_get g hf
  exact ⟨a, C, dx, us, x, rfl, e.bh _ _ h, c, n, hx, q x B2 H2 e hR⟩
/-- __init__ that keeps its arguments -/
def spIns (C : Addr) (fs : List Str) : Sp := fun vs H Q _ => ∃ (x dx : Addr) (us : List V), vs = .ref x :: us ∧ us.length = fs.length ∧ H x = some (.ins C dx []) ∧ Q .non (upd H x (.ins C dx (fs.zip us)))
theorem allF_zip : ∀ {fs : List Str} {Rs : List Rel} {us : List V}, fs.length = Rs.length → AllR Rs B us → AllF (fs.zip Rs) B (fs.zip us)
  | [], [], _, _, _ => rfl
  | f :: fs, R :: Rs, _, h, ⟨v, u, e, g, t⟩ => by
    subst e
    exact ⟨v, _, rfl, g, allF_zip (by simpa using h) t⟩
theorem upd_over {H : Hp} {x d : Addr} {o p q : HO} : upd (upd (upd H d p) x o) x q = upd (upd H d p) x q := by
  funext b
  unfold upd
  by_cases h : b = x
  · rw [if_pos h, if_pos h]
  · rw [if_neg h, if_neg h, if_neg h]
theorem De.make {C : Addr} {fs : List Str} {E : XK} {ta : TA} [m : MoA Rs] (ha : Da ta σ B Rs) (hl : fs.length = Rs.length) : De (tMake C (spIns C fs) [] E ta) σ B (insR C (fs.zip Rs)) := fun B1 H s1 s2 Q q =>
  ha B1 H s1 s2 _ fun vs B2 H2 e hv => fun x dx hx hd ne => by
    have len := allR_len hv
    refine ⟨x, dx, vs, by rw [List.append_nil], by omega, upd_same, rfl, ?_⟩
    rw [upd_over]
    have e1 : Ext B2 H2 B2 (upd H2 dx (.own x)) := .own e.bh hd
    have hx1 : upd H2 dx (.own x) x = none := by
      rw [upd_ne ne.symm]
      exact hx
    have e2 := Ext.new (o := .ins C dx (fs.zip vs)) e1.bh hx1
    exact q _ _ _ ((e.trans e1).trans e2) ⟨x, dx, _, rfl, upd_same, allF_zip hl (m.mo (new_same (e.bh.free hx)) hv)⟩
end
end Wv

set_option Elab.async false
set_option linter.all false
set_option maxRecDepth 100000
set_option maxHeartbeats 4000000
/-! Wv2: comprehensions with two fors, list(range), classes by their names, data args. -/
namespace Wv
open PySem PySem.Spec PyProof.Rows L2 Wb
section
variable {K : PySem.W.Frag} {σ : L2.St} {B B' : Hp} {ta tb te tl : TE} {tt tu : TT} {R S T U : Rel} {Rs : List Rel} {x v : V}
theorem stays {B H B' H' : Hp} {D : Addr} {o : HO} (e : Ext B H B' H') (h : H D = some o) (n : B D = none) : H' D = some o ∧ B' D = none :=
  ⟨e.hh _ _ h, e.nw D (by rw [h]; exact fun z => nomatch z) n⟩
/-- one more in a list that is being made -/
theorem grown {B2 H2 B4 H4 : Hp} {D : Addr} {xs : List V} {y : V} (hD : H2 D = none) (e : Ext B2 H2 B4 H4) (n : B4 D = none) : Ext B2 H2 B4 (upd H4 D (.lst (xs ++ [y]))) :=
  ⟨fun b u hb => by
    rw [upd_ne (ne_of_none hb hD)]
    exact e.hh b u hb, e.bb, fun b u hb => by
    rw [upd_ne (ne_of_none hb n)]
    exact e.bh b u hb, e.nw⟩
theorem De.lc2D {α β : Type} {as : List α} {r : α → Rel} {wi wi1 : TI} {g g1 : TG} {vs vs1 : List Nat} (hi : Di wi σ B (as.map r)) (bs : α → List β) (r1 : α → β → Rel) (o : α → β → PyData) (hz : (as.flatMap fun a => (bs a).map (o a)).length < sizeLine)
    (turn : ∀ a v Bn H, a ∈ as → Same B Bn → Same Bn H → r a Bn v → ∃ σ2, (∀ Q : L2.St → Hp → Prop, Q σ2 H → g v (wipe σ vs) H Q) ∧ wipe σ2 vs = wipe σ vs ∧ Di wi1 σ2 Bn ((bs a).map (r1 a)) ∧
      ∀ b v' Bm H', b ∈ bs a → Same Bn Bm → Same Bm H' → r1 a b Bm v' → ∃ σ3, (∀ Q : L2.St → Hp → Prop, Q σ3 H' → g1 v' (wipe σ2 vs1) H' Q) ∧ wipe σ3 vs1 = wipe σ2 vs1 ∧ De te σ3 Bm (dat K (o a b))) :
    De (tLc2 wi g tYes wi1 g1 tYes te vs vs1) σ B (dat K (.list (as.flatMap fun a => (bs a).map (o a)))) := fun B1 H s1 s2 Q q => hi B1 H s1 s2 _ fun J B2 H2 e hw => fun D hD => by
  have w : Walk J as.length (fun H => Same B2 H) (fun i H x H' => ∃ R, (as.map r)[i]? = some R ∧ ∀ Bc, Same B2 Bc → Same Bc H → ∃ Bn, Ext Bc H Bn H' ∧ R Bn x) := by
    have := hw
    unfold Wk at this
    rw [List.length_map] at this
    exact this
  have part : ∀ i, i ≤ as.length → ((as.take i).flatMap fun a => (bs a).map (o a)).length ≤ (as.flatMap fun a => (bs a).map (o a)).length := fun i _ => by
    conv => rhs; rw [← List.take_append_drop i as, List.flatMap_append, List.length_append]
    omega
  refine ⟨fun i m H' => m = as.length - i ∧ i ≤ as.length ∧ ∃ B' xs, Ext B2 H2 B' H' ∧ B' D = none ∧ H' D = some (.lst xs) ∧ AllR (((as.take i).flatMap fun a => (bs a).map (o a)).map (dat K)) B' xs,
    ⟨as.length, rfl, Nat.zero_le _, B2, [], .own e.bh hD, e.bh.free hD, upd_same, by rw [List.take_zero]; rfl⟩, ?_⟩
  rintro i m H' ⟨rfl, le, B', xs, e', nD, atD, hxs⟩
  by_cases lt : i < as.length
  · refine .inr ⟨w.goes i H' lt (e'.bb.trans e'.bh), fun H'' => ∃ B' xs, Ext B2 H2 B' H'' ∧ B' D = none ∧ H'' D = some (.lst xs) ∧ AllR (((as.take (i + 1)).flatMap fun a => (bs a).map (o a)).map (dat K)) B' xs,
      fun H'' h => ⟨as.length - (i + 1), by omega, rfl, lt, h⟩, fun x H'' y => ?_⟩
    obtain ⟨R, hR, y⟩ := w.yields i H' x H'' lt (e'.bb.trans e'.bh) y
    obtain ⟨Bn, e2, hx⟩ := y B' e'.bb e'.bh
    rw [List.getElem?_map] at hR
    obtain ⟨a, ha, rfl⟩ := Option.map_eq_some_iff.mp hR
    obtain ⟨σ2, t1, t2, t3, t4⟩ := turn a x Bn H'' (List.mem_of_getElem? ha) (((s1.trans e.bb).trans e'.bb).trans e2.bb) e2.bh hx
    obtain ⟨atD2, nD2⟩ := stays e2 atD nD
    have tk : as.take (i + 1) = as.take i ++ [a] := by rw [List.take_succ, ha]; rfl
    have pt := part (i + 1) lt
    rw [tk, List.flatMap_append, List.length_append] at pt
    have e1f : ([a].flatMap fun a => (bs a).map (o a)) = (bs a).map (o a) := by simp
    rw [e1f, List.length_map] at pt
    refine t1 _ ⟨t2, ?_⟩
    show wi1 σ2 H'' _
    refine t3 Bn H'' (Same.refl _) e2.bh _ fun J1 Bm H4 e3 hw1 => ?_
    have w1 : Walk J1 (bs a).length (fun H => Same Bm H) (fun i H x H' => ∃ R, ((bs a).map (r1 a))[i]? = some R ∧ ∀ Bc, Same Bm Bc → Same Bc H → ∃ Bn, Ext Bc H Bn H' ∧ R Bn x) := by
      have := hw1
      unfold Wk at this
      rw [List.length_map] at this
      exact this
    obtain ⟨atD3, nD3⟩ := stays e3 atD2 nD2
    have e13 := (e'.trans e2).trans e3
    refine ⟨fun j k H5 => k = (bs a).length - j ∧ j ≤ (bs a).length ∧ ∃ B5 ys, Ext B2 H2 B5 H5 ∧ Same Bm B5 ∧ B5 D = none ∧ H5 D = some (.lst ys) ∧ AllR ((((as.take i).flatMap fun a => (bs a).map (o a)) ++ ((bs a).take j).map (o a)).map (dat K)) B5 ys,
      ⟨(bs a).length, rfl, Nat.zero_le _, Bm, xs, e13, Same.refl _, nD3, atD3, ?_⟩, ?_⟩
    · rw [List.take_zero, List.map_nil, List.append_nil]
      exact MoA.mo (e2.bb.trans e3.bb) hxs
    rintro j k H5 ⟨rfl, le1, B5, ys, e5, sm, nD5, atD5, hys⟩
    by_cases lt1 : j < (bs a).length
    · refine .inr ⟨w1.goes j H5 lt1 (sm.trans e5.bh), fun H6 => ∃ B5 ys, Ext B2 H2 B5 H6 ∧ Same Bm B5 ∧ B5 D = none ∧ H6 D = some (.lst ys) ∧ AllR ((((as.take i).flatMap fun a => (bs a).map (o a)) ++ ((bs a).take (j + 1)).map (o a)).map (dat K)) B5 ys,
        fun H6 h => ⟨(bs a).length - (j + 1), by omega, rfl, lt1, h⟩, fun x' H6 y' => ?_⟩
      obtain ⟨R', hR', y'⟩ := w1.yields j H5 x' H6 lt1 (sm.trans e5.bh) y'
      obtain ⟨B6, e6, hx'⟩ := y' B5 sm e5.bh
      rw [List.getElem?_map] at hR'
      obtain ⟨b, hb, rfl⟩ := Option.map_eq_some_iff.mp hR'
      obtain ⟨σ3, u1, u2, u3⟩ := t4 b x' B6 H6 (List.mem_of_getElem? hb) ((e3.bb.trans sm).trans e6.bb) e6.bh hx'
      obtain ⟨atD6, nD6⟩ := stays e6 atD5 nD5
      refine u1 _ ⟨u2, ?_⟩
      show te σ3 H6 _
      refine u3 B6 H6 (Same.refl _) e6.bh _ fun y7 B7 H7 e7 hy7 => ?_
      obtain ⟨atD7, nD7⟩ := stays e7 atD6 nD6
      have len := allR_len hys
      rw [List.length_map, List.length_append, List.length_map, List.length_take] at len
      have tk1 : (bs a).take (j + 1) = (bs a).take j ++ [b] := by rw [List.take_succ, hb]; rfl
      refine ⟨ys, atD7, by omega, B7, ys ++ [y7], grown hD ((e5.trans e6).trans e7) nD7, (sm.trans e6.bb).trans e7.bb, nD7, upd_same, ?_⟩
      have eq : ((as.take i).flatMap fun a => (bs a).map (o a)) ++ ((bs a).take (j + 1)).map (o a) = (((as.take i).flatMap fun a => (bs a).map (o a)) ++ ((bs a).take j).map (o a)) ++ [o a b] := by
        rw [tk1, List.map_append, ← List.append_assoc]
        rfl
      rw [eq, List.map_append (l₂ := [o a b])]
      exact allR_snoc (MoA.mo (e6.bb.trans e7.bb) hys) hy7
    · have : j = (bs a).length := by omega
      subst this
      refine .inl ⟨w1.stops H5 (sm.trans e5.bh), B5, ys, e5, nD5, atD5, ?_⟩
      rw [List.take_length] at hys
      rw [tk, List.flatMap_append, e1f]
      exact hys
  · have : i = as.length := by omega
    subst this
    refine .inl ⟨w.stops H' (e'.bb.trans e'.bh), ?_⟩
    rw [List.take_length] at hxs
    refine q (.ref D) (upd B' D (.lst xs)) H' ⟨e.hh.trans e'.hh, (e.bb.trans e'.bb).trans (new_same nD), fun b u hb => ?_, fun b h1 h2 => ?_⟩ (lstR_dat ⟨D, xs, rfl, SqL.of upd_same, MoA.mo (new_same nD) hxs⟩)
    · by_cases z : b = D
      · subst z
        rw [upd_same] at hb
        cases hb
        exact atD
      · rw [upd_ne z] at hb
        exact e'.bh b u hb
    · have z : b ≠ D := by
        rintro rfl
        cases w : H b with
        | none => exact h1 w
        | some u =>
          rw [e.hh b u w] at hD
          cases hD
      rw [upd_ne z]
      exact (e.trans e').nw b h1 h2
/-- walks over data that stands for things -/
theorem Di.conv {wi : TI} {Ss : List Rel} (h : Di wi σ B Rs) (e : Rs = Ss) : Di wi σ B Ss := e ▸ h
theorem Di.listM {α : Type} {as : List α} {f : α → PyData} (h : De tl σ B (dat K (.list (as.map f)))) : Di (iList K tl) σ B (as.map fun a => dat K (f a)) := (Di.listD h).conv (by rw [List.map_map]; rfl)
theorem Di.tupM {α : Type} {as : List α} {f : α → PyData} (h : De tl σ B (dat K (.tuple (as.map f)))) : Di (iTup K tl) σ B (as.map fun a => dat K (f a)) := (Di.tupD h).conv (by rw [List.map_map]; rfl)
theorem rangeI {lo : Int} {n : Nat} : intsR K lo n = (List.range n).map fun i : Nat => dat K (.int (lo + (i : Int))) := rfl
theorem Di.rng {ta : TE} {n : Nat} (h : De ta σ B (dat K (.int (n : Int)))) (h1 : n < 2 ^ 62) : Di (iRng1 (tCons ta tNil)) σ B ((List.range n).map fun i : Nat => dat K (.int (i : Int))) := by
  have := Di.rng1 (K := K) (Da.one h) (by omega) (by omega)
  refine this.conv ?_
  unfold intsR
  have e : ((n : Int)).toNat = n := by omega
  rw [e]
  exact List.map_congr_left fun i _ => by rw [Int.zero_add]
/-- data, one after another -/
def Dd (K : PySem.W.Frag) (ta : TA) (σ : L2.St) (B : Hp) (ds : List PyData) : Prop := Da ta σ B (ds.map (dat K))
theorem Dd.nil : Dd K tNil σ B [] := Da.nil
theorem Dd.cons {tr : TA} {d : PyData} {ds : List PyData} (h : De ta σ B (dat K d)) (t : Dd K tr σ B ds) : Dd K (tCons ta tr) σ B (d :: ds) := Da.cons h t
theorem De.tupD {ta : TA} {ds : List PyData} (h : Dd K ta σ B ds) (hz : ds.length ≤ sizeLine) : De (tTup ta) σ B (dat K (.tuple ds)) := (De.tup h (by rw [List.length_map]; exact hz)).conv fun _ _ => tupR_dat
theorem De.lstD {ta : TA} {ds : List PyData} (h : Dd K ta σ B ds) (hz : ds.length ≤ sizeLine) : De (tLst ta) σ B (dat K (.list ds)) := (De.lst h (by rw [List.length_map]; exact hz)).conv fun _ _ => lstR_dat
/-- tuple(list), tuple(tuple), list(..) -/
theorem De.tupleL {ta : TE} {ds : List PyData} (h : De ta σ B (dat K (.list ds))) : De (tCB (fun xs H Q => ∃ p ys, xs = [.ref p] ∧ ((SqL K H p ys ∧ ∀ l, H l = none → Q (.ref l) (upd H l (.tup ys))) ∨ (SqT K H p ys ∧ Q (.ref p) H))) (tCons ta tNil)) σ B (dat K (.tuple ds)) :=
  (De.cb (.cons (h.conv fun _ _ => dat_lstR) .nil) rc_tupL).conv fun _ _ => tupR_dat
theorem De.tupleT {ta : TE} {ds : List PyData} (h : De ta σ B (dat K (.tuple ds))) : De (tCB (fun xs H Q => ∃ p ys, xs = [.ref p] ∧ ((SqL K H p ys ∧ ∀ l, H l = none → Q (.ref l) (upd H l (.tup ys))) ∨ (SqT K H p ys ∧ Q (.ref p) H))) (tCons ta tNil)) σ B (dat K (.tuple ds)) :=
  (De.cb (.cons (h.conv fun _ _ => dat_tupR) .nil) rc_tupT).conv fun _ _ => tupR_dat
theorem De.listL {ta : TE} {ds : List PyData} (h : De ta σ B (dat K (.list ds))) : De (tCB (fun xs H Q => ∃ p ys, xs = [.ref p] ∧ (SqL K H p ys ∨ SqT K H p ys) ∧ ∀ l, H l = none → Q (.ref l) (upd H l (.lst ys))) (tCons ta tNil)) σ B (dat K (.list ds)) :=
  (De.cb (.cons (h.conv fun _ _ => dat_lstR) .nil) rc_lstL).conv fun _ _ => lstR_dat
theorem De.listT {ta : TE} {ds : List PyData} (h : De ta σ B (dat K (.tuple ds))) : De (tCB (fun xs H Q => ∃ p ys, xs = [.ref p] ∧ (SqL K H p ys ∨ SqT K H p ys) ∧ ∀ l, H l = none → Q (.ref l) (upd H l (.lst ys))) (tCons ta tNil)) σ B (dat K (.list ds)) :=
  (De.cb (.cons (h.conv fun _ _ => dat_tupR) .nil) rc_lstT).conv fun _ _ => lstR_dat
theorem De.lenL {ta : TE} {ds : List PyData} (h : De ta σ B (dat K (.list ds))) : De (tCB (fun xs H Q => ∃ x n, xs = [x] ∧ LenV K x H n ∧ Q (.int n) H) (tCons ta tNil)) σ B (dat K (.int (ds.length : Int))) := .cb (.one h) rc_len
theorem De.lenT {ta : TE} {ds : List PyData} (h : De ta σ B (dat K (.tuple ds))) : De (tCB (fun xs H Q => ∃ x n, xs = [x] ∧ LenV K x H n ∧ Q (.int n) H) (tCons ta tNil)) σ B (dat K (.int (ds.length : Int))) := .cb (.one h) rc_lenT
theorem De.sorted {ta : TE} {ds : List PyData} (h : De ta σ B (dat K (.list ds))) (hal : PySem.W.AllAlike ds) (hk : PySem.W.SortOk ds) (hd : ∀ d ∈ ds, d.depth ≤ 60) : De (tCB (rSortedD K) (tCons ta tNil)) σ B (dat K (.list (sortD ds))) := .cb (.one h) (rc_sorted hal hk hd)
theorem De.show {ta : TE} {d : PyData} (h : De ta σ B (dat K d)) (hs : Shw d) : De (tCB (rShow K) (tCons ta tNil)) σ B (dat K (.str d.shown)) := .cb (.one h) (rc_show hs)
theorem De.listRg {ta : TE} {n : Nat} (h : De ta σ B (dat K (.int (n : Int)))) (h1 : n ≤ 1000000) : De (tLstRg (tRg1 ta)) σ B (dat K (.list ((List.range n).map fun i : Nat => .int (i : Int)))) := fun B1 H s1 s2 Q q => h B1 H s1 s2 _ fun v B2 H2 e hv => by
  have hv := dat_int hv
  subst hv
  refine ⟨n, rfl, RgOk.of_le (Int.le_refl 0) (by omega) (by decide) (by omega), fun p hp => ?_⟩
  have ev : rgV 0 (n : Int) = ((List.range n).map fun i : Nat => V.int (i : Int)) := by
    unfold rgV
    have e : ((n : Int) - 0).toNat = n := by omega
    rw [e]
    exact List.map_congr_left fun i _ => by rw [Int.zero_add]
  rw [ev]
  refine q _ (upd B2 p (.lst ((List.range n).map fun i : Nat => V.int (i : Int)))) _ (e.trans (.new e.bh hp)) ?_
  refine Dp.lst (SqL.of upd_same) ?_
  have : ∀ l : List Nat, DpAll K (upd B2 p (.lst ((List.range n).map fun i : Nat => V.int (i : Int)))) (l.map fun i : Nat => V.int (i : Int)) (l.map fun i : Nat => PyData.int (i : Int)) := by
    intro l
    induction l with
    | nil => exact .nil
    | cons i l ih => exact .cons (.int _) ih
  exact this _
theorem Rv.catS {xs ys : List PyData} (hz : xs.length + ys.length ≤ sizeLine) : Rv (rCatS K) B (dat K (.list xs)) (dat K (.list ys)) (dat K (.list (xs ++ ys))) := fun x y B1 H _ s2 hx hy Q q => by
  obtain ⟨a, us, rfl, h, g⟩ := dat_lstR hx
  obtain ⟨b, ws, rfl, h', g'⟩ := dat_lstR hy
  have l1 := allR_len g
  have l2 := allR_len g'
  rw [List.length_map] at l1 l2
  refine ⟨a, b, us, ws, rfl, rfl, s2.seq h, s2.seq h', by omega, fun p hp => ?_⟩
  refine q _ (upd B1 p (.lst (us ++ ws))) _ (.new s2 hp) ?_
  have s := new_same (o := .lst (us ++ ws)) (s2.free hp)
  exact .lst (SqL.of upd_same) (dpMonoAll s _ _ (allR_dp (by rw [List.map_append]; exact allR_app g g')))
theorem Rv.inT {d : PyData} {ds : List PyData} (hd : SeqAt.shaped d = true) (he : SeqAt.shaped (.tuple ds) = true) : Rv (rInT K false) B (dat K d) (dat K (.tuple ds)) (dat K (.bool (ds.any fun z => PyData.eqv z d))) := fun x y B1 H _ s2 hx hy Q q =>
  ⟨d, ds, dpMono s2 _ _ hx, dpMono s2 _ _ hy, hd, he, q _ B1 H (.refl s2) (Dp.bl _)⟩
theorem Rv.notInT {d : PyData} {ds : List PyData} (hd : SeqAt.shaped d = true) (he : SeqAt.shaped (.tuple ds) = true) : Rv (rInT K true) B (dat K d) (dat K (.tuple ds)) (dat K (.bool (!ds.any fun z => PyData.eqv z d))) := fun x y B1 H _ s2 hx hy Q q =>
  ⟨d, ds, dpMono s2 _ _ hx, dpMono s2 _ _ hy, hd, he, q _ B1 H (.refl s2) (Dp.bl _)⟩
theorem Rv.eqI {i j : Int} : Rv rEq B (dat K (.int i)) (dat K (.int j)) (dat K (.bool (decide (i = j)))) := fun x y B1 H _ s2 hx hy Q q => by
  have hx := dat_int hx
  have hy := dat_int hy
  subst hx hy
  have e : decide (V.int i = V.int j) = decide (i = j) := by simp
  refine ⟨rfl, ?_⟩
  rw [e]
  exact q _ B1 H (.refl s2) (Dp.bl _)
theorem Rv.neI {i j : Int} : Rv rNe B (dat K (.int i)) (dat K (.int j)) (dat K (.bool (!decide (i = j)))) := fun x y B1 H _ s2 hx hy Q q => by
  have hx := dat_int hx
  have hy := dat_int hy
  subst hx hy
  have e : decide (V.int i = V.int j) = decide (i = j) := by simp
  refine ⟨rfl, ?_⟩
  rw [e]
  exact q _ B1 H (.refl s2) (Dp.bl _)
theorem Rv.eqS {i j : Str} : Rv rEq B (dat K (.str i)) (dat K (.str j)) (dat K (.bool (decide (i = j)))) := fun x y B1 H _ s2 hx hy Q q => by
  have hx := dat_str hx
  have hy := dat_str hy
  subst hx hy
  have e : decide (V.str i = V.str j) = decide (i = j) := by simp
  refine ⟨rfl, ?_⟩
  rw [e]
  exact q _ B1 H (.refl s2) (Dp.bl _)
theorem Rv.neS {i j : Str} : Rv rNe B (dat K (.str i)) (dat K (.str j)) (dat K (.bool (!decide (i = j)))) := fun x y B1 H _ s2 hx hy Q q => by
  have hx := dat_str hx
  have hy := dat_str hy
  subst hx hy
  have e : decide (V.str i = V.str j) = decide (i = j) := by simp
  refine ⟨rfl, ?_⟩
  rw [e]
  exact q _ B1 H (.refl s2) (Dp.bl _)
end
section
variable (P : Program) (w : World) (K : PySem.W.Frag) (mg : Str → Option Value) (base : Heap)
/-- a class of objects that keep their arguments -/
structure CalC (x : Str) (C : Addr) (fs : List Str) : Prop where
  c : Cls K C
  g : mg x = some (.ref C)
  na : ∀ f ∈ fs, NoAttr K C f
  ini : ∃ (f : Addr) (fd : FuncData), Mk K C f ∧ FnOk P w K mg base CX0 1 f fd ("self" :: fs) (spIns C fs) ∧ Binds K fd ("self" :: fs) []
end
section
variable {X : Cx} {x : Str} {C : Addr} {fs : List Str} {k : Nat} {p pos : Pos} {e : Expr} {es : List Expr} {t : TA}
theorem pe_calC (c : CalC X.prog X.w X.K X.mg X.base x C fs) (hr : Room k X.A) (hk : 2 ≤ k) (hg : Gl X x) (ha : PA X (e :: es) t) (hdb : (x == ("__debug__" : Str)) = false := by decide)
    (he : starEach (e :: es) X.env = (false, eval e X.env) :: starEach es X.env := by rfl) (hpl : (backTo pos (starEach es X.env)).any (·.1) = false := by rfl) : PE X (.Call (.Name x p) (e :: es) [] pos) (tMake C (spIns C fs) [] E0 t) := by
  obtain ⟨f, fd, M, F, b⟩ := c.ini
  exact pe_make M F (hr.mono hk) hg c.g b .nil pass0 ha hdb he hpl
end
end Wv

set_option Elab.async false
set_option linter.all false
set_option maxRecDepth 100000
set_option maxHeartbeats 4000000
/-! Wv3: enumerate of a tuple, zip of tuples; promises by their arguments. -/
namespace Wb
open PySem PySem.Spec PyProof.Rows L2
/-- the tuple at a, each item in a new pair with its number -/
def IteT (K : PySem.W.Frag) (a : Addr) : It :=
  ⟨fun i H => ∃ (xs : List V) (x : V), SqT K H a xs ∧ xs[i]? = some x, fun i H v H' => ∃ T x, v = .ref T ∧ H T = none ∧ H' = upd H T (.tup [.int (i : Nat), x]) ∧ ∀ xs, SqT K H a xs → xs[i]? = some x, fun i H => ∃ xs : List V, SqT K H a xs ∧ xs.length ≤ i⟩
theorem two_mem {α : Type} {b x y : α} (h : b ∈ [x, y]) : b = x ∨ b = y := by simpa using h
theorem apart_tup {h : Heap} {it a : Addr} {i : Nat} {xs : Array Value} (h1 : h.IsTupleIter it a i) (h2 : h.IsTuple a xs) : a ≠ it := by
  rintro rfl
  obtain ⟨o, e, c, _⟩ := h1
  obtain ⟨o', e', c', _⟩ := h2
  rw [e] at e'
  cases e'
  rw [c] at c'
  exact absurd c' (by decide)
theorem turn_enumT {P : Program} {w : World} {K : PySem.W.Frag} {elts : List Expr} {kk : Nat} {tpos : Pos} (a e it : Addr) :
    Turn P w K (.Tuple elts kk tpos) (IteT K a) [e, it] e (fun i h => (∃ old, IsEnum h e it ((i : Nat) : Int) old) ∧ h.IsTupleIter it a i ∧ e ≠ it ∧ e ≠ a) where
  mem := by simp
  obj := fun i h st b hb => by
    obtain ⟨⟨old, he⟩, ⟨o, ho, hc, hd⟩, _⟩ := st
    rcases two_mem hb with z | z <;> subst z
    · exact ⟨_, he, fun v q => nomatch q⟩
    · exact ⟨o, ho, fun v q => by rw [hd] at q; cases q⟩
  keep := fun i h h' ⟨⟨old, he⟩, hi, hne⟩ k => ⟨⟨old, k e (by simp) _ he⟩, hi.at fun o q => k it (by simp) o q, hne⟩
  item := by
    intro X hP hw hK hc i pins s σ H E I hf ⟨⟨old, he⟩, hit, hne, hea⟩ ⟨xs, x, hq, hx⟩
    subst hP hw hK
    obtain ⟨its, rv, p, hz⟩ := I.tuple hq
    obtain ⟨u, hu, ru⟩ := rv.get hx
    have lt : ∀ b ∈ [e, it], b < s.heap.objs.size := fun b hb => by
      rcases two_mem hb with z | z <;> subst z
      · exact Heap.lt_size he
      · obtain ⟨_, q, _⟩ := hit
        exact Heap.lt_size q
    have hel := lt e (by simp)
    have hi : i < its.toArray.size := by
      have := List.getElem?_eq_some_iff.mp hu
      simpa using this.1
    refine wpAny_pyNext_enum_itemD (Draws.tuple (A := X.A.in1) (show X.A.in1.handled = none from I.ok.hd hc) it a (apart_tup hit p) its.toArray) he ⟨hit, p⟩ hi hne (by simp [hne, hea]) fun y h1 tk hy ho hst hT hsz hk => ?_
    have hy : its[i]? = some y := by simpa using hy
    rw [hu] at hy
    cases hy
    refine ⟨_, rfl, wpAny_letOwnedTupleGo_enum (s := { s with heap := h1, toks := tk + 1 }) ho fun h2 he' sb => ?_⟩
    have hT2 := (sb.2 _ (Nat.ne_of_gt hel)).trans hT
    refine ⟨.ref s.heap.objs.size, _, I.turnedNew (t' := tk + 1) (ch := [e, it]) (ob := .tup [.int (i : Nat), x]) (fun b ob hb q => (sb.2 b (fun z => hb (by simp [z]))).trans (hk b ob (fun z => hb (by simp [z])) (fun z => hb (by simp [z])) q)) hf (Nat.le_refl _)
      ⟨by show 2 ≤ sizeLine; decide, [.int i tk, u], .cons ⟨_, rfl⟩ (.cons ru .nil), ⟨_, hT2, rfl, _, rfl⟩⟩, rfl, ⟨_, x, rfl, I.hok.fresh (Nat.le_refl _), rfl, fun ys hy => by rw [I.tuple_inj hy hq]; exact hx⟩, ⟨⟨u, ?_⟩, hst.1.at fun o q => (sb.2 it (Ne.symm hne)).trans q, hne, hea⟩, fun b hb => ?_⟩
    · rw [show ((i + 1 : Nat) : Int) = (i : Int) + 1 by omega]
      exact he'
    · rw [upd_ne (Nat.ne_of_lt (lt b hb))]
      exact (hf b hb).1
  done := by
    intro X hP hw hK hc i pins s σ H E I hf ⟨⟨old, he⟩, hit, hne, hea⟩ ⟨xs, hq, hx⟩
    subst hP hw hK
    obtain ⟨its, rv, p, hz⟩ := I.tuple hq
    obtain ⟨f0, f1, f2, f3, f4, f5⟩ := hf it (by simp)
    have hl := rv.length
    have hno : its.toArray[i]? = none := by simp; omega
    have hT : s.TypeIs (.ref e) "enumerate" := ⟨_, he, rfl⟩
    unfold pyNext
    refine wpAny_bind (wpAny_attempt (wpAny_callSpecial?_slot (name := Str.ofString "__next__") hT F.slot_enumerate_next
      (wpAny_call_entry F.slot_enumerate_next hT F.entry_enumerate_next ?_ (F.args_enumerate_next_1 _))))
    show wpAny _ _ (field (.ref e) 2 >>= _) _ _ _
    refine wpAny_bind (wpAny_field he rfl (x := .ref it) rfl ?_)
    refine wpAny_bind (RZ.nextOf_tuple_end (I.ok.hd hc) hit p hno fun h' x he' ⟨o, ho, hc'⟩ => ?_)
    refine wpAny_bind (wpAny_isInstance (T := "StopIteration") (b := true) ⟨o, ho, hc'⟩ isSubtype_stop ?_)
    exact wpAny_pure ⟨rfl, I.turned (t' := s.toks) (fun b o hb q => he' b o hb q) f0 f1 f3 f4 f5⟩
  self := fun A i s Q E ⟨⟨_, he⟩, _⟩ h => wpAny_pyIter_enum he h
set_option maxHeartbeats 8000000 in
theorem meets_enumB1 {v : Value} {o : Obj} {H : Heap → Prop} (B : Begins v o H) :
    Meets (Builtin.«enumerate.__new__» ⟨[.type "enumerate", v], []⟩) (fun _ R s => H s.heap ∧
      R (.ok (.ret (.ref (s.heap.push o).objs.size))) { s with heap := (s.heap.push o).push { cls := .type "enumerate", data := .fields #[.none, .bool false, .ref s.heap.objs.size, rawInt 0, .none, .none] } }) :=
  .of_wp fun prog w A R ⟨hp, g, d, tk, os⟩ ⟨h1, h⟩ => by
    have hsub := sub_enumerate
    have q1 : ∀ {A' : Around} {E : Value → Shared → Prop} {Q : Value → Shared → Prop}, Q (.ref hp.objs.size) ⟨hp.push o, g, d, tk, os⟩ → wpAny (model prog w) A' (pyIter v) Q E ⟨hp, g, d, tk, os⟩ :=
      fun q => B.iter prog w _ _ ⟨hp, g, d, tk, os⟩ _ h1 q
    wp_walk using q1
    refine wpAny_stack_any fun st => wpAny_pure ?_
    split
    · rename_i c _ _ _ _ _
      cases (c == Value.type "enumerate") <;> (wp_walk using q1; exact ⟨_, rfl, h⟩)
    · wp_walk using q1
      exact ⟨_, rfl, h⟩
def iEnumT (K : PySem.W.Frag) (ta : TA) : TI := fun σ H R => ta σ H fun vs H1 => ∃ a xs, vs = [.ref a] ∧ SqT K H1 a xs ∧ R (IteT K a) H1
theorem pi_enumT {X : Cx} {e : Expr} {ta : TA} {p pos tpos : Pos} {elts : List Expr} {kk : Nat} (hg : Gl X "enumerate") (hm : X.mg "enumerate" = none) (ha : PA X [e] ta) (hs : starEach [e] X.env = [(false, eval e X.env)] := by rfl) :
    PI X (.Tuple elts kk tpos) (.Call (.Name "enumerate" p) [e] [] pos) (iEnumT X.K ta) := by
  refine ⟨fun pins s σ H R I h => ?_⟩
  refine Call_ (ld_blt I hg hm boot_enumerate (PyProof.Rows.callWith_type1 (thn (ha.run pos pins s σ H _ I h) fun us s1 ⟨vs, H1, I1, r1, q1⟩ => ?_) hs rfl))
  obtain ⟨a, xs, rfl, hq, q⟩ := q1
  obtain ⟨u, rfl, ru⟩ := vals1 r1
  obtain rfl : u = Value.ref a := ru
  obtain ⟨its, rv, p', hz⟩ := I1.tuple hq
  have hT : s1.heap.IsTuple a its.toArray := p'
  refine callType_new F.called_enumerate (by decide) (F.typeCall_enumerate_1 _) (F.newCall_enumerate_1 _) (fun obj => F.args_object_init_2 obj _) F.entry_enumerate_new (meets_enumB1 (begins_tuple a its.toArray)) ⟨hT, ?_⟩
  have sz : (s1.heap.push { cls := .type "tuple_iterator", data := .fields #[.ref a, .int 0 0] }).objs.size = s1.heap.objs.size + 1 := Heap.size_push ..
  have he : IsEnum ((s1.heap.push { cls := .type "tuple_iterator", data := .fields #[.ref a, .int 0 0] }).push { cls := .type "enumerate", data := .fields #[.none, .bool false, .ref s1.heap.objs.size, rawInt 0, .none, .none] }) (s1.heap.objs.size + 1) s1.heap.objs.size 0 .none := by
    have := Heap.get?_push_size (s1.heap.push { cls := .type "tuple_iterator", data := .fields #[.ref a, .int 0 0] }) (o := { cls := .type "enumerate", data := .fields #[.none, .bool false, .ref s1.heap.objs.size, rawInt 0, .none, .none] }) rfl
    rw [sz] at this
    exact this
  show _ ∧ _
  rw [sz]
  refine ⟨⟨_, he, rfl⟩, wpAny_pyIter_enum (s := { s1 with heap := _ }) he ?_⟩
  have la : a < s1.heap.objs.size := by
    obtain ⟨o, ho, _⟩ := hT
    exact Heap.lt_size ho
  refine ⟨s1.heap.objs.size + 1, [s1.heap.objs.size + 1, s1.heap.objs.size], _, _, H1, rfl, I1.kept (t' := s1.toks) fun b ob q => Heap.get?_push_of_some _ (Heap.get?_push_of_some _ q), turn_enumT a (s1.heap.objs.size + 1) s1.heap.objs.size,
    ⟨⟨.none, he⟩, ⟨_, Heap.get?_push_of_some _ (Heap.get?_push_size _ rfl), rfl, rfl⟩, Nat.succ_ne_self _, Nat.ne_of_gt (Nat.lt_succ_of_lt la)⟩, fun b hb => ?_, q⟩
  have le : s1.heap.objs.size ≤ b := by
    rcases two_mem hb with z | z <;> subst z
    · exact Nat.le_succ _
    · exact Nat.le_refl _
  exact I1.fpOk le (I1.hok.fresh le)
theorem walk_enumT {K : PySem.W.Frag} {a : Addr} {xs : List V} : Walk (IteT K a) xs.length (fun H => SqT K H a xs) (YPair (fun i => some (.int (i : Nat))) (fun i => xs[i]?)) :=
  ⟨fun i _ hi q => ⟨xs, xs[i], q, List.getElem?_eq_getElem hi⟩, fun _ q => ⟨xs, q, Nat.le_refl _⟩, fun i H v H' _ q ⟨T, x, h1, h2, h3, h4⟩ => ⟨T, .int (i : Nat), x, h1, h2, h3, rfl, h4 xs q⟩⟩
theorem walk_zipT {K : PySem.W.Frag} {a b : Addr} {xs ys : List V} {n : Nat} (hn : n = min xs.length ys.length) : Walk (RZ.ItzT K a b) n (fun H => SqT K H a xs ∧ SqT K H b ys) (YPair (fun i => xs[i]?) (fun i => ys[i]?)) :=
  ⟨fun i _ hi q => ⟨xs, ys, xs[i]'(by omega), ys[i]'(by omega), q.1, q.2, List.getElem?_eq_getElem _, List.getElem?_eq_getElem _⟩, fun _ q => ⟨xs, ys, q.1, q.2, by omega⟩, fun i H v H' _ q ⟨T, x, z, h1, h2, h3, h4, h5⟩ => ⟨T, x, z, h1, h2, h3, h4 xs q.1, h5 ys q.2⟩⟩
/-- a list or a tuple, walked -/
def iSeq (K : PySem.W.Frag) (tl : TE) : TI := fun σ H R => tl σ H fun x H1 => ∃ a, x = .ref a ∧ ((∃ xs, SqL K H1 a xs) ∧ R (Itl K a) H1 ∨ (∃ xs, SqT K H1 a xs) ∧ R (Itt K a) H1)
theorem pi_seq {X : Cx} {tg l : Expr} {tl : TE} (hl : PE X l tl) : PI X tg l (iSeq X.K tl) := by
  refine ⟨fun pins s σ H R I h => thn (hl.run pins s σ H _ I h) fun v s1 ⟨x, H1, I1, r1, a, e, q⟩ => ?_⟩
  subst e
  cases r1
  have new : ∀ b ∈ [s1.heap.objs.size], FpOk X pins H1 b := fun b hb => by
    rw [List.mem_singleton.mp hb]
    exact I1.fpOk (Nat.le_refl _) (I1.hok.fresh (Nat.le_refl _))
  rcases q with ⟨⟨xs, hq⟩, q⟩ | ⟨⟨xs, hq⟩, q⟩
  · obtain ⟨its, rv, p, hz⟩ := I1.list hq
    exact wpAny_pyIter_list p.isList ⟨s1.heap.objs.size, _, _, _, H1, rfl, I1.kept (t' := s1.toks) fun b o e => Heap.get?_push_of_some _ e, turn_list a _, ⟨_, Heap.get?_push_size _ rfl, rfl, rfl⟩, new, q⟩
  · obtain ⟨its, rv, p, hz⟩ := I1.tuple hq
    exact wpAny_pyIter_tuple (show s1.heap.IsTuple a its.toArray from p) ⟨s1.heap.objs.size, _, _, _, H1, rfl, I1.kept (t' := s1.toks) fun b o e => Heap.get?_push_of_some _ e, turn_tuple a _, ⟨_, Heap.get?_push_size _ rfl, rfl, rfl⟩, new, q⟩
end Wb
namespace Wv
open PySem PySem.Spec PyProof.Rows L2 Wb
section
variable {K : PySem.W.Frag} {σ : L2.St} {B B' : Hp} {ta tb te tl : TE} {tt tu : TT} {R S T U : Rel} {Rs : List Rel} {x v : V}
theorem Di.zipT {ta : TA} {Ss : List Rel} [m : MoA Rs] [m' : MoA Ss] (hm : ∀ R ∈ Rs, Mo R) (hm' : ∀ R ∈ Ss, Mo R) (h : Da ta σ B [tupR K Rs, tupR K Ss]) : Di (RZ.iZipA K ta) σ B ((Rs.zip Ss).map fun p => tupR K [p.1, p.2]) := fun B1 H s1 s2 Q q => h B1 H s1 s2 _ fun vs B2 H2 e hv => by
  obtain ⟨v, r, rfl, ⟨a, xs, rfl, hs, hR⟩, v', r', rfl, ⟨b, ys, rfl, hs', hR'⟩, h5⟩ := hv
  have h5 : r' = [] := h5
  subst h5
  refine ⟨a, b, xs, ys, rfl, .inr ⟨seqT e.bh hs, seqT e.bh hs', q _ B2 H2 e ?_⟩⟩
  have len := allR_len hR
  have len' := allR_len hR'
  unfold Wk
  rw [List.length_map]
  refine (walk_zipT (K := K) (a := a) (b := b) (xs := xs) (ys := ys) (n := (Rs.zip Ss).length) (by rw [List.length_zip, len, len'])).mono (fun H' s => ⟨seqT s hs, seqT s hs'⟩) fun i H' x H'' hi s y => ?_
  obtain ⟨p, u, w, rfl, hp, rfl, hu, hw⟩ := y
  have hu : xs[i]? = some u := hu
  have hw : ys[i]? = some w := hw
  obtain ⟨R, hR1, _⟩ := allR_at hR hu
  obtain ⟨S, hS1, _⟩ := allR_at hR' hw
  refine ⟨tupR K [R, S], ?_, fun Bc sc sh => ?_⟩
  · rw [List.getElem?_map, List.getElem?_zip_eq_some (z := (R, S)) |>.mpr ⟨hR1, hS1⟩]
    rfl
  · have := hm R (List.mem_of_getElem? hR1)
    have := hm' S (List.mem_of_getElem? hS1)
    obtain ⟨v1, hv1, q1⟩ := allR_of (m.mo sc hR) hR1
    obtain ⟨v2, hv2, q2⟩ := allR_of (m'.mo sc hR') hS1
    rw [hu] at hv1
    rw [hw] at hv2
    cases hv1
    cases hv2
    exact pair_new sh hp q1 q2
theorem Di.enumT {ta : TA} [m : MoA Rs] (hm : ∀ R ∈ Rs, Mo R) (h : Da ta σ B [tupR K Rs]) : Di (iEnumT K ta) σ B (Rs.zipIdx.map fun p => tupR K [dat K (.int (p.2 : Int)), p.1]) := fun B1 H s1 s2 Q q => h B1 H s1 s2 _ fun vs B2 H2 e hv => by
  obtain ⟨v, r, rfl, ⟨a, xs, rfl, hs, hR⟩, h5⟩ := hv
  have h5 : r = [] := h5
  subst h5
  refine ⟨a, xs, rfl, seqT e.bh hs, q _ B2 H2 e ?_⟩
  have len := allR_len hR
  unfold Wk
  rw [List.length_map, List.length_zipIdx, ← len]
  refine (walk_enumT (K := K) (a := a) (xs := xs)).mono (fun H' s => seqT s hs) fun i H' x H'' hi s y => ?_
  obtain ⟨p, u, w, rfl, hp, rfl, hu, hw⟩ := y
  cases hu
  have hw : xs[i]? = some w := hw
  obtain ⟨R, hR1, _⟩ := allR_at hR hw
  refine ⟨tupR K [dat K (.int (i : Int)), R], ?_, fun Bc sc sh => ?_⟩
  · rw [List.getElem?_map, List.getElem?_zipIdx, hR1]
    simp
  · have := hm R (List.mem_of_getElem? hR1)
    obtain ⟨v1, hv1, q1⟩ := allR_of (m.mo sc hR) hR1
    rw [hw] at hv1
    cases hv1
    exact pair_new sh hp (Dp.int _) q1
/-- of data that stands for things -/
theorem mo_dats {α : Type} {as : List α} {f : α → PyData} : ∀ R ∈ as.map (fun a => dat K (f a)), Mo R := fun R h => by
  obtain ⟨a, _, rfl⟩ := List.mem_map.mp h
  exact inferInstance
theorem mos_dats {α : Type} {as : List α} {f : α → PyData} : MoA (as.map fun a => dat K (f a)) := moA_of mo_dats
theorem dat_tupM {α : Type} {as : List α} {f : α → PyData} {B : Hp} {v : V} (h : dat K (.tuple (as.map f)) B v) : tupR K (as.map fun a => dat K (f a)) B v := by
  have := dat_tupR h
  rw [List.map_map] at this
  exact this
theorem Di.zipTM {α β : Type} {as : List α} {bs : List β} {f : α → PyData} {g : β → PyData} {ta tb : TE} (h : De ta σ B (dat K (.tuple (as.map f)))) (h2 : De tb σ B (dat K (.tuple (bs.map g)))) :
    Di (RZ.iZipA K (tCons ta (tCons tb tNil))) σ B ((as.zip bs).map fun p => tupR K [dat K (f p.1), dat K (g p.2)]) := by
  have : MoA (as.map fun a => dat K (f a)) := mos_dats
  have : MoA (bs.map fun a => dat K (g a)) := mos_dats
  have i1 : Mo (tupR K (as.map fun a => dat K (f a))) := inferInstance
  have := Di.zipT (K := K) (Rs := as.map fun a => dat K (f a)) (Ss := bs.map fun a => dat K (g a)) mo_dats mo_dats (.cons (h.conv fun _ _ => dat_tupM) (.cons (h2.conv fun _ _ => dat_tupM) .nil))
  rw [List.zip_map, List.map_map] at this
  exact this
theorem Di.enumTM {α : Type} {as : List α} {f : α → PyData} {ta : TE} (h : De ta σ B (dat K (.tuple (as.map f)))) : Di (iEnumT K (tCons ta tNil)) σ B (as.zipIdx.map fun p => tupR K [dat K (.int (p.2 : Int)), dat K (f p.1)]) := by
  have : MoA (as.map fun a => dat K (f a)) := mos_dats
  have := Di.enumT (K := K) (Rs := as.map fun a => dat K (f a)) mo_dats (.cons (h.conv fun _ _ => dat_tupM) .nil)
  rw [List.zipIdx_map, List.map_map] at this
  exact this
end
/-! ### promises by their arguments -/
section
variable {α : Type} {args : α → List Rel} {R R1 R2 R3 : α → Rel} {pre : α → Prop} {res : α → Rel} {vs : List V} {H : Hp} {Q : VK} {E : XK}
theorem pf_len (h : Pf args pre res vs H Q E) {m : Nat} (n : ∀ a, (args a).length = m) : vs.length = m := by
  obtain ⟨B, a, _, h, _⟩ := h
  rw [allR_len h, n]
theorem pf1 (h : Pf (fun a => [R a]) pre res vs H Q E) : ∃ v B a, vs = [v] ∧ Same B H ∧ R a B v ∧ pre a ∧ ∀ v B' H', Ext B H B' H' → res a B' v → Q v H' := by
  obtain ⟨B, a, s, ⟨v, r, rfl, h1, h⟩, p, k⟩ := h
  have h : r = [] := h
  subst h
  exact ⟨v, B, a, rfl, s, h1, p, k⟩
theorem pf2 (h : Pf (fun a => [R a, R1 a]) pre res vs H Q E) : ∃ v v1 B a, vs = [v, v1] ∧ Same B H ∧ R a B v ∧ R1 a B v1 ∧ pre a ∧ ∀ v B' H', Ext B H B' H' → res a B' v → Q v H' := by
  obtain ⟨B, a, s, ⟨v, r, rfl, h1, v1, r1, rfl, h2, h⟩, p, k⟩ := h
  have h : r1 = [] := h
  subst h
  exact ⟨v, v1, B, a, rfl, s, h1, h2, p, k⟩
theorem pf3 (h : Pf (fun a => [R a, R1 a, R2 a]) pre res vs H Q E) : ∃ v v1 v2 B a, vs = [v, v1, v2] ∧ Same B H ∧ R a B v ∧ R1 a B v1 ∧ R2 a B v2 ∧ pre a ∧ ∀ v B' H', Ext B H B' H' → res a B' v → Q v H' := by
  obtain ⟨B, a, s, ⟨v, r, rfl, h1, v1, r1, rfl, h2, v2, r2, rfl, h3, h⟩, p, k⟩ := h
  have h : r2 = [] := h
  subst h
  exact ⟨v, v1, v2, B, a, rfl, s, h1, h2, h3, p, k⟩
theorem pf4 (h : Pf (fun a => [R a, R1 a, R2 a, R3 a]) pre res vs H Q E) : ∃ v v1 v2 v3 B a, vs = [v, v1, v2, v3] ∧ Same B H ∧ R a B v ∧ R1 a B v1 ∧ R2 a B v2 ∧ R3 a B v3 ∧ pre a ∧ ∀ v B' H', Ext B H B' H' → res a B' v → Q v H' := by
  obtain ⟨B, a, s, ⟨v, r, rfl, h1, v1, r1, rfl, h2, v2, r2, rfl, h3, v3, r3, rfl, h4, h⟩, p, k⟩ := h
  have h : r3 = [] := h
  subst h
  exact ⟨v, v1, v2, v3, B, a, rfl, s, h1, h2, h3, h4, p, k⟩
end
end Wv

set_option Elab.async false
set_option linter.all false
set_option maxRecDepth 100000
set_option maxHeartbeats 4000000
/-! Wv4: statements, by what is evaluated. -/
theorem L2.Room.u65 {k : Nat} {A : PySem.Around} (h : L2.Room k A) : A.units + 65 < PySem.cLine := by
  have := h.un
  omega
namespace Wv
open PySem PySem.Spec PyProof.Rows L2 Wb
section
variable {K : PySem.W.Frag} {σ : L2.St} {B H : Hp} {ta tb te tl : TE} {tt tu : TT} {R S T U : Rel} {Rs : List Rel} {D : Ends} {t u rest : TS} {i j : Nat}
theorem s_set (h : De te σ B R) (hB : Same B H) (k : ∀ v B' H', Ext B H B' H' → R B' v → rest D (σ.set i (some v)) H') : tSeq (tAsg te (gName i)) rest D σ H := h B H (Same.refl _) hB _ k
theorem s_setE (h : De te σ B R) (hB : Same B H) (k : ∀ v B' H', Ext B H B' H' → R B' v → D.nx (σ.set i (some v)) H') : tAsg te (gName i) D σ H := h B H (Same.refl _) hB _ k
theorem s_ret (h : De te σ B R) (hB : Same B H) (k : ∀ v B' H', Ext B H B' H' → R B' v → D.rt v H') : tRet te D σ H := h B H (Same.refl _) hB _ k
theorem s_if {b : Bool} (h : Dt tt σ B b) (hB : Same B H) (k1 : b = true → ∀ B' H', Ext B H B' H' → t D σ H') (k2 : b = false → ∀ B' H', Ext B H B' H' → u D σ H') : tIfS tt t u D σ H := h B H (Same.refl _) hB _ fun B' H' e => by
  cases b with
  | true => exact k1 rfl B' H' e
  | false => exact k2 rfl B' H' e
theorem s_ifS {b : Bool} (h : Dt tt σ B b) (hB : Same B H) (k1 : b = true → ∀ B' H', Ext B H B' H' → t { D with nx := rest D } σ H') (k2 : b = false → ∀ B' H', Ext B H B' H' → u { D with nx := rest D } σ H') : tSeq (tIfS tt t u) rest D σ H := s_if (D := { D with nx := rest D }) h hB k1 k2
/-- a test that is not met: on it goes -/
theorem s_skip (h : Dt tt σ B false) (hB : Same B H) (k : ∀ B' H', Ext B H B' H' → rest D σ H') : tSeq (tIfS tt t tNext) rest D σ H := s_ifS h hB (fun z => nomatch z) fun _ => k
theorem s_par {ta : TA} {S : Rel} (h : Da ta σ B [R, S]) (hB : Same B H) (k : ∀ u v B' H', Ext B H B' H' → R B' u → S B' v → rest D ((σ.set i (some u)).set j (some v)) H') : tSeq (tPar i j ta) rest D σ H := h B H (Same.refl _) hB _ fun vs B' H' e hv => by
  obtain ⟨a, r, rfl, h1, b, r', rfl, h2, h3⟩ := hv
  have h3 : r' = [] := h3
  subst h3
  exact ⟨a, b, rfl, k a b B' H' e h1 h2⟩
theorem Rv.mulS3 {a : Nat} : Rv rMulS B (dat K (.str ⟨#[a]⟩)) (dat K (.int 3)) (dat K (.str (mulS ⟨#[a]⟩ 3))) := fun x y B1 H1 _ s2 hx hy Q q => ⟨_, 3, dat_str hx, dat_int hy, by decide, by decide, Nat.zero_lt_one, by show 1 ≤ 1000; decide, q _ B1 H1 (.refl s2) (.str _)⟩
theorem De.negI {n : Int} (h : De te σ B (dat K (.int n))) : De (tUn (rU fun i => .int (-i)) te) σ B (dat K (.int (-n))) := .un h fun x B1 H1 _ s2 hx Q q => ⟨n, dat_int hx, q _ B1 H1 (.refl s2) (.int _)⟩
theorem Di.seqL {ds : List PyData} (h : De tl σ B (dat K (.list ds))) : Di (iSeq K tl) σ B (ds.map (dat K)) := fun B1 H s1 s2 Q q => h B1 H s1 s2 _ fun v B2 H2 e hv => by
  have q2 := Di.listD (K := K) (De.var (i := 0) (σ := [some v]) hv rfl) B2 H2 (Same.refl _) e.bh Q fun J B3 H3 e3 hw => q J B3 H3 (e.trans e3) hw
  obtain ⟨x, hx, a, ha, hs, r⟩ := q2
  cases hx
  exact ⟨a, ha, .inl ⟨hs, r⟩⟩
theorem Di.seqT {ds : List PyData} (h : De tl σ B (dat K (.tuple ds))) : Di (iSeq K tl) σ B (ds.map (dat K)) := fun B1 H s1 s2 Q q => h B1 H s1 s2 _ fun v B2 H2 e hv => by
  have q2 := Di.tupD (K := K) (De.var (i := 0) (σ := [some v]) hv rfl) B2 H2 (Same.refl _) e.bh Q fun J B3 H3 e3 hw => q J B3 H3 (e.trans e3) hw
  obtain ⟨x, hx, a, ha, hs, r⟩ := q2
  cases hx
  exact ⟨a, ha, .inr ⟨hs, r⟩⟩
abbrev rTup (K : PySem.W.Frag) : List V → Hp → VK → Prop := fun xs H Q => ∃ p ys, xs = [.ref p] ∧ ((SqL K H p ys ∧ ∀ l, H l = none → Q (.ref l) (upd H l (.tup ys))) ∨ (SqT K H p ys ∧ Q (.ref p) H))
abbrev rLst (K : PySem.W.Frag) : List V → Hp → VK → Prop := fun xs H Q => ∃ p ys, xs = [.ref p] ∧ (SqL K H p ys ∨ SqT K H p ys) ∧ ∀ l, H l = none → Q (.ref l) (upd H l (.lst ys))
abbrev rLen (K : PySem.W.Frag) : List V → Hp → VK → Prop := fun xs H Q => ∃ x n, xs = [x] ∧ LenV K x H n ∧ Q (.int n) H
/-- what is wanted behind a turn -/
def Nz (B H : Hp) (P : L2.St → Hp → Prop) : L2.St → Hp → Prop := fun σ H' => ∃ B', Ext B H B' H' ∧ P σ B'
theorem s_forE {wi : TI} {g : TG} {ts : TS} (hi : Di wi σ B Rs) (hB : Same B H) (Pv : Nat → L2.St → Hp → Prop) (h0 : ∀ B', Same B B' → Pv 0 σ B')
    (hs : ∀ B1 H1, Ext B H B1 H1 → ∀ i R v σ' Bc Bn Hn, Rs[i]? = some R → Pv i σ' Bc → Same Bc Bn → Ext B1 H1 Bn Hn → R Bn v → g v σ' Hn fun σ2 H2 => ts { D with nx := Nz B1 H1 (Pv (i + 1)), ct := Nz B1 H1 (Pv (i + 1)), bk := D.nx } σ2 H2)
    (hd : ∀ σ' B' H', Ext B H B' H' → Pv Rs.length σ' B' → D.nx σ' H') : tFor wi g ts D σ H :=
  hi B H (Same.refl _) hB _ fun J B1 H1 e hw => for_it hw (fun i => Nz B1 H1 (Pv i)) ⟨B1, .refl e.bh, h0 B1 e.bb⟩ (fun i σ' H' _ ⟨B', s1, _⟩ => s1.bb.trans s1.bh)
    (fun i x σ' H' H'' hi ⟨Bc, s1, p⟩ ⟨R, hR, y⟩ => by
      obtain ⟨Bn, e2, hx⟩ := y Bc s1.bb s1.bh
      exact hs B1 H1 e i R x σ' Bc Bn H'' hR p e2.bb (s1.trans e2) hx)
    (fun σ' H' ⟨B', s1, p⟩ => hd σ' B' H' (e.trans s1) p)
theorem s_forS {wi : TI} {g : TG} {ts : TS} (hi : Di wi σ B Rs) (hB : Same B H) (Pv : Nat → L2.St → Hp → Prop) (h0 : ∀ B', Same B B' → Pv 0 σ B')
    (hs : ∀ B1 H1, Ext B H B1 H1 → ∀ i R v σ' Bc Bn Hn, Rs[i]? = some R → Pv i σ' Bc → Same Bc Bn → Ext B1 H1 Bn Hn → R Bn v → g v σ' Hn fun σ2 H2 => ts { D with nx := Nz B1 H1 (Pv (i + 1)), ct := Nz B1 H1 (Pv (i + 1)), bk := rest D } σ2 H2)
    (hd : ∀ σ' B' H', Ext B H B' H' → Pv Rs.length σ' B' → rest D σ' H') : tSeq (tFor wi g ts) rest D σ H := s_forE (D := { D with nx := rest D }) hi hB Pv h0 hs hd
end
end Wv

set_option Elab.async false
set_option linter.all false
set_option maxRecDepth 100000
set_option maxHeartbeats 4000000
/-! Wv5: what is evaluated while a deal goes on: a base that leaves the deal's two lists out. -/
namespace Wv
open PySem PySem.Spec PyProof.Rows L2 Wb
/-- the deal at d and c, a base that has neither -/
structure Dl (B H : Hp) (d c : Addr) : Prop where
  deal : Deal H d c
  sub : Same B (off H d c)
theorem Dl.bh {B H : Hp} {d c : Addr} (L : Dl B H d c) : Same B H := L.sub.trans (off_le H d c)
theorem Dl.noD {B H : Hp} {d c : Addr} (L : Dl B H d c) : B d = none := by
  cases h : B d with
  | none => rfl
  | some o => exact absurd rfl (off_some (L.sub _ _ h)).2.1
theorem Dl.noC {B H : Hp} {d c : Addr} (L : Dl B H d c) : B c = none := by
  cases h : B c with
  | none => rfl
  | some o => exact absurd rfl (off_some (L.sub _ _ h)).2.2
theorem Deal.atD {H : Hp} {d c : Addr} (D : Deal H d c) : H d ≠ none ∧ H c ≠ none := by
  obtain ⟨cs, mix, h1, h2, _⟩ := D.ex
  rw [h1, h2]
  exact ⟨Option.some_ne_none _, Option.some_ne_none _⟩
/-- later: the deal may have been drawn from, all else is kept -/
structure ExtD (d c : Addr) (B H B' H' : Hp) : Prop where
  deal : Deal H' d c
  oo : Same (off H d c) (off H' d c)
  bb : Same B B'
  sub : Same B' (off H' d c)
  nw : ∀ b, H b ≠ none → B b = none → B' b = none
theorem ExtD.dl {d c : Addr} {B H B' H' : Hp} (e : ExtD d c B H B' H') : Dl B' H' d c := ⟨e.deal, e.sub⟩
theorem ExtD.bh {d c : Addr} {B H B' H' : Hp} (e : ExtD d c B H B' H') : Same B' H' := e.dl.bh
theorem ExtD.refl {d c : Addr} {B H : Hp} (L : Dl B H d c) : ExtD d c B H B H := ⟨L.deal, Same.refl _, Same.refl _, L.sub, fun _ _ h => h⟩
theorem ExtD.trans {d c : Addr} {B H B1 H1 B2 H2 : Hp} (D : Dl B H d c) (a : ExtD d c B H B1 H1) (b : ExtD d c B1 H1 B2 H2) : ExtD d c B H B2 H2 :=
  ⟨b.deal, a.oo.trans b.oo, a.bb.trans b.bb, b.sub, fun x h1 h2 => by
    refine b.nw x ?_ (a.nw x h1 h2)
    by_cases e1 : x = d
    · rw [e1]
      exact (Deal.atD a.deal).1
    · by_cases e2 : x = c
      · rw [e2]
        exact (Deal.atD a.deal).2
      · cases h : H x with
        | none => exact absurd h h1
        | some o =>
          rw [(off_some (a.oo x o ((off_at e1 e2).trans h))).1]
          exact fun z => nomatch z⟩
theorem ExtD.of {d c : Addr} {B H B' H' : Hp} (L : Dl B H d c) (e : Ext B H B' H') : ExtD d c B H B' H' :=
  ⟨L.deal.same e.hh, off_mono e.hh, e.bb, fun b o h => by
    have at_ := Deal.atD L.deal
    have n1 : b ≠ d := fun z => by rw [z, e.nw d at_.1 L.noD] at h; cases h
    have n2 : b ≠ c := fun z => by rw [z, e.nw c at_.2 L.noC] at h; cases h
    rw [off_at n1 n2]
    exact e.bh b o h, e.nw⟩
theorem ExtD.draw {d c : Addr} {B H H' : Hp} (L : Dl B H d c) (D : Deal H' d c) (S : Same (off H d c) (off H' d c)) : ExtD d c B H B H' := ⟨D, S, Same.refl _, L.sub.trans S, fun _ _ h => h⟩
/-- what is neither of the deal's lists is kept -/
theorem ExtD.keep {d c a : Addr} {o : HO} {B H B' H' : Hp} (e : ExtD d c B H B' H') (h : H a = some o) (n1 : a ≠ d) (n2 : a ≠ c) : H' a = some o := (off_some (e.oo a o ((off_at n1 n2).trans h))).1
theorem deal_upd0 {H : Hp} {d c L : Addr} {o : HO} (D : Deal H d c) (n1 : L ≠ d) (n2 : L ≠ c) : Deal (upd H L o) d c := by
  obtain ⟨cs, mix, h1, h2, r⟩ := D.ex
  exact ⟨cs, mix, (upd_ne n1.symm).trans h1, (upd_ne n2.symm).trans h2, r⟩
/-- a list that is made by and by: hidden from the base -/
structure Ml (d c : Addr) (B H : Hp) (L : Addr) (xs : List V) : Prop where
  at_ : H L = some (.lst xs)
  no : B L = none
  nd : L ≠ d
  nc : L ≠ c
theorem Ml.ext {d c L : Addr} {B H B' H' : Hp} {xs : List V} (m : Ml d c B H L xs) (e : ExtD d c B H B' H') : Ml d c B' H' L xs :=
  ⟨e.keep m.at_ m.nd m.nc, e.nw L (by rw [m.at_]; exact fun z => nomatch z) m.no, m.nd, m.nc⟩
theorem Ml.new {d c L : Addr} {B H : Hp} {xs : List V} (D : Dl B H d c) (h : H L = none) : Ml d c B (upd H L (.lst xs)) L xs ∧ ExtD d c B H B (upd H L (.lst xs)) :=
  ⟨⟨upd_same, D.bh.free h, (D.deal.free h).1, (D.deal.free h).2⟩, .of D (.own D.bh h)⟩
theorem Ml.set {d c L : Addr} {B H : Hp} {xs ys : List V} (D : Dl B H d c) (m : Ml d c B H L xs) : Ml d c B (upd H L (.lst ys)) L ys ∧ Dl B (upd H L (.lst ys)) d c :=
  ⟨⟨upd_same, m.no, m.nd, m.nc⟩, deal_upd0 D.deal m.nd m.nc, fun b o h => by
    have z : b ≠ L := fun z => by rw [z, m.no] at h; cases h
    obtain ⟨h1, h2, h3⟩ := off_some (D.sub b o h)
    rw [off_at h2 h3, upd_ne z]
    exact h1⟩
section
variable {K : PySem.W.Frag} {σ : L2.St} {B H : Hp} {ta tb te tl : TE} {tt tu : TT} {R S T U : Rel} {Rs : List Rel} {D : Ends} {t u rest : TS} {i j : Nat} {d c : Addr} {Q : VK} {E : XK}
theorem d_ev (L : Dl B H d c) (h : De te σ B R) (k : ∀ v B' H', ExtD d c B H B' H' → R B' v → Q v H') : te σ H Q := h B H (Same.refl _) L.bh Q fun v B' H' e hv => k v B' H' (.of L e) hv
theorem s_raw (h : te σ H fun v H' => rest D (σ.set i (some v)) H') : tSeq (tAsg te (gName i)) rest D σ H := h
theorem s_rawE (h : te σ H fun v H' => D.nx (σ.set i (some v)) H') : tAsg te (gName i) D σ H := h
theorem s_retR (h : te σ H D.rt) : tRet te D σ H := h
theorem s_ifR (h : tt σ H fun b H1 => if b = true then t D σ H1 else u D σ H1) : tIfS tt t u D σ H := h
theorem s_ifSR (h : tt σ H fun b H1 => if b = true then t { D with nx := rest D } σ H1 else u { D with nx := rest D } σ H1) : tSeq (tIfS tt t u) rest D σ H := h
theorem r_op {r : R2} (h : ta σ H fun x H1 => tb σ H1 fun y H2 => r x y H2 Q) : tOp r ta tb σ H Q := h
theorem s_parR (h : ta σ H fun x H1 => tb σ H1 fun y H2 => rest D ((σ.set i (some x)).set j (some y)) H2) : tSeq (tPar i j (tCons ta (tCons tb tNil))) rest D σ H := by
  show ta σ H fun x H1 => tb σ H1 fun y H2 => ∃ v w, [x, y] = [v, w] ∧ rest D ((σ.set i (some v)).set j (some w)) H2
  have e : (fun x H1 => tb σ H1 fun y H2 => ∃ v w, [x, y] = [v, w] ∧ rest D ((σ.set i (some v)).set j (some w)) H2) = fun x H1 => tb σ H1 fun y H2 => rest D ((σ.set i (some x)).set j (some y)) H2 := by
    funext x H1
    congr 1
    funext y H2
    apply propext
    constructor
    · rintro ⟨v, w, h, q⟩
      cases h
      exact q
    · exact fun q => ⟨_, _, rfl, q⟩
  rw [e]
  exact h
theorem c_any {n : Int} (L : Dl B H d c) (hd : σ[i]? = some (some (.ref d))) (hn : De te σ B (dat K (.int n))) (n0 : 0 < n) (n1 : n < 2 ^ 300) (k : ∀ r B' H', 0 ≤ r → r < n → ExtD d c B H B' H' → Q (.int r) H') :
    tCall spAny [] E (tCons (tVar i) (tCons te tNil)) σ H Q :=
  ⟨.ref d, hd, d_ev L hn fun v B' H' e hv => ⟨d, c, n, by rw [dat_int hv]; rfl, e.deal, n0, n1, fun r H2 r0 r1 D2 S2 => k r B' H2 r0 r1 (.trans L e (.draw e.dl D2 S2))⟩⟩
theorem c_ofL {ds : List PyData} (L : Dl B H d c) (hd : σ[i]? = some (some (.ref d))) (hn : De te σ B (dat K (.list ds))) (ne : ds ≠ []) (few : ds.length ≤ 1000) (k : ∀ x v B' H', x ∈ ds → ExtD d c B H B' H' → dat K x B' v → Q v H') :
    tCall (spOf K) [] E (tCons (tVar i) (tCons te tNil)) σ H Q :=
  ⟨.ref d, hd, d_ev L hn fun v B' H' e hv => by
    obtain ⟨p, xs, rfl, hs, hR⟩ := dat_lstR hv
    have len := allR_len hR
    rw [List.length_map] at len
    refine ⟨d, c, .ref p, rfl, e.deal, .inl ⟨p, xs, rfl, e.sub.seq hs, fun z => ne (List.eq_nil_of_length_eq_zero (by rw [← len, z]; rfl)), by omega, fun v H2 hv D2 S2 => ?_⟩⟩
    obtain ⟨m, hm, hme⟩ := List.mem_iff_getElem.mp hv
    obtain ⟨R, hR1, hR2⟩ := allR_at hR (List.getElem?_eq_getElem hm)
    rw [List.getElem?_map] at hR1
    obtain ⟨x, hx, rfl⟩ := Option.map_eq_some_iff.mp hR1
    rw [hme] at hR2
    exact k x v B' H2 (List.mem_of_getElem? hx) (.trans L e (.draw e.dl D2 S2)) hR2⟩
theorem c_ofT {ds : List PyData} (L : Dl B H d c) (hd : σ[i]? = some (some (.ref d))) (hn : De te σ B (dat K (.tuple ds))) (ne : ds ≠ []) (few : ds.length ≤ 1000) (k : ∀ x v B' H', x ∈ ds → ExtD d c B H B' H' → dat K x B' v → Q v H') :
    tCall (spOf K) [] E (tCons (tVar i) (tCons te tNil)) σ H Q :=
  ⟨.ref d, hd, d_ev L hn fun v B' H' e hv => by
    obtain ⟨p, xs, rfl, hs, hR⟩ := dat_tupR hv
    have len := allR_len hR
    rw [List.length_map] at len
    refine ⟨d, c, .ref p, rfl, e.deal, .inr (.inl ⟨p, xs, rfl, seqT e.sub hs, fun z => ne (List.eq_nil_of_length_eq_zero (by rw [← len, z]; rfl)), by omega, fun v H2 hv D2 S2 => ?_⟩)⟩
    obtain ⟨m, hm, hme⟩ := List.mem_iff_getElem.mp hv
    obtain ⟨R, hR1, hR2⟩ := allR_at hR (List.getElem?_eq_getElem hm)
    rw [List.getElem?_map] at hR1
    obtain ⟨x, hx, rfl⟩ := Option.map_eq_some_iff.mp hR1
    rw [hme] at hR2
    exact k x v B' H2 (List.mem_of_getElem? hx) (.trans L e (.draw e.dl D2 S2)) hR2⟩
theorem c_ofS {z : Str} (L : Dl B H d c) (hd : σ[i]? = some (some (.ref d))) (hn : De te σ B (dat K (.str z))) (ne : 0 < z.length) (few : z.length ≤ 1000) (k : ∀ a B' H', a ∈ z.cps.toList → ExtD d c B H B' H' → Q (.str ⟨#[a]⟩) H') :
    tCall (spOf K) [] E (tCons (tVar i) (tCons te tNil)) σ H Q :=
  ⟨.ref d, hd, d_ev L hn fun v B' H' e hv => ⟨d, c, v, rfl, e.deal, .inr (.inr ⟨z, dat_str hv, ne, few, fun a H2 ha D2 S2 => k a B' H2 ha (.trans L e (.draw e.dl D2 S2))⟩)⟩⟩
theorem t_any0 {n : Int} {Q : Bool → Hp → Prop} (L : Dl B H d c) (hd : σ[i]? = some (some (.ref d))) (hn : De te σ B (dat K (.int n))) (n0 : 0 < n) (n1 : n < 2 ^ 300) (k : ∀ b B' H', ExtD d c B H B' H' → Q b H') :
    tTest (tOp rEq (tCall spAny [] E (tCons (tVar i) (tCons te tNil))) (tC (.int 0))) σ H Q :=
  c_any L hd hn n0 n1 fun r B' H' _ _ e => ⟨rfl, _, rfl, k _ B' H' e⟩
/-- what a def is worth that draws -/
def DPf {α : Type} (args : α → List Rel) (pre : α → Prop) (res : α → Rel) : Sp := fun vs H Q _ => ∃ (d c : Addr) (B : Hp) (a : α) (us : List V), vs = .ref d :: us ∧ Dl B H d c ∧ AllR (args a) B us ∧ pre a ∧ ∀ v B' H', ExtD d c B H B' H' → res a B' v → Q v H'
theorem c_def {α : Type} {args : α → List Rel} {pre : α → Prop} {res : α → Rel} {tr : TA} (a : α) (L : Dl B H d c) (hd : σ[i]? = some (some (.ref d))) (ha : Da tr σ B (args a)) (hp : pre a) (k : ∀ v B' H', ExtD d c B H B' H' → res a B' v → Q v H') :
    tCall (DPf args pre res) [] E (tCons (tVar i) tr) σ H Q :=
  ⟨.ref d, hd, ha B H (Same.refl _) L.bh _ fun vs B1 H1 e hv => ⟨d, c, B1, a, vs, by rw [List.append_nil], (ExtD.of L e).dl, hv, hp, fun v B' H' e' hr => k v B' H' (.trans L (.of L e) e') hr⟩⟩
theorem De.slS {z : Str} {tl th : TO} {lo hi : Option Int} (h : De te σ B (dat K (.str z))) (h1 : Do tl σ B lo) (h2 : Do th σ B hi) (hz : z.length ≤ sizeLine) : De (L2.tSl rSlS te tl th) σ B (dat K (.str (cutS z lo hi))) :=
  .sl h h1 h2 fun x B1 H s1 s2 hx Q q => ⟨z, dat_str hx, hz, q _ B1 H (.refl s2) (.str _)⟩
end
theorem dpf_len {α : Type} {args : α → List Rel} {pre : α → Prop} {res : α → Rel} {vs : List V} {H : Hp} {Q : VK} {E : XK} (h : DPf args pre res vs H Q E) {m : Nat} (n : ∀ a, (args a).length + 1 = m) : vs.length = m := by
  obtain ⟨d, c, B, a, us, rfl, _, h, _⟩ := h
  rw [List.length_cons, allR_len h, n]
theorem cutS_mem {z : Str} {lo hi : Option Int} {a : Nat} (h : a ∈ (cutS z lo hi).cps.toList) : a ∈ z.cps.toList := by
  unfold cutS at h
  simp only [List.toList_toArray] at h
  exact List.mem_of_mem_drop (List.mem_of_mem_take h)
end Wv

set_option Elab.async false
set_option linter.all false
set_option maxRecDepth 100000
set_option maxHeartbeats 4000000
/-! Wv6: lists that are made while a deal goes on. -/
namespace Wv
open PySem PySem.Spec PyProof.Rows L2 Wb
section
variable {α : Type} {R R1 R2 : α → Rel} {pre : α → Prop} {res : α → Rel} {vs : List V} {H : Hp} {Q : VK} {E : XK}
theorem dpf0 (h : DPf (fun _ => []) pre res vs H Q E) : ∃ d c B a, vs = [.ref d] ∧ Dl B H d c ∧ pre a ∧ ∀ v B' H', ExtD d c B H B' H' → res a B' v → Q v H' := by
  obtain ⟨d, c, B, a, us, rfl, L, h, p, k⟩ := h
  have h : us = [] := h
  subst h
  exact ⟨d, c, B, a, rfl, L, p, k⟩
theorem dpf1 (h : DPf (fun a => [R a]) pre res vs H Q E) : ∃ d v c B a, vs = [.ref d, v] ∧ Dl B H d c ∧ R a B v ∧ pre a ∧ ∀ v B' H', ExtD d c B H B' H' → res a B' v → Q v H' := by
  obtain ⟨d, c, B, a, us, rfl, L, ⟨v, r, rfl, h1, h⟩, p, k⟩ := h
  have h : r = [] := h
  subst h
  exact ⟨d, v, c, B, a, rfl, L, h1, p, k⟩
theorem dpf2 (h : DPf (fun a => [R a, R1 a]) pre res vs H Q E) : ∃ d v v1 c B a, vs = [.ref d, v, v1] ∧ Dl B H d c ∧ R a B v ∧ R1 a B v1 ∧ pre a ∧ ∀ v B' H', ExtD d c B H B' H' → res a B' v → Q v H' := by
  obtain ⟨d, c, B, a, us, rfl, L, ⟨v, r, rfl, h1, v1, r1, rfl, h2, h⟩, p, k⟩ := h
  have h : r1 = [] := h
  subst h
  exact ⟨d, v, v1, c, B, a, rfl, L, h1, h2, p, k⟩
end
theorem Di.itr {K : PySem.W.Frag} {σ : L2.St} {B : Hp} {lo : Int} {n : Nat} : Di (fun _ H R => R (Itr lo n) H) σ B ((List.range n).map fun i : Nat => dat K (.int (lo + (i : Int)))) := fun B1 H _ s2 Q q => q (Itr lo n) B1 H (.refl s2) wk_ints
theorem ExtD.setL {d c L : Addr} {B H B' H' : Hp} {xs ys : List V} (e : ExtD d c B H B' H') (m : Ml d c B' H' L xs) (h : H L = none) : ExtD d c B H B' (upd H' L (.lst ys)) :=
  ⟨deal_upd0 e.deal m.nd m.nc, fun b o z => by
    obtain ⟨h1, h2, h3⟩ := off_some z
    have n : b ≠ L := fun q => by rw [q, h] at h1; cases h1
    rw [off_at h2 h3, upd_ne n]
    exact (off_some (e.oo b o z)).1, e.bb, (Ml.set e.dl m).2.sub, e.nw⟩
/-- such a list comes into the base -/
theorem ExtD.settle {d c L : Addr} {B H B' H' : Hp} {xs : List V} (e : ExtD d c B H B' H') (m : Ml d c B' H' L xs) (h : H L = none) : ExtD d c B H (upd B' L (.lst xs)) H' :=
  ⟨e.deal, e.oo, e.bb.trans (new_same m.no), fun b o z => by
    by_cases n : b = L
    · subst n
      rw [upd_same] at z
      cases z
      exact (off_at m.nd m.nc).trans m.at_
    · rw [upd_ne n] at z
      exact e.sub b o z, fun b h1 h2 => by
    have n : b ≠ L := fun q => h1 (by rw [q]; exact h)
    rw [upd_ne n]
    exact e.nw b h1 h2⟩
theorem Ml.dat {K : PySem.W.Frag} {d c L : Addr} {B H : Hp} {xs : List V} {out : List PyData} (m : Ml d c B H L xs) (h : AllR (out.map (dat K)) B xs) : Wv.dat K (.list out) (upd B L (.lst xs)) (.ref L) :=
  lstR_dat ⟨L, xs, rfl, SqL.of upd_same, MoA.mo (new_same m.no) h⟩
section
variable {K : PySem.W.Frag} {σ : L2.St} {B H : Hp} {te : TE} {tt : TT} {d c : Addr} {Q : VK}
theorem c_lcD {α : Type} {as : List α} {r : α → Rel} {wi : TI} {g : TG} {vs : List Nat} (L : Dl B H d c) (hi : Di wi σ B (as.map r)) (few : as.length < sizeLine) (Pv : Nat → List PyData → Prop) (h0 : Pv 0 [])
    (hs : ∀ i a v B1 H1 out, as[i]? = some a → Dl B1 H1 d c → Same B B1 → r a B1 v → Pv i out → ∀ (Y : V → Hp → Prop) (N : Hp → Prop), (∀ y B4 H4 x, ExtD d c B1 H1 B4 H4 → dat K x B4 y → Pv (i + 1) (out ++ [x]) → Y y H4) →
      (∀ B4 H4, ExtD d c B1 H1 B4 H4 → Pv (i + 1) out → N H4) → g v (wipe σ vs) H1 fun σ2 H2 => wipe σ2 vs = wipe σ vs ∧ tt σ2 H2 fun b H3 => if b = true then te σ2 H3 Y else N H3)
    (hd : ∀ out v B' H', ExtD d c B H B' H' → Pv as.length out → dat K (.list out) B' v → Q v H') : tLc wi g tt te vs σ H Q := hi B H (Same.refl _) L.bh _ fun J B2 H2 e hw => fun D hD => by
  have eD := ExtD.of L e
  have hw' : Walk J as.length (fun H => Same B2 H) (fun i H x H' => ∃ R, (as.map r)[i]? = some R ∧ ∀ Bc, Same B2 Bc → Same Bc H → ∃ Bn, Ext Bc H Bn H' ∧ R Bn x) := by
    have := hw
    unfold Wk at this
    rw [List.length_map] at this
    exact this
  refine lc_it hw' (fun i H' => ∃ B' xs out, ExtD d c B2 H2 B' H' ∧ Ml d c B' H' D xs ∧ AllR (out.map (dat K)) B' xs ∧ Pv i out ∧ out.length ≤ i) ?_ (fun i H' _ ⟨B', xs, out, e', _⟩ => e'.bb.trans e'.bh) ?_ ?_
  · exact ⟨B2, [], [], (Ml.new eD.dl hD).2, (Ml.new eD.dl hD).1, rfl, h0, Nat.le_refl _⟩
  · rintro i x H' H'' hi' ⟨Bc, xs, out, e', m, hxs, pv, lo⟩ ⟨R, hR, y⟩
    obtain ⟨Bn, e2, hx⟩ := y Bc e'.bb e'.bh
    rw [List.getElem?_map] at hR
    obtain ⟨a, ha, rfl⟩ := Option.map_eq_some_iff.mp hR
    have e2 := ExtD.of e'.dl e2
    have e12 := e'.trans eD.dl e2
    have len := allR_len hxs
    rw [List.length_map] at len
    refine hs i a x Bn H'' out ha e2.dl ((eD.bb.trans e'.bb).trans e2.bb) hx pv _ _ (fun y B4 H4 z e4 hz pz => ?_) fun B4 H4 e4 pz => ?_
    · have e14 := e12.trans eD.dl e4
      have m4 := (m.ext e2).ext e4
      refine ⟨xs, m4.at_, by omega, B4, xs ++ [y], out ++ [z], e14.setL m4 hD, (Ml.set e4.dl m4).1, ?_, pz, by simp; omega⟩
      rw [List.map_append]
      exact allR_snoc (MoA.mo (e2.bb.trans e4.bb) hxs) hz
    · exact ⟨B4, xs, out, e12.trans eD.dl e4, (m.ext e2).ext e4, MoA.mo (e2.bb.trans e4.bb) hxs, pz, by omega⟩
  · rintro H' ⟨B', xs, out, e', m, hxs, pv, lo⟩
    have hBD : H D = none := by
      cases h : H D with
      | none => rfl
      | some o =>
        rw [e.hh D o h] at hD
        cases hD
    exact hd out (.ref D) _ H' ((eD.trans L e').settle m hBD) pv (m.dat hxs)
/-- as often as a drawn number tells -/
theorem c_lcAny {n k : Int} {i : Nat} {g : TG} {vs : List Nat} {E : XK} {te0 : TE} (L : Dl B H d c) (hd : σ[i]? = some (some (.ref d))) (hn : De te0 σ B (dat K (.int n))) (n0 : 0 < n) (n1 : n < 2 ^ 60) (k0 : 0 ≤ k) (k1 : k < 2 ^ 60)
    (go : ∀ r B' H', 0 ≤ r → r < n → ExtD d c B H B' H' → tLc (fun _ H R => R (Itr 0 (k + r).toNat) H) g tt te vs σ H' Q) :
    tLc (iRng1 (tCons (tOp (rI0 fun i j => V.int (i + j)) (tC (.int k)) (tCall spAny [] E (tCons (tVar i) (tCons te0 tNil)))) tNil)) g tt te vs σ H Q :=
  c_any L hd hn n0 (by omega) fun r B' H' r0 r1 e => ⟨k, r, rfl, rfl, k + r, rfl, by omega, by omega, go r B' H' r0 r1 e⟩
/-- what is wanted behind a turn -/
def Nd (d c : Addr) (B0 H0 B1 : Hp) (P : L2.St → Hp → Hp → Prop) : L2.St → Hp → Prop := fun σ H' => ∃ B', ExtD d c B0 H0 B' H' ∧ Same B1 B' ∧ P σ B' H'
theorem s_forD {wi : TI} {g : TG} {ts rest : TS} {D : Ends} {Rs : List Rel} {B0 H0 : Hp} (L0 : Dl B0 H0 d c) (e0 : ExtD d c B0 H0 B H) (hi : Di wi σ B Rs) (Pv : Nat → L2.St → Hp → Hp → Prop) (h0 : ∀ B1 H1, ExtD d c B H B1 H1 → Pv 0 σ B1 H1)
    (hs : ∀ B1 i R v σ' Bc Hc Bn Hn, Same B B1 → Rs[i]? = some R → ExtD d c B0 H0 Bc Hc → Same B1 Bc → Pv i σ' Bc Hc → ExtD d c Bc Hc Bn Hn → R Bn v → g v σ' Hn fun σ2 H2 => ts { D with nx := Nd d c B0 H0 B1 (Pv (i + 1)), ct := Nd d c B0 H0 B1 (Pv (i + 1)), bk := rest D } σ2 H2)
    (hd : ∀ σ' B' H', ExtD d c B0 H0 B' H' → Same B B' → Pv Rs.length σ' B' H' → rest D σ' H') : tSeq (tFor wi g ts) rest D σ H :=
  hi B H (Same.refl _) e0.bh _ fun J B1 H1 e hw => by
    have eD := ExtD.of e0.dl e
    have := for_it hw (D := { D with nx := rest D }) (g := g) (tb := ts) (fun i => Nd d c B0 H0 B1 (Pv i)) ⟨B1, e0.trans L0 eD, Same.refl _, h0 B1 H1 eD⟩ (fun i σ' H' _ ⟨B', s1, s2, _⟩ => s2.trans s1.bh)
      (fun i x σ' H' H'' hi ⟨Bc, s1, s2, p⟩ ⟨R, hR, y⟩ => by
        obtain ⟨Bn, e2, hx⟩ := y Bc s2 s1.bh
        exact hs B1 i R x σ' Bc H' Bn H'' eD.bb hR s1 s2 p (.of s1.dl e2) hx)
      (fun σ' H' ⟨B', s1, s2, p⟩ => hd σ' B' H' s1 (eD.bb.trans s2) p)
    exact this
theorem s_forL {g : TG} {ts rest : TS} {D : Ends} (h : te σ H fun x H1 => ∃ a, x = .ref a ∧ (∃ xs, SqL K H1 a xs) ∧ tSeq (tFor (fun _ H R => R (Itl K a) H) g ts) rest D σ H1) : tSeq (tFor (iList K te) g ts) rest D σ H := h
theorem Di.itl {a : Addr} {ds : List PyData} (h : dat K (.list ds) B (.ref a)) : Di (fun _ H R => R (Itl K a) H) σ B (ds.map (dat K)) := fun B1 H s1 s2 Q q => by
  obtain ⟨v, hv, a', ha, _, r⟩ := Di.listD (K := K) (De.var (i := 0) (σ := [some (.ref a)]) h rfl) B1 H s1 s2 Q q
  cases hv
  cases ha
  exact r
/-- a hidden list, looked at: the base with it -/
theorem Ml.look {L : Addr} {xs : List V} (D : Dl B H d c) (m : Ml d c B H L xs) : Same B (upd B L (.lst xs)) ∧ Same (upd B L (.lst xs)) H := ⟨new_same m.no, fun b o h => by
  by_cases n : b = L
  · subst n
    rw [upd_same] at h
    cases h
    exact m.at_
  · rw [upd_ne n] at h
    exact D.bh b o h⟩
theorem Ml.looked {L : Addr} {xs : List V} {B2 H2 : Hp} (D : Dl B H d c) (e : Ext (upd B L (.lst xs)) H B2 H2) : ExtD d c B H B H2 := .of D ⟨e.hh, Same.refl _, D.bh.trans e.hh, fun _ _ h => h⟩
end
theorem nodup_len {α : Type} [BEq α] [LawfulBEq α] : ∀ {l m : List α}, l.Nodup → (∀ x ∈ l, x ∈ m) → l.length ≤ m.length
  | [], _, _, _ => Nat.zero_le _
  | x :: l, m, h, s => by
    obtain ⟨h1, h2⟩ := List.nodup_cons.mp h
    have hx := s x List.mem_cons_self
    have := nodup_len (l := l) (m := m.erase x) h2 fun y hy => (List.mem_erase_of_ne (fun e => h1 (by rw [← e]; exact hy))).mpr (s y (List.mem_cons_of_mem _ hy))
    rw [List.length_erase_of_mem hx] at this
    have := List.length_pos_of_mem hx
    rw [List.length_cons]
    omega
end Wv

set_option Elab.async false
set_option linter.all false
set_option maxRecDepth 100000
set_option maxHeartbeats 4000000
/-! Fm0: forms, their rows and lots, as lists and as data. -/
namespace Fm
open PySem PySem.Spec PyProof.Rows L2 Wb Wv
abbrev Qs := List (Str × Nat)
def encQ (q : Str × Nat) : PyData := .tuple [.str q.1, .int (q.2 : Int)]
def qsD (qs : Qs) : PyData := .tuple (qs.map encQ)
def formR (K : PySem.W.Frag) (C : Addr) (qs : Qs) : Rel := insR C [("questions", dat K (qsD qs))]
instance {K : PySem.W.Frag} {C : Addr} {qs : Qs} : Mo (formR K C qs) := inferInstanceAs (Mo (insR C [("questions", dat K (qsD qs))]))
def lotD (l : List Str) : PyData := .tuple (l.map .str)
def rowD (r : List Int) : PyData := .tuple (r.map .int)
def rowsL (rs : List (List Int)) : PyData := .list (rs.map rowD)
def rowsT (rs : List (List Int)) : PyData := .tuple (rs.map rowD)
def names (qs : Qs) : List Str := qs.map (·.1)
/-- lo, lo + 1, .. n of them -/
def rng (lo : Int) (n : Nat) : List Int := (List.range n).map fun i : Nat => lo + (i : Int)
theorem rng_len {lo : Int} {n : Nat} : (rng lo n).length = n := by simp [rng]
/-- all rows with an item of each list -/
def grow1 {α : Type} (rows : List (List α)) (vals : List α) : List (List α) := rows.flatMap fun r => vals.map fun v => r ++ [v]
def grow {α : Type} (ls : List (List α)) : List (List α) := ls.foldl grow1 [[]]
theorem grow_snoc {α : Type} (ls : List (List α)) (l : List α) : grow (ls ++ [l]) = grow1 (grow ls) l := by
  unfold grow
  rw [List.foldl_append]
  rfl
theorem grow1_len {α : Type} (rows : List (List α)) (vals : List α) : (grow1 rows vals).length = rows.length * vals.length := by
  unfold grow1
  induction rows with
  | nil => simp
  | cons r rows ih =>
    rw [List.flatMap_cons, List.length_append, ih, List.length_map, List.length_cons, Nat.succ_mul, Nat.add_comm]
theorem grow_len {α : Type} {m : Nat} (ls : List (List α)) (h : ∀ l ∈ ls, l.length ≤ m) : (grow ls).length ≤ m ^ ls.length := by
  suffices ∀ (k : Nat), k ≤ ls.length → (grow (ls.take k)).length ≤ m ^ k by
    have := this ls.length (Nat.le_refl _)
    rw [List.take_length] at this
    exact this
  intro k
  induction k with
  | zero =>
    intro _
    rw [List.take_zero, Nat.pow_zero]
    exact Nat.le_refl _
  | succ k ih =>
    intro hk
    have e : ls.take (k + 1) = ls.take k ++ [ls[k]] := by rw [List.take_succ, List.getElem?_eq_getElem (by omega)]; rfl
    rw [e, grow_snoc, grow1_len, Nat.pow_succ]
    exact Nat.mul_le_mul (ih (by omega)) (h _ (List.getElem_mem _))
theorem grow1_mem {α : Type} {rows : List (List α)} {vals : List α} {r : List α} (h : r ∈ grow1 rows vals) : ∃ a ∈ rows, ∃ v ∈ vals, r = a ++ [v] := by
  unfold grow1 at h
  obtain ⟨a, ha, hr⟩ := List.mem_flatMap.mp h
  obtain ⟨v, hv, rfl⟩ := List.mem_map.mp hr
  exact ⟨a, ha, v, hv, rfl⟩
/-- an item of each list, in their order -/
def Picks {α : Type} : List α → List (List α) → Prop
  | [], [] => True
  | v :: r, l :: ls => v ∈ l ∧ Picks r ls
  | _, _ => False
theorem picks_snoc {α : Type} {v : α} {l : List α} (hv : v ∈ l) : ∀ {r : List α} {ls : List (List α)}, Picks r ls → Picks (r ++ [v]) (ls ++ [l])
  | [], [], _ => ⟨hv, trivial⟩
  | _ :: _, _ :: _, ⟨h, t⟩ => ⟨h, picks_snoc hv t⟩
  | [], _ :: _, h => h.elim
  | _ :: _, [], h => h.elim
theorem grow_picks {α : Type} (ls : List (List α)) : ∀ r ∈ grow ls, Picks r ls := by
  suffices ∀ k, k ≤ ls.length → ∀ r ∈ grow (ls.take k), Picks r (ls.take k) by
    have := this ls.length (Nat.le_refl _)
    rw [List.take_length] at this
    exact this
  intro k
  induction k with
  | zero =>
    intro _ r hr
    rw [List.take_zero] at *
    have hr : r ∈ [[]] := hr
    rw [List.mem_singleton.mp hr]
    trivial
  | succ k ih =>
    intro hk r hr
    have e : ls.take (k + 1) = ls.take k ++ [ls[k]] := by rw [List.take_succ, List.getElem?_eq_getElem (by omega)]; rfl
    rw [e, grow_snoc] at hr
    rw [e]
    obtain ⟨a, ha, v, hv, rfl⟩ := grow1_mem hr
    exact picks_snoc hv (ih (by omega) a ha)
theorem picks_len {α : Type} : ∀ {r : List α} {ls : List (List α)}, Picks r ls → r.length = ls.length
  | [], [], _ => rfl
  | _ :: _, _ :: _, ⟨_, t⟩ => by simp [picks_len t]
  | [], _ :: _, h => h.elim
  | _ :: _, [], h => h.elim
theorem grow_row {α : Type} {ls : List (List α)} {r : List α} (h : r ∈ grow ls) : r.length = ls.length := picks_len (grow_picks ls r h)
theorem picks_at {α : Type} : ∀ {r : List α} {ls : List (List α)} {i : Nat} {l : List α}, Picks r ls → ls[i]? = some l → ∃ v, r[i]? = some v ∧ v ∈ l
  | _ :: _, _ :: _, 0, _, ⟨h, _⟩, e => ⟨_, rfl, by cases e; exact h⟩
  | _ :: _, _ :: _, i + 1, _, ⟨_, t⟩, e => picks_at (i := i) t e
  | [], _ :: _, _, _, h, _ => h.elim
  | [], [], _, _, _, e => nomatch e
theorem grow1_map {α : Type} (f : α → α) (rows : List (List α)) (l : List α) : (grow1 rows l).map (List.map f) = grow1 (rows.map (List.map f)) (l.map f) := by
  unfold grow1
  rw [List.map_flatMap, List.flatMap_map]
  congr 1
  funext r
  rw [List.map_map, List.map_map]
  congr 1
  funext v
  simp
theorem grow_map {α : Type} (f : α → α) (ls : List (List α)) : (grow ls).map (List.map f) = grow (ls.map (List.map f)) := by
  unfold grow
  rw [List.foldl_map]
  generalize e : ([[]] : List (List α)) = z
  have e2 : z.map (List.map f) = z := by rw [← e]; rfl
  clear e
  suffices ∀ (rows rows2 : List (List α)), rows.map (List.map f) = rows2 → (ls.foldl grow1 rows).map (List.map f) = ls.foldl (fun x y => grow1 x (y.map f)) rows2 from this z z e2
  induction ls with
  | nil =>
    intro rows rows2 h
    exact h
  | cons l ls ih =>
    intro rows rows2 h
    refine ih _ _ ?_
    rw [grow1_map, h]
/-- all lots within a lot -/
def subs (l : List Str) : List (List Str) := l.foldl (fun f n => f ++ f.map fun a => a ++ [n]) [[]]
theorem subs_snoc (l : List Str) (n : Str) : subs (l ++ [n]) = subs l ++ (subs l).map fun a => a ++ [n] := by
  unfold subs
  rw [List.foldl_append]
  rfl
theorem subs_len (l : List Str) : ∀ k, k ≤ l.length → (subs (l.take k)).length = 2 ^ k := by
  intro k
  induction k with
  | zero =>
    intro _
    rw [List.take_zero]
    rfl
  | succ k ih =>
    intro hk
    have e : l.take (k + 1) = l.take k ++ [l[k]] := by rw [List.take_succ, List.getElem?_eq_getElem (by omega)]; rfl
    rw [e, subs_snoc, List.length_append, List.length_map, ih (by omega), Nat.pow_succ]
    omega
theorem subs_row {l a : List Str} (h : a ∈ subs l) : a.length ≤ l.length := by
  suffices ∀ k, k ≤ l.length → ∀ a ∈ subs (l.take k), a.length ≤ k from this l.length (Nat.le_refl _) a (by rw [List.take_length]; exact h)
  intro k
  induction k with
  | zero =>
    intro _ a ha
    rw [List.take_zero] at ha
    have ha : a ∈ [[]] := ha
    rw [List.mem_singleton.mp ha]
    exact Nat.le_refl _
  | succ k ih =>
    intro hk a ha
    have e : l.take (k + 1) = l.take k ++ [l[k]] := by rw [List.take_succ, List.getElem?_eq_getElem (by omega)]; rfl
    rw [e, subs_snoc] at ha
    rcases List.mem_append.mp ha with ha | ha
    · exact Nat.le_succ_of_le (ih (by omega) a ha)
    · obtain ⟨b, hb, rfl⟩ := List.mem_map.mp ha
      have := ih (by omega) b hb
      simp
      omega
theorem take_snoc {α : Type} {l : List α} {i : Nat} {x : α} (h : l[i]? = some x) : l.take (i + 1) = l.take i ++ [x] := by rw [List.take_succ, h]; rfl
/-- lots of names are alike -/
theorem alike_strs : ∀ a b : List Str, PySem.W.alikeAll (a.map PyData.str) (b.map PyData.str) = true
  | [], _ => by simp [PySem.W.alikeAll]
  | _ :: _, [] => by simp [PySem.W.alikeAll]
  | x :: a, y :: b => by
    simp only [List.map_cons, PySem.W.alikeAll, PySem.W.alike, Bool.true_and]
    exact alike_strs a b
theorem alike_lots (ls : List (List Str)) : PySem.W.AllAlike (ls.map lotD) := by
  intro d hd d' hd'
  obtain ⟨a, _, rfl⟩ := List.mem_map.mp hd
  obtain ⟨b, _, rfl⟩ := List.mem_map.mp hd'
  simp only [lotD, PySem.W.alike]
  exact alike_strs a b
theorem ok_lots (ls : List (List Str)) : PySem.W.SortOk (ls.map lotD) := .inl fun d hd => by
  obtain ⟨a, _, rfl⟩ := List.mem_map.mp hd
  exact ⟨_, rfl⟩
theorem depth_strs (l : List Str) : PyData.depthAll (l.map PyData.str) = 0 := by
  induction l with
  | nil => simp [PyData.depthAll]
  | cons x l ih => simp [PyData.depthAll, PyData.depth, ih]
theorem depth_lots (ls : List (List Str)) : ∀ d ∈ ls.map lotD, d.depth ≤ 60 := fun d hd => by
  obtain ⟨a, _, rfl⟩ := List.mem_map.mp hd
  simp [lotD, PyData.depth, depth_strs]
theorem depth_ints (l : List Int) : PyData.depthAll (l.map PyData.int) = 0 := by
  induction l with
  | nil => simp [PyData.depthAll]
  | cons x l ih => simp [PyData.depthAll, PyData.depth, ih]
/-- what a name's signs are -/
def Nmk (n : Nat) (z : Str) : Prop := z.length ≤ n ∧ ∀ c ∈ z.cps.toList, c < 128
abbrev Nm := Nmk 20
theorem Nmk.mono {m n : Nat} {z : Str} (h : Nmk m z) (l : m ≤ n) : Nmk n z := ⟨Nat.le_trans h.1 l, h.2⟩
theorem Nmk.app {m n : Nat} {x y : Str} (h : Nmk m x) (g : Nmk n y) : Nmk (m + n) (x ++ y) := by
  have e : (x ++ y).cps.toList = x.cps.toList ++ y.cps.toList := Array.toList_append
  refine ⟨?_, fun c hc => ?_⟩
  · have : (x ++ y).length = x.length + y.length := by
      show (x ++ y).cps.size = x.cps.size + y.cps.size
      rw [← Array.length_toList, e, List.length_append]
      rfl
    rw [this]
    exact Nat.add_le_add h.1 g.1
  · rw [e] at hc
    rcases List.mem_append.mp hc with hc | hc
    · exact h.2 c hc
    · exact g.2 c hc
theorem Nmk.cut {n : Nat} {z : Str} {lo hi : Option Int} (h : Nmk n z) : Nmk n (cutS z lo hi) := ⟨Nat.le_trans (cutS_length z lo hi) h.1, fun c hc => h.2 c (cutS_mem hc)⟩
theorem Nmk.one {a : Nat} (h : a < 128) : Nmk 1 ⟨#[a]⟩ := ⟨Nat.le_refl _, fun c hc => by
  have : c = a := by simpa using hc
  omega⟩
theorem Nm.ok {z : Str} (h : Nm z) : PyData.strOk z = true := by
  unfold PyData.strOk
  rw [← Array.all_toList, List.all_eq_true]
  intro c hc
  have := h.2 c hc
  simp only [decide_eq_true_eq]
  omega
theorem lay_strs {l : List Str} (h : ∀ z ∈ l, Nm z) : PyData.canLayAll0 (l.map PyData.str) = true := by
  rw [canLayAll_strs', List.all_eq_true]
  exact fun z hz => (h z hz).ok
theorem lay_ints (l : List Int) : PyData.canLayAll0 (l.map PyData.int) = true := by
  induction l with
  | nil => simp [PyData.canLayAll0]
  | cons x l ih => simp [PyData.canLayAll0, PyData.canLay0, ih]
theorem shaped_str {z : Str} (h : Nm z) : SeqAt.shaped (.str z) = true := by simp [SeqAt.shaped, PyData.canLay0, PyData.depth, h.ok]
theorem shaped_lot {l : List Str} (h : ∀ z ∈ l, Nm z) : SeqAt.shaped (lotD l) = true := by simp [SeqAt.shaped, lotD, PyData.canLay0, PyData.depth, lay_strs h, depth_strs]
theorem shaped_strsL {l : List Str} (h : ∀ z ∈ l, Nm z) : SeqAt.shaped (.list (l.map .str)) = true := by simp [SeqAt.shaped, PyData.canLay0, PyData.depth, lay_strs h, depth_strs]
theorem shaped_row (l : List Int) : SeqAt.shaped (rowD l) = true := by simp [SeqAt.shaped, rowD, PyData.canLay0, PyData.depth, lay_ints, depth_ints]
theorem any_strs (l : List Str) (z : Str) : ((l.map PyData.str).any fun d => PyData.eqv d (.str z)) = decide (z ∈ l) := by
  rw [List.any_map]
  induction l with
  | nil => simp
  | cons x l ih =>
    rw [List.any_cons, ih]
    simp only [Function.comp, PyData.eqv, List.mem_cons, Bool.decide_or, eq_comm (a := z)]
    rfl
theorem join_nm0 {n : Nat} {sep : Str} (hs : Nmk 0 sep) : ∀ {zs : List Str}, (∀ z ∈ zs, Nmk n z) → Nmk (zs.length * n) (Str.join sep zs)
  | [], _ => ⟨Nat.zero_le _, fun c hc => by cases hc⟩
  | [x], h => by
    have := h x List.mem_cons_self
    exact this.mono (by simp)
  | x :: y :: r, h => by
    have a := h x List.mem_cons_self
    have b := join_nm0 hs (zs := y :: r) fun z hz => h z (List.mem_cons_of_mem _ hz)
    show Nmk _ (x ++ sep ++ Str.join sep (y :: r))
    refine ((a.app hs).app b).mono ?_
    simp only [List.length_cons, Nat.succ_mul]
    omega
theorem join_nm {n : Nat} {sep : Str} (hs : Nmk 0 sep) {zs : List Str} (h : ∀ z ∈ zs, Nmk n z) : Nmk (zs.length * n) (Txt.join sep zs) := by
  unfold Txt.join
  rw [StrLaws.glued_eq_join]
  exact join_nm0 hs h
theorem sum_le {n : Nat} : ∀ {zs : List Str}, (∀ z ∈ zs, Nmk n z) → (zs.map (·.length)).sum ≤ zs.length * n
  | [], _ => Nat.zero_le _
  | x :: r, h => by
    have a := (h x List.mem_cons_self).1
    have b := sum_le (zs := r) fun z hz => h z (List.mem_cons_of_mem _ hz)
    simp only [List.map_cons, List.sum_cons, List.length_cons, Nat.succ_mul]
    omega
end Fm

set_option Elab.async false
set_option linter.all false
set_option maxRecDepth 100000
set_option maxHeartbeats 4000000
/-! Fm1: sheets, and what is behind them. -/
namespace Fm
open PySem PySem.Spec PyProof.Rows L2 Wb Wv
/-- the sheet of a lot and a truth -/
def sheetL (ns : List Str) (lot : List Str) (truth : List Int) : List Int := (ns.zip truth).map fun p => if p.1 ∈ lot then -1 else p.2
def lotL (ns : List Str) (sheet : List Int) : List Str := ((ns.zip sheet).filter fun p => decide (p.2 = -1)).map (·.1)
def behindL (qs : Qs) (sheet : List Int) : List (List Int) := grow ((qs.zip sheet).map fun p => if p.2 = -1 then rng 0 p.1.2 else [p.2])
theorem lot_sheet (lot : List Str) : ∀ (ns : List Str) (truth : List Int), ns.length = truth.length → (∀ i ∈ truth, 0 ≤ i) → lotL ns (sheetL ns lot truth) = ns.filter fun z => decide (z ∈ lot)
  | [], _, _, _ => rfl
  | z :: ns, [], h, _ => by simp at h
  | z :: ns, i :: truth, h, n => by
    have ih := lot_sheet lot ns truth (by simpa using h) fun j hj => n j (List.mem_cons_of_mem _ hj)
    have i0 := n i List.mem_cons_self
    unfold lotL sheetL at *
    rw [List.zip_cons_cons, List.map_cons, List.zip_cons_cons, List.filter_cons, List.filter_cons]
    by_cases c : z ∈ lot
    · simp only [c, if_true, decide_true]
      rw [List.map_cons, ih]
    · have e : ¬ i = -1 := by omega
      simp only [c, if_false, e, decide_false]
      simpa using ih
theorem lot_truth : ∀ (ns : List Str) (truth : List Int), (∀ i ∈ truth, 0 ≤ i) → lotL ns truth = []
  | [], _, _ => rfl
  | _ :: _, [], _ => rfl
  | z :: ns, i :: truth, n => by
    have ih := lot_truth ns truth fun j hj => n j (List.mem_cons_of_mem _ hj)
    have i0 := n i List.mem_cons_self
    unfold lotL at *
    rw [List.zip_cons_cons, List.filter_cons]
    have e : ¬ i = -1 := by omega
    simp only [e, decide_false]
    simpa using ih
theorem sheet_len (ns lot : List Str) (truth : List Int) (h : ns.length = truth.length) : (sheetL ns lot truth).length = truth.length := by
  unfold sheetL
  rw [List.length_map, List.length_zip]
  omega
theorem sheet_at {ns lot : List Str} {truth : List Int} {i : Nat} {z : Str} {t : Int} (h : ns[i]? = some z) (g : truth[i]? = some t) : (sheetL ns lot truth)[i]? = some (if z ∈ lot then -1 else t) := by
  unfold sheetL
  rw [List.getElem?_map, List.getElem?_zip_eq_some (z := (z, t)) |>.mpr ⟨h, g⟩]
  rfl
/-- where a row says otherwise than a sheet -/
def bad (due row : List Int) : List Nat := (List.range row.length).filter fun i => !decide (due.getD i 0 = -1) && !decide (due.getD i 0 = row.getD i 0)
theorem bad_snoc {due row : List Int} {x v : Int} (h : due.length = row.length) : bad (due ++ [x]) (row ++ [v]) = bad due row ++ if (!decide (x = -1) && !decide (x = v)) = true then [row.length] else [] := by
  unfold bad
  rw [List.length_append]
  show (List.range (row.length + 1)).filter _ = _
  rw [List.range_succ, List.filter_append]
  congr 1
  · refine List.filter_congr fun i hi => ?_
    have hi := List.mem_range.mp hi
    have e1 : (due ++ [x]).getD i 0 = due.getD i 0 := by
      simp only [List.getD_eq_getElem?_getD]
      rw [List.getElem?_append_left (by omega)]
    have e2 : (row ++ [v]).getD i 0 = row.getD i 0 := by
      simp only [List.getD_eq_getElem?_getD]
      rw [List.getElem?_append_left hi]
    rw [e1, e2]
  · have e1 : (due ++ [x]).getD row.length 0 = x := by
      simp only [List.getD_eq_getElem?_getD]
      rw [← h, List.getElem?_append_right (Nat.le_refl _)]
      simp
    have e2 : (row ++ [v]).getD row.length 0 = v := by
      simp only [List.getD_eq_getElem?_getD]
      rw [List.getElem?_append_right (Nat.le_refl _)]
      simp
    rw [List.filter_cons, e1, e2, List.filter_nil]
def fits (due row : List Int) : Bool := (bad due row).isEmpty
theorem fits_snoc {due row : List Int} {x v : Int} (h : due.length = row.length) : fits (due ++ [x]) (row ++ [v]) = (fits due row && (decide (x = -1) || decide (x = v))) := by
  unfold fits
  rw [bad_snoc h]
  cases c1 : decide (x = -1) <;> cases c2 : decide (x = v) <;> simp
theorem grow1_filter {α : Type} {Q : List α → Bool} {P : List α → Bool} {p : α → Bool} {vals : List α} : ∀ {rows : List (List α)}, (∀ r ∈ rows, ∀ v, Q (r ++ [v]) = (P r && p v)) → (grow1 rows vals).filter Q = grow1 (rows.filter P) (vals.filter p)
  | [], _ => rfl
  | r :: rows, h => by
    have ih := grow1_filter (vals := vals) (rows := rows) fun a ha => h a (List.mem_cons_of_mem _ ha)
    have h0 := h r List.mem_cons_self
    unfold grow1 at *
    rw [List.flatMap_cons, List.filter_append, ih, List.filter_map]
    have e : (Q ∘ fun v => r ++ [v]) = fun v => P r && p v := by
      funext v
      exact h0 v
    rw [e]
    cases c : P r with
    | true =>
      rw [List.filter_cons, c, if_pos rfl, List.flatMap_cons]
      simp
    | false =>
      rw [List.filter_cons, c, if_neg (by decide)]
      simp
theorem rng_succ (n : Nat) : rng 0 (n + 1) = rng 0 n ++ [(n : Int)] := by
  unfold rng
  rw [List.range_succ, List.map_append]
  simp
theorem rng_mem {n : Nat} {x : Int} : x ∈ rng 0 n ↔ 0 ≤ x ∧ x < n := by
  unfold rng
  rw [List.mem_map]
  constructor
  · rintro ⟨i, hi, rfl⟩
    have := List.mem_range.mp hi
    omega
  · rintro ⟨h0, h1⟩
    exact ⟨x.toNat, List.mem_range.mpr (by omega), by omega⟩
theorem rng_only {x : Int} : ∀ {n : Nat}, 0 ≤ x → x < n → (rng 0 n).filter (fun v => decide (x = -1) || decide (x = v)) = [x]
  | 0, h0, h1 => by omega
  | n + 1, h0, h1 => by
    rw [rng_succ, List.filter_append]
    by_cases e : x = n
    · have e1 : (rng 0 n).filter (fun v => decide (x = -1) || decide (x = v)) = [] := by
        rw [List.filter_eq_nil_iff]
        intro v hv
        have := rng_mem.mp hv
        simp
        omega
      rw [e1]
      simp [e]
    · rw [rng_only (n := n) h0 (by omega)]
      have e1 : ¬ x = -1 := by omega
      simp [e, e1]
theorem rng_all {n : Nat} : (rng 0 n).filter (fun v => decide ((-1 : Int) = -1) || decide ((-1 : Int) = v)) = rng 0 n := by
  rw [List.filter_eq_self]
  intro v _
  simp
/-- what is behind a sheet: the rows that say nothing else -/
theorem behind_fits {qs : Qs} {due : List Int} (h : qs.length = due.length) (ok : ∀ (i : Nat) (q : Str × Nat) (x : Int), qs[i]? = some q → due[i]? = some x → x = -1 ∨ (0 ≤ x ∧ x < q.2)) : behindL qs due = (grow (qs.map fun q => rng 0 q.2)).filter (fits due) := by
  unfold behindL
  suffices ∀ k, k ≤ qs.length → grow (((qs.zip due).take k).map fun p => if p.2 = -1 then rng 0 p.1.2 else [p.2]) = (grow ((qs.take k).map fun q => rng 0 q.2)).filter (fits (due.take k)) by
    have t := this qs.length (Nat.le_refl _)
    rw [List.take_length, List.take_of_length_le (by rw [List.length_zip]; omega), List.take_of_length_le (l := due) (by omega)] at t
    exact t
  intro k
  induction k with
  | zero =>
    intro _
    rw [List.take_zero, List.take_zero, List.take_zero]
    rfl
  | succ k ih =>
    intro hk
    obtain ⟨q, hq⟩ : ∃ q, qs[k]? = some q := ⟨_, List.getElem?_eq_getElem (by omega)⟩
    obtain ⟨x, hx⟩ : ∃ x, due[k]? = some x := ⟨_, List.getElem?_eq_getElem (by omega)⟩
    have hz : (qs.zip due)[k]? = some (q, x) := List.getElem?_zip_eq_some.mpr ⟨hq, hx⟩
    rw [take_snoc hz, take_snoc hq, take_snoc hx, List.map_append, List.map_append]
    show grow (_ ++ [_]) = (grow (_ ++ [_])).filter _
    rw [grow_snoc, grow_snoc, ih (by omega), grow1_filter (P := fits (due.take k)) (p := fun v => decide (x = -1) || decide (x = v))]
    · congr 1
      rcases ok k q x hq hx with e | ⟨h0, h1⟩
      · subst e
        rw [rng_all]
        rfl
      · rw [rng_only h0 h1]
        have e : ¬ x = -1 := by omega
        simp [e]
    · intro r hr v
      refine fits_snoc ?_
      rw [grow_row hr, List.length_map, List.length_take, List.length_take]
      omega
theorem fits_own {ns lot : List Str} {truth : List Int} (h : ns.length = truth.length) : fits (sheetL ns lot truth) truth = true := by
  unfold fits bad
  rw [List.isEmpty_iff, List.filter_eq_nil_iff]
  intro i hi
  have hi := List.mem_range.mp hi
  obtain ⟨z, hz⟩ : ∃ z, ns[i]? = some z := ⟨_, List.getElem?_eq_getElem (by omega)⟩
  obtain ⟨t, ht⟩ : ∃ t, truth[i]? = some t := ⟨_, List.getElem?_eq_getElem hi⟩
  have e := sheet_at (lot := lot) hz ht
  simp only [List.getD_eq_getElem?_getD, e, ht, Option.getD_some]
  by_cases c : z ∈ lot <;> simp [c]
end Fm

set_option Elab.async false
set_option linter.all false
set_option maxRecDepth 100000
set_option maxHeartbeats 4000000
/-! Wv7: comparisons of what is the same. -/
namespace Wv
open PySem PySem.Spec PyProof.Rows L2 Wb
theorem eqv_shaped {d : PyData} (h : SeqAt.shaped d = true) : PyData.eqv d d = true := by
  unfold SeqAt.shaped at h
  rw [Bool.and_eq_true] at h
  exact SeqAt.eqv_refl d h.1
section
variable {K : PySem.W.Frag} {σ : L2.St} {B H : Hp} {ta tb te tk : TE} {tt tu : TT} {R S T : Rel} {d e : PyData}
theorem De.reprs (ha : De ta σ B (dat K d)) (hb : De tb σ B (dat K d)) (hs : Shw d) : De (tOp rEq (tCB (rShow K) (tCons ta tNil)) (tCB (rShow K) (tCons tb tNil))) σ B (dat K (.bool true)) := De.eq (.op (.show ha hs) (.show hb hs) Rv.eqS) (by simp)
theorem De.same (ha : De ta σ B (dat K d)) (hb : De tb σ B (dat K d)) (hs : SeqAt.shaped d = true) : De (tOp (rEqD K) ta tb) σ B (dat K (.bool true)) := De.eq (.op ha hb (Rv.eqD hs hs)) (by rw [eqv_shaped hs])
theorem Dt.reprs (ha : De ta σ B (dat K d)) (hb : De tb σ B (dat K d)) (hs : Shw d) : Dt (tTest (tOp rNe (tCB (rShow K) (tCons ta tNil)) (tCB (rShow K) (tCons tb tNil)))) σ B false := Dt.eq (.test (K := K) (.op (.show ha hs) (.show hb hs) Rv.neS)) (by simp)
theorem Dt.same (ha : De ta σ B (dat K d)) (hb : De tb σ B (dat K d)) (hs : SeqAt.shaped d = true) : Dt (tTest (tOp (rNeD K) ta tb)) σ B false := Dt.eq (.test (K := K) (.op ha hb (Rv.neD hs hs))) (by rw [eqv_shaped hs]; rfl)
theorem Dt.sameI {i : Int} (ha : De ta σ B (dat K (.int i))) (hb : De tb σ B (dat K (.int i))) : Dt (tTest (tOp rNe ta tb)) σ B false := Dt.eq (.test (K := K) (.op ha hb Rv.neI)) (by simp)
theorem Dt.or2 (h1 : Dt tt σ B false) (h2 : Dt tu σ B false) : Dt (tOr tt tu) σ B false := .or h1 fun _ => h2
theorem De.and2 (h1 : De ta σ B (dat K (.bool true))) (h2 : De tb σ B (dat K (.bool true))) : De (tAndV ta tb) σ B (dat K (.bool true)) := .andV h1 fun _ => h2
end
section
variable {R R1 R2 : Rel} {B : Hp} {vs : List V}
theorem kw1 (h : AllR [R] B vs) : AllR [R] B (kwV [0] vs) := by
  obtain ⟨v, r, rfl, h1, h⟩ := h
  exact ⟨v, [], rfl, h1, rfl⟩
theorem kw2 (h : AllR [R1, R] B vs) : AllR [R, R1] B (kwV [1, 0] vs) := by
  obtain ⟨v, r, rfl, h1, v1, r1, rfl, h2, h⟩ := h
  exact ⟨v1, [v], rfl, h2, v, [], rfl, h1, rfl⟩
theorem kw3 (h : AllR [R2, R1, R] B vs) : AllR [R, R1, R2] B (kwV [2, 1, 0] vs) := by
  obtain ⟨v, r, rfl, h1, v1, r1, rfl, h2, v2, r2, rfl, h3, h⟩ := h
  exact ⟨v2, _, rfl, h3, v1, _, rfl, h2, v, [], rfl, h1, rfl⟩
end
end Wv

set_option Elab.async false
set_option linter.all false
set_option maxRecDepth 100000
set_option maxHeartbeats 4000000
/-! Wv8: what type data is of. -/
namespace Wv
open PySem PySem.Spec PyProof.Rows L2 Wb
def tyN : PyData → String
  | .none => "NoneType"
  | .bool _ => "bool"
  | .int _ => "int"
  | .str _ => "str"
  | .list _ => "list"
  | .tuple _ => "tuple"
  | .dict _ => "dict"
theorem ty_dat {K : PySem.W.Frag} {H : Hp} {v : V} {d : PyData} (h : Dp K H v d) : TyX K H v (.type (tyN d)) := by
  cases h with
  | non => exact .base .non
  | bl b => exact .base (.bl b)
  | int i => exact .base (.int i)
  | str z => exact .base (.str z)
  | lst hs _ =>
    rcases hs with (h | ⟨o, h⟩) | ⟨o, its, n, h, c, _⟩
    · exact .base (.lst h)
    · exact .base (.frz h)
    · exact .kList h c
  | tup hs _ =>
    rcases hs with (h | ⟨o, h⟩) | ⟨o, its, n, h, c, _⟩
    · exact .base (.tup h)
    · exact .fTuple h
    · exact .kTuple h c
/-- which built-in class it is of -/
def isD (X : String) (d : PyData) : Bool := tyN d == X || (tyN d == "bool" && X == "int")
theorem kit_data {K : PySem.W.Frag} : ∀ X ∈ ["int", "bool", "str", "tuple", "list"], ∀ t ∈ ["NoneType", "bool", "int", "str", "list", "tuple", "dict"], PySem.W.kitOne K (.type t) (.type X) = some (t == X || (t == "bool" && X == "int")) := by
  intro X hX t ht
  simp only [List.mem_cons, List.not_mem_nil, or_false] at hX ht
  rcases hX with rfl | rfl | rfl | rfl | rfl <;> rcases ht with rfl | rfl | rfl | rfl | rfl | rfl | rfl <;> rfl
theorem tyN_mem (d : PyData) : tyN d ∈ ["NoneType", "bool", "int", "str", "list", "tuple", "dict"] := by cases d <;> simp [tyN]
section
variable {K : PySem.W.Frag} {σ : L2.St} {B : Hp} {ta : TE} {d : PyData}
theorem De.isi {X : String} (h : De ta σ B (dat K d)) (hX : X ∈ ["int", "bool", "str", "tuple", "list"]) : De (tCB (rIsi K) (tCons ta (tCons (tC (.ty X)) tNil))) σ B (dat K (.bool (isD X d))) := fun B1 H s1 s2 Q q =>
  h B1 H s1 s2 _ fun v B2 H2 e hv => ⟨v, .ty X, _, _, _, rfl, .ty X, ty_dat (dpMono e.bh _ _ hv), kit_data X hX _ (tyN_mem d), q _ B2 H2 e (Dp.bl _)⟩
/-- a <= b <= c, of numbers -/
theorem De.chain {r r' : R2} {ta tb tc : TE} {R S T : Rel} {b1 b2 : Bool} [m1 : Mo R] [m2 : Mo S] (ha : De ta σ B R) (hb : De tb σ B S) (hr : Rv r B R S (dat K (.bool b1))) (hc : b1 = true → De tc σ B T) (hr' : b1 = true → Rv r' B S T (dat K (.bool b2))) : De (tChain r r' ta tb tc) σ B (dat K (.bool (b1 && b2))) := fun B1 H s1 s2 Q q =>
  ha B1 H s1 s2 _ fun x B2 H2 e hx => hb B2 H2 (s1.trans e.bb) e.bh _ fun y B3 H3 e2 hy => hr x y B3 H3 ((s1.trans e.bb).trans e2.bb) e2.bh (m1.mo e2.bb hx) hy _ fun z B4 H4 e3 hz => ⟨b1, dat_bl hz, by
    have e4 := (e.trans e2).trans e3
    cases b1 with
    | false => exact q _ B4 H4 e4 (Dp.bl _)
    | true => exact hc rfl B4 H4 (s1.trans e4.bb) e4.bh _ fun w B5 H5 e5 hw => hr' rfl y w B5 H5 ((s1.trans e4.bb).trans e5.bb) e5.bh (m2.mo (e3.bb.trans e5.bb) hy) hw Q fun v B6 H6 e6 hv => q v B6 H6 ((e4.trans e5).trans e6) hv⟩
/-- a question to a text -/
theorem De.m0 {f : Str → Bool} {z : Str} (h : De ta σ B (dat K (.str z))) : De (tM0 (fun x xs H Q => ∃ a, x = .str a ∧ xs = [] ∧ True ∧ Q (.bl (f a)) H) ta) σ B (dat K (.bool (f z))) := fun B1 H s1 s2 Q q =>
  h B1 H s1 s2 _ fun v B2 H2 e hv => ⟨⟨z, dat_str hv⟩, z, dat_str hv, rfl, trivial, q _ B2 H2 e (Dp.bl _)⟩
theorem De.lenS {z : Str} (h : De ta σ B (dat K (.str z))) (hz : z.length ≤ sizeLine) : De (tCB (fun xs H Q => ∃ x n, xs = [x] ∧ LenV K x H n ∧ Q (.int n) H) (tCons ta tNil)) σ B (dat K (.int (z.length : Int))) := .cb (.one h) (rc_lenS hz)
end
end Wv

set_option Elab.async false
set_option linter.all false
set_option maxRecDepth 100000
set_option maxHeartbeats 4000000
/-! Wx0: what is evaluated while a deal is drawn from, told like De. -/
namespace Wv
open PySem PySem.Spec PyProof.Rows L2 Wb
def Dw (te : TE) (σ : L2.St) (d c : Addr) (B : Hp) (R : Rel) : Prop := ∀ B1 H, Same B B1 → Dl B1 H d c → ∀ Q : VK, (∀ v B' H', ExtD d c B1 H B' H' → R B' v → Q v H') → te σ H Q
def Dwa (ta : TA) (σ : L2.St) (d c : Addr) (B : Hp) (Rs : List Rel) : Prop := ∀ B1 H, Same B B1 → Dl B1 H d c → ∀ Q : List V → Hp → Prop, (∀ vs B' H', ExtD d c B1 H B' H' → AllR Rs B' vs → Q vs H') → ta σ H Q
/-- so many values of one kind -/
def Dwn (ta : TA) (σ : L2.St) (d c : Addr) (B : Hp) (S : Rel) (n : Nat) : Prop := ∀ B1 H, Same B B1 → Dl B1 H d c → ∀ Q : List V → Hp → Prop, (∀ vs B' H', ExtD d c B1 H B' H' → vs.length = n → (∀ v ∈ vs, S B' v) → Q vs H') → ta σ H Q
/-- a test whose outcome is open -/
def Dtw (tt : TT) (σ : L2.St) (d c : Addr) (B : Hp) : Prop := ∀ B1 H, Same B B1 → Dl B1 H d c → ∀ Q : Bool → Hp → Prop, (∀ b B' H', ExtD d c B1 H B' H' → Q b H') → tt σ H Q
def intP (P : Int → Prop) : Rel := fun _ v => ∃ i, P i ∧ v = .int i
instance {P : Int → Prop} : Mo (intP P) := ⟨fun _ h => h⟩
def datP (K : PySem.W.Frag) (P : PyData → Prop) : Rel := fun B v => ∃ d, P d ∧ dat K d B v
instance {K : PySem.W.Frag} {P : PyData → Prop} : Mo (datP K P) := ⟨fun s ⟨d, h, g⟩ => ⟨d, h, dpMono s _ _ g⟩⟩
def lstS (K : PySem.W.Frag) (S : Rel) (n : Nat) : Rel := fun B v => ∃ a xs, v = .ref a ∧ SqL K B a xs ∧ xs.length = n ∧ ∀ x ∈ xs, S B x
instance {K : PySem.W.Frag} {S : Rel} {n : Nat} [m : Mo S] : Mo (lstS K S n) := ⟨fun s ⟨a, xs, e, h, l, g⟩ => ⟨a, xs, e, s.seq h, l, fun x hx => m.mo s (g x hx)⟩⟩
theorem dpAll_app {K : PySem.W.Frag} {B : Hp} : ∀ {vs ws : List V} {ds es : List PyData}, DpAll K B vs ds → DpAll K B ws es → DpAll K B (vs ++ ws) (ds ++ es)
  | _, _, _, _, .nil, h => h
  | _, _, _, _, .cons h t, g => .cons h (dpAll_app t g)
section
variable {K : PySem.W.Frag} {σ : L2.St} {d c : Addr} {B B' H : Hp} {te ta tb : TE} {tt tu : TT} {R S T : Rel} {Rs : List Rel} {E : XK} {i : Nat}
theorem Dw.of (h : De te σ B R) : Dw te σ d c B R := fun B1 H s L Q k => h B1 H s L.bh Q fun v B' H' e hv => k v B' H' (.of L e) hv
theorem Dw.mono (s : Same B B') (h : Dw te σ d c B R) : Dw te σ d c B' R := fun B1 H s1 L => h B1 H (s.trans s1) L
theorem Dwa.mono {ta : TA} (s : Same B B') (h : Dwa ta σ d c B Rs) : Dwa ta σ d c B' Rs := fun B1 H s1 L => h B1 H (s.trans s1) L
theorem Dw.cv (h : Dw te σ d c B R) (f : ∀ B v, R B v → S B v) : Dw te σ d c B S := fun B1 H s L Q k => h B1 H s L Q fun v B' H' e hv => k v B' H' e (f _ _ hv)
theorem Dwa.nil : Dwa tNil σ d c B [] := fun B1 H _ L Q k => k [] B1 H (.refl L) rfl
theorem Dwa.cons {tr : TA} [m : Mo R] (h : Dw te σ d c B R) (t : Dwa tr σ d c B Rs) : Dwa (tCons te tr) σ d c B (R :: Rs) := fun B1 H s L Q k =>
  h B1 H s L _ fun v B2 H2 e hv => t B2 H2 (s.trans e.bb) e.dl _ fun vs B3 H3 e2 hvs => k _ B3 H3 (e.trans L e2) ⟨v, vs, rfl, m.mo e2.bb hv, hvs⟩
theorem Dwa.of {tr : TA} (h : Da tr σ B Rs) : Dwa tr σ d c B Rs := fun B1 H s L Q k => h B1 H s L.bh Q fun vs B' H' e hv => k vs B' H' (.of L e) hv
theorem Dwa.one (h : Dw te σ d c B R) [m : Mo R] : Dwa (tCons te tNil) σ d c B [R] := .cons h .nil
theorem Dwn.nil : Dwn tNil σ d c B S 0 := fun B1 H _ L Q k => k [] B1 H (.refl L) rfl fun v h => nomatch h
theorem Dwn.cons {tr : TA} {n : Nat} [m : Mo S] (h : Dw te σ d c B S) (t : Dwn tr σ d c B S n) : Dwn (tCons te tr) σ d c B S (n + 1) := fun B1 H s L Q k =>
  h B1 H s L _ fun v B2 H2 e hv => t B2 H2 (s.trans e.bb) e.dl _ fun vs B3 H3 e2 hl hvs => k _ B3 H3 (e.trans L e2) (by simp [hl]) fun x hx => by
    rcases List.mem_cons.mp hx with rfl | hx
    · exact m.mo e2.bb hv
    · exact hvs x hx
theorem Dw.D1 {x : PyData} {P : PyData → Prop} (h : De te σ B (dat K x)) (hp : P x) : Dw te σ d c B (datP K P) := .cv (.of h) fun _ _ hv => ⟨x, hp, hv⟩
theorem Dw.any {n : Int} (hd : σ[i]? = some (some (.ref d))) (hn : De te σ B (dat K (.int n))) (n0 : 0 < n) (n1 : n < 2 ^ 300) : Dw (tCall spAny [] E (tCons (tVar i) (tCons te tNil))) σ d c B (intP fun r => 0 ≤ r ∧ r < n) := fun B1 H s L Q k =>
  c_any L hd (hn.mono s) n0 n1 fun r B' H' r0 r1 e => k _ B' H' e ⟨r, ⟨r0, r1⟩, rfl⟩
/-- some of a list, whatever is drawn for its items -/
theorem Dw.ofS {n : Nat} (hd : σ[i]? = some (some (.ref d))) (h : Dw te σ d c B (lstS K S n)) (n0 : 0 < n) (few : n ≤ 1000) [m : Mo S] : Dw (tCall (spOf K) [] E (tCons (tVar i) (tCons te tNil))) σ d c B S := fun B1 H s L Q k =>
  ⟨.ref d, hd, h B1 H s L _ fun v B2 H2 e hv => by
    obtain ⟨p, xs, rfl, hs, hl, hx⟩ := hv
    refine ⟨d, c, .ref p, rfl, e.deal, .inl ⟨p, xs, rfl, e.sub.seq hs, fun z => by rw [z] at hl; simp at hl; omega, by omega, fun v H3 hv D3 S3 => ?_⟩⟩
    exact k v B2 H3 (.trans L e (.draw e.dl D3 S3)) (hx v hv)⟩
theorem Dw.lstN {tr : TA} {n : Nat} [m : Mo S] (h : Dwn tr σ d c B S n) (hz : n ≤ sizeLine) : Dw (tLst tr) σ d c B (lstS K S n) := fun B1 H s L Q k =>
  h B1 H s L _ fun vs B2 H2 e hl hv => ⟨by omega, fun p hp => k _ (upd B2 p (.lst vs)) _ (e.trans L (.of e.dl (Ext.new e.bh hp))) ⟨p, vs, rfl, SqL.of upd_same, hl, fun x hx => m.mo (new_same (e.bh.free hp)) (hv x hx)⟩⟩
/-- some item of a written list with drawn items -/
theorem Dw.pick {tr : TA} {n : Nat} [m : Mo S] (hd : σ[i]? = some (some (.ref d))) (h : Dwn tr σ d c B S n) (n0 : 0 < n) (few : n ≤ 1000) : Dw (tCall (spOf K) [] E (tCons (tVar i) (tCons (tLst tr) tNil))) σ d c B S :=
  .ofS hd (.lstN h (by rw [sizeLine_eq]; omega)) n0 few
theorem Dw.ofL {ds : List PyData} (hd : σ[i]? = some (some (.ref d))) (h : De te σ B (dat K (.list ds))) (ne : ds ≠ []) (few : ds.length ≤ 1000) : Dw (tCall (spOf K) [] E (tCons (tVar i) (tCons te tNil))) σ d c B (datP K fun x => x ∈ ds) := fun B1 H s L Q k =>
  c_ofL L hd (h.mono s) ne few fun x v B' H' hx e hv => k v B' H' e ⟨x, hx, hv⟩
theorem Dw.ofT {ds : List PyData} (hd : σ[i]? = some (some (.ref d))) (h : De te σ B (dat K (.tuple ds))) (ne : ds ≠ []) (few : ds.length ≤ 1000) : Dw (tCall (spOf K) [] E (tCons (tVar i) (tCons te tNil))) σ d c B (datP K fun x => x ∈ ds) := fun B1 H s L Q k =>
  c_ofT L hd (h.mono s) ne few fun x v B' H' hx e hv => k v B' H' e ⟨x, hx, hv⟩
theorem Dw.tup {tr : TA} [m : MoA Rs] (h : Dwa tr σ d c B Rs) (hz : Rs.length ≤ sizeLine) : Dw (tTup tr) σ d c B (tupR K Rs) := fun B1 H s L Q k =>
  h B1 H s L _ fun vs B2 H2 e hv => ⟨by rw [allR_len hv]; exact hz, fun p hp => k _ (upd B2 p (.tup vs)) _ (e.trans L (.of e.dl (Ext.new e.bh hp))) ⟨p, vs, rfl, SqT.of upd_same, m.mo (new_same (e.bh.free hp)) hv⟩⟩
theorem Dw.op {r : R2} [m : Mo R] (ha : Dw ta σ d c B R) (hb : Dw tb σ d c B S) (hr : ∀ B, Rv r B R S T) : Dw (tOp r ta tb) σ d c B T := fun B1 H s L Q k =>
  ha B1 H s L _ fun x B2 H2 e hx => hb B2 H2 (s.trans e.bb) e.dl _ fun y B3 H3 e2 hy => hr B3 x y B3 H3 (Same.refl _) e2.bh (m.mo e2.bb hx) hy _ fun v B4 H4 e3 hv => k v B4 H4 ((e.trans L e2).trans L (.of e2.dl e3)) hv
theorem Rv.intP {f : Int → Int → Int} {P P' : Int → Prop} : Rv (rI0 fun i j => V.int (f i j)) B (intP P) (intP P') (intP fun k => ∃ i j, P i ∧ P' j ∧ k = f i j) := fun x y B1 H _ s2 ⟨i, hi, hx⟩ ⟨j, hj, hy⟩ Q q =>
  ⟨i, j, hx, hy, q _ B1 H (.refl s2) ⟨_, ⟨i, j, hi, hj, rfl⟩, rfl⟩⟩
theorem Dw.int {n : Int} : Dw (tC (.int n)) σ d c B (intP fun k => k = n) := fun B1 H _ L Q k => k _ B1 H (.refl L) ⟨n, rfl, rfl⟩
theorem Dw.intV {n : Int} (h : σ[i]? = some (some (.int n))) : Dw (tVar i) σ d c B (intP fun k => k = n) := fun B1 H _ L Q k => ⟨_, h, k _ B1 H (.refl L) ⟨n, rfl, rfl⟩⟩
theorem intP_dat {P : Int → Prop} {v : V} (h : intP P B v) : datP K (fun x => ∃ i, P i ∧ x = .int i) B v := by
  obtain ⟨i, hi, rfl⟩ := h
  exact ⟨.int i, ⟨i, hi, rfl⟩, .int i⟩
/-- a def that draws, its arguments drawn too -/
theorem Dw.def {α : Type} {args : α → List Rel} {pre : α → Prop} {res : α → Rel} {tr : TA} (hd : σ[i]? = some (some (.ref d))) (h : Dwa tr σ d c B Rs) (f : ∀ B vs, AllR Rs B vs → ∃ a, AllR (args a) B vs ∧ pre a ∧ ∀ B v, res a B v → S B v) :
    Dw (tCall (DPf args pre res) [] E (tCons (tVar i) tr)) σ d c B S := fun B1 H s L Q k =>
  ⟨.ref d, hd, h B1 H s L _ fun vs B2 H2 e hv => by
    obtain ⟨a, ha, hp, hs⟩ := f B2 vs hv
    exact ⟨d, c, B2, a, vs, by rw [List.append_nil], e.dl, ha, hp, fun v B' H' e' hr => k v B' H' (.trans L e e') (hs _ _ hr)⟩⟩
/-- .. told what it takes -/
theorem Dw.def1 {α : Type} {args : α → List Rel} {pre : α → Prop} {res : α → Rel} {tr : TA} (a : α) (hd : σ[i]? = some (some (.ref d))) (h : Da tr σ B (args a)) (hp : pre a) : Dw (tCall (DPf args pre res) [] E (tCons (tVar i) tr)) σ d c B (res a) :=
  .def hd (.of h) fun _ _ hv => ⟨a, hv, hp, fun _ _ h => h⟩
/-- a def that draws nothing, its arguments drawn -/
theorem Dw.pf {α : Type} {args : α → List Rel} {pre : α → Prop} {res : α → Rel} {tr : TA} (h : Dwa tr σ d c B Rs) (f : ∀ B vs, AllR Rs B vs → ∃ a, AllR (args a) B vs ∧ pre a ∧ ∀ B v, res a B v → S B v) : Dw (tCall (Pf args pre res) [] E tr) σ d c B S := fun B1 H s L Q k =>
  h B1 H s L _ fun vs B2 H2 e hv => by
    obtain ⟨a, ha, hp, hs⟩ := f B2 vs hv
    show Pf args pre res (vs ++ []) H2 Q E
    rw [List.append_nil]
    exact ⟨B2, a, e.bh, ha, hp, fun v B' H' e' hr => k v B' H' (.trans L e (.of e.dl e')) (hs _ _ hr)⟩
theorem Dw.ite (h : Dtw tt σ d c B) (h1 : Dw ta σ d c B S) (h2 : Dw tb σ d c B S) : Dw (tIf tt ta tb) σ d c B S := fun B1 H s L Q k =>
  h B1 H s L _ fun b B2 H2 e => by
    cases b with
    | true => exact h1 B2 H2 (s.trans e.bb) e.dl Q fun v B3 H3 e3 => k v B3 H3 (e.trans L e3)
    | false => exact h2 B2 H2 (s.trans e.bb) e.dl Q fun v B3 H3 e3 => k v B3 H3 (e.trans L e3)
theorem Dtw.of {b : Bool} (h : Dt tt σ B b) : Dtw tt σ d c B := fun B1 H s L Q k => h B1 H s L.bh Q fun B' H' e => k b B' H' (.of L e)
/-- _law_any(deal, n) == m, and the like -/
theorem Dtw.cmp {f : Int → Int → Bool} {P P' : Int → Prop} (ha : Dw ta σ d c B (intP P)) (hb : Dw tb σ d c B (intP P')) : Dtw (tTest (tOp (rI0 fun i j => V.bl (f i j)) ta tb)) σ d c B := fun B1 H s L Q k =>
  ha B1 H s L _ fun x B2 H2 e ⟨i, _, hx⟩ => hb B2 H2 (s.trans e.bb) e.dl _ fun y B3 H3 e2 ⟨j, _, hy⟩ => ⟨i, j, hx, hy, _, rfl, k _ B3 H3 (e.trans L e2)⟩
include K in
theorem Dtw.eq {P P' : Int → Prop} (ha : Dw ta σ d c B (intP P)) (hb : Dw tb σ d c B (intP P')) : Dtw (tTest (tOp rEq ta tb)) σ d c B := fun B1 H s L Q k =>
  ha B1 H s L _ fun x B2 H2 e ⟨i, _, hx⟩ => hb B2 H2 (s.trans e.bb) e.dl _ fun y B3 H3 e2 ⟨j, _, hy⟩ => by
    subst hx
    subst hy
    exact (Rv.eqI (K := K) (i := i) (j := j)) _ _ B3 H3 (Same.refl _) e2.bh (.int i) (.int j) _ fun v B4 H4 e4 hv => ⟨_, dat_bl hv, k _ B4 H4 ((e.trans L e2).trans L (.of e2.dl e4))⟩
/-! ### statements -/
variable {D : Ends} {rest t u : TS}
theorem s_w (L : Dl B H d c) (h : Dw te σ d c B R) (k : ∀ v B' H', ExtD d c B H B' H' → R B' v → rest D (σ.set i (some v)) H') : tSeq (tAsg te (gName i)) rest D σ H := h B H (Same.refl _) L _ k
theorem s_wE (L : Dl B H d c) (h : Dw te σ d c B R) (k : ∀ v B' H', ExtD d c B H B' H' → R B' v → D.nx (σ.set i (some v)) H') : tAsg te (gName i) D σ H := h B H (Same.refl _) L _ k
theorem s_retW (L : Dl B H d c) (h : Dw te σ d c B R) (k : ∀ v B' H', ExtD d c B H B' H' → R B' v → D.rt v H') : tRet te D σ H := h B H (Same.refl _) L _ k
theorem s_ifW (L : Dl B H d c) (h : Dtw tt σ d c B) (k1 : ∀ B' H', ExtD d c B H B' H' → t { D with nx := rest D } σ H') (k2 : ∀ B' H', ExtD d c B H B' H' → u { D with nx := rest D } σ H') : tSeq (tIfS tt t u) rest D σ H := h B H (Same.refl _) L _ fun b B' H' e => by
  cases b with
  | true => exact k1 B' H' e
  | false => exact k2 B' H' e
theorem s_ifWE (L : Dl B H d c) (h : Dtw tt σ d c B) (k1 : ∀ B' H', ExtD d c B H B' H' → t D σ H') (k2 : ∀ B' H', ExtD d c B H B' H' → u D σ H') : tIfS tt t u D σ H := h B H (Same.refl _) L _ fun b B' H' e => by
  cases b with
  | true => exact k1 B' H' e
  | false => exact k2 B' H' e
/-! ### lists that change -/
theorem De.rep {n : Int} {ta : TA} {ds : List PyData} (h : Dd K ta σ B ds) (n0 : 0 ≤ n) (n1 : n ≤ 1000) (few : ds.length ≤ 1000) : De (tOp rRep (tLst ta) (tC (.int n))) σ B (dat K (.list (List.replicate n.toNat ds).flatten)) := fun B1 H s1 s2 Q k =>
  h B1 H s1 s2 _ fun vs B2 H2 e hv => by
    have len := allR_len hv
    rw [List.length_map] at len
    refine ⟨by rw [len, sizeLine_eq]; omega, fun p hp => ⟨p, n, vs, rfl, rfl, upd_same, by omega, by omega, ?_, fun p2 hp2 => ?_⟩⟩
    · rw [len, sizeLine_eq]
      have : ds.length * n.toNat ≤ 1000 * 1000 := Nat.mul_le_mul few (by omega)
      omega
    · have e1 : Ext B2 H2 B2 (upd H2 p (.lst vs)) := .own e.bh hp
      refine k _ (upd B2 p2 (.lst (List.replicate n.toNat vs).flatten)) _ ((e.trans e1).trans (Ext.new e1.bh hp2)) ?_
      have fr : B2 p2 = none := e1.bh.free hp2
      refine .lst (SqL.of upd_same) (dpMonoAll (new_same fr) _ _ ?_)
      have g : DpAll K B2 vs ds := allR_dp hv
      have go : ∀ m : Nat, DpAll K B2 (List.replicate m vs).flatten (List.replicate m ds).flatten := by
        intro m
        induction m with
        | zero => exact .nil
        | succ m ih =>
          rw [List.replicate_succ, List.replicate_succ, List.flatten_cons, List.flatten_cons]
          exact dpAll_app g ih
      exact go _
end
end Wv

set_option Elab.async false
set_option linter.all false
set_option maxRecDepth 100000
set_option maxHeartbeats 4000000
/-! Wx1: list(text), lists that change while a deal goes on. -/
namespace Wv
open PySem PySem.Spec PyProof.Rows L2 Wb
/-- the signs of a text -/
def signs (z : Str) : List Str := z.cps.toList.map fun c => ⟨#[c]⟩
def rLstS : List V → Hp → VK → Prop := fun xs H Q => ∃ z : Str, xs = [.str z] ∧ z.length ≤ sizeLine ∧ ∀ p, H p = none → Q (.ref p) (upd H p (.lst ((signs z).map .str)))
theorem signs_vals {z : Str} : ∀ {us : List Value} (n : Nat), us.length + n = z.cps.size → (∀ (j : Nat) (v : Value), us[j]? = some v → SignAt z (n + j) v) → Vals (((signs z).drop n).map V.str) us := by
  intro us
  induction us with
  | nil =>
    intro n h _
    have : (signs z).drop n = [] := by
      rw [List.drop_eq_nil_iff]
      unfold signs
      simp at *
      omega
    rw [this]
    exact .nil
  | cons u us ih =>
    intro n h g
    have lt : n < (signs z).length := by
      unfold signs
      simp at *
      omega
    rw [List.drop_eq_getElem_cons lt, List.map_cons]
    refine .cons ?_ (ih (n + 1) (by simp at h; omega) fun j v e => ?_)
    · obtain ⟨c, t, hc, hv⟩ := g 0 u rfl
      refine ⟨t, ?_⟩
      have key : (signs z)[n]? = some ⟨#[c]⟩ := by
        unfold signs
        rw [List.getElem?_map, Array.getElem?_toList]
        rw [Nat.add_zero] at hc
        rw [hc]
        rfl
      obtain ⟨_, e⟩ := List.getElem?_eq_some_iff.mp key
      rw [hv, e]
    · have := g (j + 1) v e
      rw [show n + 1 + j = n + (j + 1) by omega]
      exact this
theorem call_list_txt {X : Cx} (hc : X.calm = true) : CallR X (.type "list") rLstS := by
  intro pins s σ H xs us Q I r q
  obtain ⟨z, rfl, hz, q⟩ := q
  obtain ⟨u, rfl, rx⟩ := vals1 r
  obtain ⟨t, rfl⟩ := rx
  refine call_list_str (I.ok.hd hc) z t (fun h' tk acc c' hk hD hacc => ?_) hz
  have hv : Vals ((signs z).map V.str) acc.toList := by
    have := signs_vals (z := z) (us := acc.toList) 0 (by rw [Array.length_toList]; exact hacc.1) fun j v e => by
      rw [Nat.zero_add]
      exact hacc.2 j v (by rw [← Array.getElem?_toList]; exact e)
    rw [List.drop_zero] at this
    exact this
  refine ⟨.ref s.heap.objs.size, upd H s.heap.objs.size (.lst ((signs z).map V.str)), I.laid (t' := tk) hk (Nat.le_refl _)
    (show ObjOk X.prog X.w _ _ _ (.lst ((signs z).map V.str)) from ⟨by unfold signs; simp; exact hz, acc.toList, c', hv, by rw [Array.toArray_toList]; exact hD⟩), rfl, q _ (I.hok.fresh (Nat.le_refl _))⟩
theorem Ml.other {d c M P : Addr} {B H : Hp} {xs : List V} {o : HO} (m : Ml d c B H M xs) (n : M ≠ P) : Ml d c B (upd H P o) M xs := ⟨(upd_ne n).trans m.at_, m.no, m.nd, m.nc⟩
section
variable {K : PySem.W.Frag} {σ : L2.St} {d c M : Addr} {B H : Hp} {te tf : TE} {R S T : Rel} {E : XK} {i j : Nat} {Q : VK}
/-- a number drawn below the length of a list that changes -/
theorem c_anyLen {xs : List V} (L : Dl B H d c) (hd : σ[i]? = some (some (.ref d))) (hm : σ[j]? = some (some (.ref M))) (m : Ml d c B H M xs) (pos : 0 < xs.length) (few : xs.length ≤ 1000) (k : ∀ (r : Nat) H', r < xs.length → ExtD d c B H B H' → Q (.int r) H') :
    tCall spAny [] E (tCons (tVar i) (tCons (tCB (rLen K) (tCons (tVar j) tNil)) tNil)) σ H Q :=
  ⟨.ref d, hd, .ref M, hm, .ref M, xs.length, rfl, .inl ⟨xs, SqL.of m.at_, rfl⟩, d, c, xs.length, rfl, L.deal, by omega, by omega, fun r H2 r0 r1 D2 S2 => by
    obtain ⟨n, rfl⟩ := Int.eq_ofNat_of_zero_le r0
    exact k n H2 (by omega) (.draw L D2 S2)⟩
theorem seqIx {n r : Nat} (h : r < n) : seqIndex? (r : Int) n = some r := by
  have z : ¬ ((r : Int) < 0) := by omega
  have q : (decide (0 ≤ (r : Int)) && decide ((r : Int) < n)) = true := by simp; omega
  simp only [seqIndex?, z, if_false, q, if_true]
  rfl
/-- pool.pop(a number drawn below its length) -/
theorem c_popAny {xs : List V} (L : Dl B H d c) (hd : σ[i]? = some (some (.ref d))) (hm : σ[j]? = some (some (.ref M))) (m : Ml d c B H M xs) (pos : 0 < xs.length) (few : xs.length ≤ 1000)
    (k : ∀ (r : Nat) x H', xs[r]? = some x → ExtD d c B H B H' → Ml d c B H' M xs → Q x (upd H' M (.lst (xs.eraseIdx r)))) :
    tBM K "list" rPopAt (tVar j) (tCons (tCall spAny [] E (tCons (tVar i) (tCons (tCB (rLen K) (tCons (tVar j) tNil)) tNil))) tNil) σ H Q :=
  ⟨.ref M, hm, .inl ⟨rfl, xs, SqL.of m.at_⟩, c_anyLen (K := K) L hd hm m pos few fun r H' hr e => by
    have m' := m.ext e
    exact ⟨M, xs, r, r, xs[r], rfl, rfl, m'.at_, by omega, by omega, seqIx hr, List.getElem?_eq_getElem hr, k r xs[r] H' (List.getElem?_eq_getElem hr) e m'⟩⟩
theorem c_tupL {v : V} {out : List PyData} (L : Dl B H d c) (h : dat K (.list out) B v) (k : ∀ u B' H', ExtD d c B H B' H' → dat K (.tuple out) B' u → Q u H') : rTup K [v] H Q := by
  obtain ⟨a, xs, rfl, hs, hR⟩ := dat_lstR h
  refine ⟨a, xs, rfl, .inl ⟨L.bh.seq hs, fun p hp => ?_⟩⟩
  have e := Ext.new (o := .tup xs) L.bh hp
  exact k _ _ _ (.of L e) (tupR_dat ⟨p, xs, rfl, SqT.of upd_same, MoA.mo e.bb hR⟩)
/-- what a list is, by what its items are -/
def listOf (P : List PyData → Prop) (x : PyData) : Prop := ∃ ds, x = .list ds ∧ P ds
def tupOf (P : List PyData → Prop) (x : PyData) : Prop := ∃ ds, x = .tuple ds ∧ P ds
theorem Dw.tupleL {P : List PyData → Prop} (h : Dw te σ d c B (datP K (listOf P))) : Dw (tCB (rTup K) (tCons te tNil)) σ d c B (datP K (tupOf P)) := fun B1 H s L Q k =>
  h B1 H s L _ fun v B2 H2 e ⟨x, ⟨ds, hx, hp⟩, hv⟩ => by
    subst hx
    exact c_tupL e.dl hv fun u B3 H3 e3 hu => k u B3 H3 (e.trans L e3) ⟨_, ⟨ds, rfl, hp⟩, hu⟩
/-- each item made of one that is walked, and of draws -/
def Each {α : Type} (P : α → PyData → Prop) (as : List α) (ds : List PyData) : Prop := ds.length = as.length ∧ ∀ (i : Nat) (a : α) (x : PyData), as[i]? = some a → ds[i]? = some x → P a x
theorem Each.snoc {α : Type} {P : α → PyData → Prop} {as : List α} {ds : List PyData} {a : α} {x : PyData} {i : Nat} (h : Each P (as.take i) ds) (ha : as[i]? = some a) (hx : P a x) : Each P (as.take (i + 1)) (ds ++ [x]) := by
  have tk : as.take (i + 1) = as.take i ++ [a] := by rw [List.take_succ, ha]; rfl
  have li : (as.take i).length = i := by
    have := (List.getElem?_eq_some_iff.mp ha).1
    rw [List.length_take]
    omega
  have ld : ds.length = i := h.1.trans li
  refine ⟨by rw [tk, List.length_append, List.length_append, h.1]; rfl, fun j b y hb hy => ?_⟩
  rw [tk] at hb
  by_cases hj : j < i
  · rw [List.getElem?_append_left (by omega)] at hb hy
    exact h.2 j b y hb hy
  · have e : j = i := by
      have := (List.getElem?_eq_some_iff.mp hy).1
      simp at this
      omega
    subst e
    rw [List.getElem?_append_right (by omega), li] at hb
    rw [List.getElem?_append_right (by omega), ld] at hy
    simp at hb hy
    subst hb
    subst hy
    exact hx
theorem Dw.lc {α : Type} {as : List α} {r : α → Rel} {wi : TI} {g : TG} {vs : List Nat} (P : α → PyData → Prop) (hi : Di wi σ B (as.map r)) (few : as.length < sizeLine)
    (turn : ∀ a v Bn, a ∈ as → Same B Bn → r a Bn v → ∃ σ2, (∀ Hn (Q : L2.St → Hp → Prop), Same Bn Hn → Q σ2 Hn → g v (wipe σ vs) Hn Q) ∧ wipe σ2 vs = wipe σ vs ∧ Dw te σ2 d c Bn (datP K (P a))) :
    Dw (tLc wi g tYes te vs) σ d c B (datP K (listOf (Each P as))) := fun B1 H s L Q k =>
  c_lcD (K := K) (as := as) (r := r) L (hi.mono s) few (fun i out => Each P (as.take i) out) ⟨rfl, fun i a x h => by simp at h⟩ (fun i a v B2 H2 out ha L2' s2 hv hE Y N hY hN => by
    obtain ⟨σ2, t1, t2, t3⟩ := turn a v B2 (List.mem_of_getElem? ha) (s.trans s2) hv
    refine t1 H2 _ L2'.bh ⟨t2, ?_⟩
    show te σ2 H2 Y
    exact t3 B2 H2 (Same.refl _) L2' _ fun y B4 H4 e4 ⟨x, hx, hy⟩ => hY y B4 H4 x e4 hy (hE.snoc ha hx)) fun out v B' H' e hE hv => k v B' H' e ⟨_, ⟨out, rfl, by rw [List.take_length] at hE; exact hE⟩, hv⟩
/-- parts of lists -/
def cutA {α : Type} (xs : List α) (lo hi : Option Int) : List α := (xs.drop (HT.sIx xs.length 0 lo)).take (HT.sIx xs.length xs.length hi - HT.sIx xs.length 0 lo)
theorem cutA_map {α β : Type} (f : α → β) (xs : List α) (lo hi : Option Int) : (cutA xs lo hi).map f = cutA (xs.map f) lo hi := by
  unfold cutA
  rw [List.map_take, List.map_drop, List.length_map]
theorem cutA_mem {α : Type} {xs : List α} {lo hi : Option Int} {x : α} (h : x ∈ cutA xs lo hi) : x ∈ xs := List.mem_of_mem_drop (List.mem_of_mem_take h)
theorem cutA_len {α : Type} (xs : List α) (lo hi : Option Int) : (cutA xs lo hi).length ≤ xs.length := by
  unfold cutA
  rw [List.length_take, List.length_drop]
  omega
theorem dpAll_take {K : PySem.W.Frag} {H : Hp} : ∀ {vs : List V} {ds : List PyData} (n : Nat), DpAll K H vs ds → DpAll K H (vs.take n) (ds.take n)
  | _, _, 0, _ => .nil
  | _, _, n + 1, .nil => .nil
  | _, _, n + 1, .cons h t => .cons h (dpAll_take n t)
theorem dpAll_drop {K : PySem.W.Frag} {H : Hp} : ∀ {vs : List V} {ds : List PyData} (n : Nat), DpAll K H vs ds → DpAll K H (vs.drop n) (ds.drop n)
  | _, _, 0, h => h
  | _, _, n + 1, .nil => .nil
  | _, _, n + 1, .cons _ t => dpAll_drop n t
theorem De.slL {ds : List PyData} {tl th : TO} {lo hi : Option Int} (h : De te σ B (dat K (.list ds))) (h1 : Do tl σ B lo) (h2 : Do th σ B hi) : De (L2.tSl (rSlL K) te tl th) σ B (dat K (.list (cutA ds lo hi))) :=
  .sl h h1 h2 fun x B1 H s1 s2 hx Q q => by
    obtain ⟨a, xs, rfl, hs, hR⟩ := dat_lstR hx
    refine ⟨a, xs, rfl, s2.seq hs, fun p hp => q _ (upd B1 p (.lst (cutV xs lo hi))) _ (.new s2 hp) ?_⟩
    have g := allR_dp hR
    have len : xs.length = ds.length := dpAll_len g
    refine .lst (SqL.of upd_same) (dpMonoAll (new_same (s2.free hp)) _ _ ?_)
    unfold cutV cutA
    rw [len]
    exact dpAll_take _ (dpAll_drop _ g)
end
end Wv

set_option Elab.async false
set_option linter.all false
set_option maxRecDepth 100000
set_option maxHeartbeats 4000000
/-! Fm2: lists of texts and of lots: how they are sorted, shown, looked at. -/
namespace Fm
open PySem PySem.Spec PyProof.Rows L2 Wb Wv
theorem sortD_strs (zs : List Str) : ∃ ys : List Str, ys.Perm zs ∧ sortD (zs.map .str) = ys.map .str := by
  refine ⟨zs.mergeSort fun a b => dle (.str a) (.str b), List.mergeSort_perm _ _, ?_⟩
  unfold sortD
  rw [List.map_mergeSort (s := dle) (f := PyData.str) (fun a _ b _ => rfl)]
theorem alike_str (zs : List Str) : PySem.W.AllAlike (zs.map .str) := by
  intro d hd d' hd'
  obtain ⟨a, _, rfl⟩ := List.mem_map.mp hd
  obtain ⟨b, _, rfl⟩ := List.mem_map.mp hd'
  simp only [PySem.W.alike]
theorem sortok_str (zs : List Str) : PySem.W.SortOk (zs.map .str) := .inr fun d hd => by
  obtain ⟨a, _, rfl⟩ := List.mem_map.mp hd
  exact ⟨(fun z => nomatch z), (fun _ z => nomatch z)⟩
theorem depth_str (zs : List Str) : ∀ d ∈ zs.map PyData.str, d.depth ≤ 60 := fun d hd => by
  obtain ⟨a, _, rfl⟩ := List.mem_map.mp hd
  simp [PyData.depth]
theorem strs_vals {K : PySem.W.Frag} {B : Hp} : ∀ {zs : List Str} {xs : List V}, AllR ((zs.map PyData.str).map (dat K)) B xs → xs = zs.map V.str
  | [], _, h => h
  | z :: zs, _, h => by
    obtain ⟨v, r, rfl, h1, h2⟩ := h
    rw [dat_str h1, strs_vals h2]
    rfl
theorem strs_dpAll {K : PySem.W.Frag} {H : Hp} : ∀ zs : List Str, DpAll K H (zs.map V.str) (zs.map PyData.str)
  | [] => .nil
  | z :: zs => .cons (.str z) (strs_dpAll zs)
theorem tb_nm {n : Nat} {z : Str} (h : Nmk n z) : Tb 0 n (.str z) := tb_str (fun a ha => Nat.lt_trans (h.2 a ha) (by decide)) h.1
theorem sortD_lots (ls : List (List Str)) : ∃ ys : List (List Str), ys.Perm ls ∧ sortD (ls.map lotD) = ys.map lotD := by
  refine ⟨ls.mergeSort fun a b => dle (lotD a) (lotD b), List.mergeSort_perm _ _, ?_⟩
  unfold sortD
  rw [List.map_mergeSort (s := dle) (f := lotD) (fun a _ b _ => rfl)]
theorem subs_in {l a : List Str} (h : a ∈ subs l) : ∀ z ∈ a, z ∈ l := by
  suffices ∀ k, k ≤ l.length → ∀ a ∈ subs (l.take k), ∀ z ∈ a, z ∈ l from this l.length (Nat.le_refl _) a (by rw [List.take_length]; exact h)
  intro k
  induction k with
  | zero =>
    intro _ a ha z hz
    rw [List.take_zero] at ha
    have ha : a ∈ [[]] := ha
    rw [List.mem_singleton.mp ha] at hz
    cases hz
  | succ k ih =>
    intro hk a ha z hz
    have e : l.take (k + 1) = l.take k ++ [l[k]] := by rw [List.take_succ, List.getElem?_eq_getElem (by omega)]; rfl
    rw [e, subs_snoc] at ha
    rcases List.mem_append.mp ha with ha | ha
    · exact ih (by omega) a ha z hz
    · obtain ⟨b, hb, rfl⟩ := List.mem_map.mp ha
      rcases List.mem_append.mp hz with hz | hz
      · exact ih (by omega) b hb z hz
      · rw [List.mem_singleton.mp hz]
        exact List.getElem_mem _
theorem lay_lots : ∀ ls : List (List Str), (∀ l ∈ ls, ∀ z ∈ l, Nm z) → PyData.canLayAll0 (ls.map lotD) = true
  | [], _ => by simp [PyData.canLayAll0]
  | l :: ls, h => by
    rw [List.map_cons]
    simp only [PyData.canLayAll0, Bool.and_eq_true]
    exact ⟨by simp only [lotD, PyData.canLay0]; exact lay_strs (h l List.mem_cons_self), lay_lots ls fun a ha => h a (List.mem_cons_of_mem _ ha)⟩
theorem lay_rows : ∀ rs : List (List Int), PyData.canLayAll0 (rs.map rowD) = true
  | [] => by simp [PyData.canLayAll0]
  | l :: ls => by
    rw [List.map_cons]
    simp only [PyData.canLayAll0, Bool.and_eq_true]
    exact ⟨by simp only [rowD, PyData.canLay0]; exact lay_ints _, lay_rows ls⟩
theorem depth_rows : ∀ rs : List (List Int), PyData.depthAll (rs.map rowD) ≤ 1
  | [] => by simp [PyData.depthAll]
  | l :: ls => by
    have := depth_rows ls
    simp only [List.map_cons, PyData.depthAll, rowD, PyData.depth, depth_ints]
    omega
theorem shaped_rows (rs : List (List Int)) : SeqAt.shaped (rowsT rs) = true := by
  unfold SeqAt.shaped rowsT
  rw [Bool.and_eq_true]
  refine ⟨by simp only [PyData.canLay0]; exact lay_rows rs, decide_eq_true ?_⟩
  have := depth_rows rs
  simp only [PyData.depth]
  omega
theorem tb_lot {l : List Str} (h : ∀ z ∈ l, Nm z) (few : l.length ≤ 4) : Tb 1 84 (lotD l) := by
  refine ((TbAll.of (n := 0) (W := 20) (es := l.map .str) fun e he => ?_).tuple).more (Nat.le_refl _) ?_
  · obtain ⟨z, hz, rfl⟩ := List.mem_map.mp he
    exact tb_nm (h z hz)
  · rw [List.length_map]
    omega
theorem tb_row {r : List Int} (few : r.length ≤ 4) (h : ∀ i ∈ r, i.natAbs ≤ 100) : Tb 1 4 (rowD r) := by
  refine ((TbAll.of (n := 0) (W := 0) (es := r.map .int) fun e he => ?_).tuple).more (Nat.le_refl _) ?_
  · obtain ⟨i, hi, rfl⟩ := List.mem_map.mp he
    refine tb_int (Nat.lt_of_le_of_lt (h i hi) ?_)
    exact Nat.lt_of_lt_of_le (show 100 < 2 ^ 7 by decide) (Nat.pow_le_pow_right (by decide) (by decide))
  · rw [List.length_map]
    omega
/-- data that are texts -/
theorem strs_of {P : Str → Prop} : ∀ {ds : List PyData}, (∀ y ∈ ds, ∃ z, y = .str z ∧ P z) → ∃ zs : List Str, ds = zs.map .str ∧ ∀ z ∈ zs, P z
  | [], _ => ⟨[], rfl, fun z h => nomatch h⟩
  | d :: ds, h => by
    obtain ⟨z, rfl, hz⟩ := h d List.mem_cons_self
    obtain ⟨zs, rfl, hs⟩ := strs_of fun y hy => h y (List.mem_cons_of_mem _ hy)
    exact ⟨z :: zs, rfl, fun x hx => by
      rcases List.mem_cons.mp hx with rfl | hx
      · exact hz
      · exact hs x hx⟩
theorem each_mem {α : Type} {P : α → PyData → Prop} {as : List α} {ds : List PyData} (h : Each P as ds) : ∀ y ∈ ds, ∃ a ∈ as, P a y := fun y hy => by
  obtain ⟨i, hi, rfl⟩ := List.mem_iff_getElem.mp hy
  have ha : i < as.length := by rw [← h.1]; exact hi
  exact ⟨as[i], List.getElem_mem ha, h.2 i _ _ (List.getElem?_eq_getElem ha) (List.getElem?_eq_getElem hi)⟩
abbrev rJoin (K : PySem.W.Frag) : V → List V → Hp → VK → Prop := fun x xs H Q => ∃ a p, ∃ ys : List Str, x = .str a ∧ xs = [.ref p] ∧ (SqL K H p (ys.map V.str) ∨ SqT K H p (ys.map V.str)) ∧ (ys.map (·.length)).sum + ys.length * a.length ≤ 16777216 ∧ Q (.str (Txt.join a ys)) H
theorem pe_joinK {X : Cx} {K : PySem.W.Frag} {o e : Expr} {to te : TE} {apos pos : Pos} (hK : X.K = K) (ho : PE X o to) (he : PE X e te) (hs : starEach [e] X.env = [(false, eval e X.env)] := by rfl) (hbase : attributeBase o "join" X.env (eval o X.env) = eval o X.env := by rfl) (hline : (apos.endLine == pos.line) = true := by rfl) :
    PE X (.Call (.Attribute o "join" apos) [e] [] pos) (tM1 (rJoin K) to te) := by
  subst hK
  exact pe_join ho he hs hbase hline
section
variable {K : PySem.W.Frag} {σ : L2.St} {d c : Addr} {B : Hp} {te tf : TE} {E : XK} {i : Nat}
theorem Dw.ofTxt {z : Str} (hd : σ[i]? = some (some (.ref d))) (h : De te σ B (dat K (.str z))) (ne : 0 < z.length) (few : z.length ≤ 1000) : Dw (tCall (spOf K) [] E (tCons (tVar i) (tCons te tNil))) σ d c B (datP K fun x => ∃ a, x = .str ⟨#[a]⟩ ∧ a ∈ z.cps.toList) := fun B1 H s L Q k =>
  c_ofS L hd (h.mono s) ne few fun a B' H' ha e => k _ B' H' e ⟨_, ⟨a, rfl, ha⟩, .str _⟩
theorem De.join {sep : Str} {zs : List Str} (h1 : De te σ B (dat K (.str sep))) (h2 : De tf σ B (dat K (.list (zs.map .str)))) (hz : (zs.map (·.length)).sum + zs.length * sep.length ≤ 16777216) :
    De (tM1 (fun x xs H Q => ∃ a p, ∃ ys : List Str, x = .str a ∧ xs = [.ref p] ∧ (SqL K H p (ys.map V.str) ∨ SqT K H p (ys.map V.str)) ∧ (ys.map (·.length)).sum + ys.length * a.length ≤ 16777216 ∧ Q (.str (Txt.join a ys)) H) te tf) σ B (dat K (.str (Txt.join sep zs))) := fun B1 H s1 s2 Q q =>
  h1 B1 H s1 s2 _ fun x B2 H2 e hx => by
    have hx := dat_str hx
    subst hx
    refine ⟨⟨_, rfl⟩, h2 B2 H2 (s1.trans e.bb) e.bh _ fun y B3 H3 e3 hy => ?_⟩
    obtain ⟨p, xs, rfl, hs, hR⟩ := dat_lstR hy
    have ex := strs_vals (zs := zs) hR
    subst ex
    exact ⟨_, p, zs, rfl, rfl, .inl (e3.bh.seq hs), hz, q _ B3 H3 (e.trans e3) (.str _)⟩
end
end Fm

set_option Elab.async false
set_option linter.all false
set_option maxRecDepth 100000
set_option maxHeartbeats 4000000
/-! Ta0: the tally of letters, as lists. -/
namespace Ta
open PySem PySem.Spec PyProof.Rows
abbrev Wd := List Int
/-- a letter: number, edition, word -/
abbrev Lt := Int × Int × Wd
/-- a row of a tally: number, last edition, its words -/
abbrev Rw := Int × Int × List Wd
/-! ### each thing once -/
section
variable {α : Type} [DecidableEq α]
def add1 (f : List α) (x : α) : List α := if x ∈ f then f else f ++ [x]
def once (l : List α) : List α := l.foldl add1 []
theorem mem_add1 {f : List α} {x y : α} : y ∈ add1 f x ↔ y ∈ f ∨ y = x := by
  unfold add1
  split
  · next h => exact ⟨.inl, fun h' => h'.elim id fun e => e ▸ h⟩
  · simp
theorem nd_add1 {f : List α} {x : α} (h : f.Nodup) : (add1 f x).Nodup := by
  unfold add1
  split
  · exact h
  · next hx =>
    refine List.nodup_append.mpr ⟨h, List.pairwise_singleton _ _, fun a ha b hb e => ?_⟩
    rw [List.mem_singleton] at hb
    exact hx (hb ▸ e ▸ ha)
theorem once_snoc (l : List α) (x : α) : once (l ++ [x]) = add1 (once l) x := by unfold once; rw [List.foldl_append]; rfl
theorem once_foldl {l f : List α} : (∀ y, y ∈ l.foldl add1 f ↔ y ∈ f ∨ y ∈ l) ∧ (f.Nodup → (l.foldl add1 f).Nodup) := by
  induction l generalizing f with
  | nil => exact ⟨fun y => by simp, id⟩
  | cons x l ih =>
    rw [List.foldl_cons]
    refine ⟨fun y => ?_, fun h => ih.2 (nd_add1 h)⟩
    rw [ih.1, mem_add1, List.mem_cons, or_assoc]
theorem mem_once {l : List α} {y : α} : y ∈ once l ↔ y ∈ l := by
  have := (once_foldl (l := l) (f := [])).1 y
  unfold once
  simpa using this
theorem nd_once (l : List α) : (once l).Nodup := (once_foldl (l := l) (f := [])).2 List.nodup_nil
theorem once_perm {l m : List α} (h : ∀ y, y ∈ l ↔ y ∈ m) : (once l).Perm (once m) := (List.perm_ext_iff_of_nodup (nd_once l) (nd_once m)).mpr fun y => by rw [mem_once, mem_once]; exact h y
theorem once_len (l : List α) : (once l).length ≤ l.length := by
  have h : ∀ (l f : List α), (l.foldl add1 f).length ≤ f.length + l.length := fun l => by
    induction l with
    | nil => intro f; simp
    | cons x l ih =>
      intro f
      rw [List.foldl_cons, List.length_cons]
      have := ih (add1 f x)
      have h2 : (add1 f x).length ≤ f.length + 1 := by
        unfold add1
        split
        · omega
        · simp
      omega
  unfold once
  simpa using h l []
end
/-! ### sorted -/
theorem uniq_sorted {α : Type} {le : α → α → Prop} (anti : ∀ a b, le a b → le b a → a = b) : ∀ {l m : List α}, l.Perm m → l.Pairwise le → m.Pairwise le → l = m
  | [], m, p, _, _ => (p.nil_eq)
  | x :: l, [], p, _, _ => absurd p.length_eq (by simp)
  | x :: l, y :: m, p, h1, h2 => by
    have h1' := List.pairwise_cons.mp h1
    have h2' := List.pairwise_cons.mp h2
    have e : x = y := by
      have hx : x ∈ y :: m := p.mem_iff.mp List.mem_cons_self
      have hy : y ∈ x :: l := p.mem_iff.mpr List.mem_cons_self
      rcases List.mem_cons.mp hx with e | hx
      · exact e
      · rcases List.mem_cons.mp hy with e | hy
        · exact e.symm
        · exact anti _ _ (h1'.1 _ hy) (h2'.1 _ hx)
    subst e
    rw [uniq_sorted anti (List.Perm.cons_inv p) h1'.2 h2'.2]
def sortI (l : List Int) : List Int := l.mergeSort fun a b => decide (a ≤ b)
def sortW (l : List Wd) : List Wd := l.mergeSort fun a b => decide (a ≤ b)
theorem sortI_perm (l : List Int) : (sortI l).Perm l := List.mergeSort_perm _ _
theorem sortW_perm (l : List Wd) : (sortW l).Perm l := List.mergeSort_perm _ _
theorem sortI_pw (l : List Int) : (sortI l).Pairwise (· ≤ ·) := by
  have := List.pairwise_mergeSort (le := fun a b : Int => decide (a ≤ b)) (fun a b c h1 h2 => by simp at *; omega) (fun a b => by simp; omega) l
  exact this.imp fun h => by simpa using h
theorem wle_trans {a b c : Wd} (h1 : a ≤ b) (h2 : b ≤ c) : a ≤ c := List.le_trans h1 h2
theorem wle_anti {a b : Wd} (h1 : a ≤ b) (h2 : b ≤ a) : a = b := List.le_antisymm h1 h2
theorem wle_total (a b : Wd) : a ≤ b ∨ b ≤ a := List.le_total a b
theorem sortW_pw (l : List Wd) : (sortW l).Pairwise (· ≤ ·) := by
  have := List.pairwise_mergeSort (le := fun a b : Wd => decide (a ≤ b)) (fun a b c h1 h2 => decide_eq_true (wle_trans (of_decide_eq_true h1) (of_decide_eq_true h2))) (fun a b => by
    rcases wle_total a b with h | h
    · simp [h]
    · simp [h]) l
  exact this.imp fun h => of_decide_eq_true h
theorem sortI_uniq {l m : List Int} (p : l.Perm m) (h : l.Pairwise (· ≤ ·)) : l = sortI m := uniq_sorted (fun a b h1 h2 => Int.le_antisymm h1 h2) (p.trans (sortI_perm m).symm) h (sortI_pw m)
theorem sortI_eq {l m : List Int} (p : l.Perm m) : sortI l = sortI m := sortI_uniq ((sortI_perm l).trans p) (sortI_pw l)
theorem sortW_eq {l m : List Wd} (p : l.Perm m) : sortW l = sortW m := uniq_sorted (fun a b h1 h2 => wle_anti h1 h2) ((sortW_perm l).trans (p.trans (sortW_perm m).symm)) (sortW_pw l) (sortW_pw m)
theorem mem_sortI {l : List Int} {x : Int} : x ∈ sortI l ↔ x ∈ l := (sortI_perm l).mem_iff
theorem mem_sortW {l : List Wd} {x : Wd} : x ∈ sortW l ↔ x ∈ l := (sortW_perm l).mem_iff
/-! ### the tally -/
def nums (ls : List Lt) : List Int := ls.map (·.1)
def upd1 (n : Int) (m : Int) (x : Lt) : Int := if x.1 = n then max x.2.1 m else m
/-- the last edition of a number; 0 of none -/
def last (ls : List Lt) (n : Int) : Int := ls.foldl (upd1 n) 0
def wordsOf (ls : List Lt) (n : Int) : List Wd := (ls.filter fun x => decide (x.1 = n ∧ x.2.1 = last ls n)).map (·.2.2)
def tally (ls : List Lt) : List Rw := (sortI (once (nums ls))).map fun n => (n, last ls n, sortW (once (wordsOf ls n)))
def letters (rows : List Rw) : List Lt := rows.flatMap fun r => r.2.2.map fun w => (r.1, r.2.1, w)
/-- no edition is below 0 -/
def Pos (ls : List Lt) : Prop := ∀ x ∈ ls, 0 ≤ x.2.1
theorem Pos.app {a b : List Lt} (h1 : Pos a) (h2 : Pos b) : Pos (a ++ b) := fun x hx => (List.mem_append.mp hx).elim (h1 x) (h2 x)
theorem last_from (n : Int) : ∀ (ls : List Lt) (m : Int), m ≤ ls.foldl (upd1 n) m ∧ (∀ x ∈ ls, x.1 = n → x.2.1 ≤ ls.foldl (upd1 n) m) ∧ (ls.foldl (upd1 n) m = m ∨ ∃ x ∈ ls, x.1 = n ∧ x.2.1 = ls.foldl (upd1 n) m)
  | [], m => ⟨Int.le_refl _, fun x hx => (nomatch hx), .inl rfl⟩
  | y :: ls, m => by
    rw [List.foldl_cons]
    obtain ⟨h1, h2, h3⟩ := last_from n ls (upd1 n m y)
    have hm : m ≤ upd1 n m y := by
      unfold upd1
      split
      · exact Int.le_max_right _ _
      · exact Int.le_refl _
    refine ⟨Int.le_trans hm h1, fun x hx e => ?_, ?_⟩
    · rcases List.mem_cons.mp hx with rfl | hx
      · refine Int.le_trans ?_ h1
        unfold upd1
        rw [if_pos e]
        exact Int.le_max_left _ _
      · exact h2 x hx e
    · rcases h3 with h3 | ⟨x, hx, e1, e2⟩
      · by_cases e : y.1 = n
        · have : upd1 n m y = m ∨ upd1 n m y = y.2.1 := by
            unfold upd1
            rw [if_pos e]
            omega
          rcases this with h | h
          · exact .inl (h3.trans h)
          · exact .inr ⟨y, List.mem_cons_self, e, (h3.trans h).symm⟩
        · have h : upd1 n m y = m := by unfold upd1; rw [if_neg e]
          exact .inl (h3.trans h)
      · exact .inr ⟨x, List.mem_cons_of_mem _ hx, e1, e2⟩
theorem last_ge {ls : List Lt} {x : Lt} (h : x ∈ ls) : x.2.1 ≤ last ls x.1 := (last_from x.1 ls 0).2.1 x h rfl
theorem last_pos (ls : List Lt) (n : Int) : 0 ≤ last ls n := (last_from n ls 0).1
theorem last_at {ls : List Lt} {n : Int} (p : Pos ls) (h : n ∈ nums ls) : ∃ w, (n, last ls n, w) ∈ ls := by
  obtain ⟨x, hx, rfl⟩ := List.mem_map.mp h
  rcases (last_from x.1 ls 0).2.2 with e | ⟨y, hy, e1, e2⟩
  · refine ⟨x.2.2, ?_⟩
    have h1 := last_ge hx
    have h2 := p x hx
    have e' : last ls x.1 = 0 := e
    have : x.2.1 = last ls x.1 := by omega
    rw [← this]
    exact hx
  · refine ⟨y.2.2, ?_⟩
    have : last ls x.1 = y.2.1 := e2.symm
    rw [this, ← e1]
    exact hy
theorem last_uniq {ls : List Lt} {n m : Int} (h0 : 0 ≤ m) (h1 : ∀ x ∈ ls, x.1 = n → x.2.1 ≤ m) (h2 : m = 0 ∨ ∃ x ∈ ls, x.1 = n ∧ x.2.1 = m) : last ls n = m := by
  have a := (last_from n ls 0).2.1
  have b := last_pos ls n
  have c := (last_from n ls 0).2.2
  have d : last ls n ≤ m := by
    rcases c with c | ⟨x, hx, e1, e2⟩
    · have : last ls n = 0 := c
      omega
    · have : x.2.1 = last ls n := e2
      have := h1 x hx e1
      omega
  have e : m ≤ last ls n := by
    rcases h2 with h2 | ⟨x, hx, e1, e2⟩
    · omega
    · have : x.2.1 ≤ last ls n := a x hx e1
      omega
  omega
theorem mem_words {ls : List Lt} {n : Int} {w : Wd} : w ∈ wordsOf ls n ↔ (n, last ls n, w) ∈ ls := by
  unfold wordsOf
  rw [List.mem_map]
  constructor
  · rintro ⟨x, hx, rfl⟩
    obtain ⟨h, e⟩ := List.mem_filter.mp hx
    obtain ⟨e1, e2⟩ := of_decide_eq_true e
    rw [← e2, ← e1]
    exact h
  · intro h
    exact ⟨_, List.mem_filter.mpr ⟨h, decide_eq_true ⟨rfl, rfl⟩⟩, rfl⟩
/-- what a tally hangs on -/
theorem tally_of {a b : List Lt} (hn : ∀ n, n ∈ nums a ↔ n ∈ nums b) (hl : ∀ n, n ∈ nums a → last a n = last b n) (hw : ∀ n w, n ∈ nums a → ((n, last a n, w) ∈ a ↔ (n, last b n, w) ∈ b)) : tally a = tally b := by
  unfold tally
  rw [sortI_eq (once_perm hn)]
  refine List.map_congr_left fun n h => ?_
  have h : n ∈ nums a := (hn n).mpr (mem_once.mp (mem_sortI.mp h))
  rw [hl n h, sortW_eq (once_perm fun w => (mem_words (ls := a)).trans ((hw n w h).trans mem_words.symm))]
theorem tally_ext {a b : List Lt} (h : ∀ x, x ∈ a ↔ x ∈ b) : tally a = tally b := by
  have hl : ∀ n, last a n = last b n := fun n => by
    refine last_uniq (last_pos _ _) (fun x hx e => e ▸ last_ge ((h x).mp hx)) ?_
    rcases (last_from n b 0).2.2 with e | ⟨x, hx, e1, e2⟩
    · exact .inl e
    · exact .inr ⟨x, (h x).mpr hx, e1, e2⟩
  refine tally_of (fun n => ?_) (fun n _ => hl n) fun n w _ => by rw [hl n]; exact h _
  unfold nums
  rw [List.mem_map, List.mem_map]
  exact ⟨fun ⟨x, hx, e⟩ => ⟨x, (h x).mp hx, e⟩, fun ⟨x, hx, e⟩ => ⟨x, (h x).mpr hx, e⟩⟩
theorem mem_letters {ls : List Lt} {x : Lt} : x ∈ letters (tally ls) ↔ x ∈ ls ∧ x.2.1 = last ls x.1 := by
  unfold letters tally
  rw [List.mem_flatMap]
  constructor
  · rintro ⟨r, hr, hx⟩
    obtain ⟨n, hn, rfl⟩ := List.mem_map.mp hr
    obtain ⟨w, hw, rfl⟩ := List.mem_map.mp hx
    exact ⟨mem_words.mp (mem_once.mp (mem_sortW.mp hw)), rfl⟩
  · rintro ⟨hx, e⟩
    refine ⟨_, List.mem_map.mpr ⟨x.1, mem_sortI.mpr (mem_once.mpr (List.mem_map.mpr ⟨x, hx, rfl⟩)), rfl⟩, List.mem_map.mpr ⟨x.2.2, mem_sortW.mpr (mem_once.mpr (mem_words.mpr (by rw [← e]; exact hx))), by rw [← e]⟩⟩
theorem Pos.letters {ls : List Lt} (p : Pos ls) : Pos (letters (tally ls)) := fun x hx => p x (mem_letters.mp hx).1
/-- told together with others, the letters of a tally tell what all of them tell -/
theorem tally_back {a b c : List Lt} (p : Pos a) (q : Pos b) (hs : ∀ x, x ∈ c ↔ x ∈ letters (tally a) ∨ x ∈ letters (tally b)) : tally c = tally (a ++ b) := by
  have pc : Pos (a ++ b) := p.app q
  have sub : ∀ x, x ∈ c → x ∈ a ++ b := fun x hx => List.mem_append.mpr (((hs x).mp hx).imp (fun h => (mem_letters.mp h).1) fun h => (mem_letters.mp h).1)
  have up : ∀ x, x ∈ a ++ b → x.2.1 = last (a ++ b) x.1 → x ∈ c := fun x hx e => by
    refine (hs x).mpr ((List.mem_append.mp hx).imp (fun h => mem_letters.mpr ⟨h, ?_⟩) fun h => mem_letters.mpr ⟨h, ?_⟩)
    · obtain ⟨w, hw⟩ := last_at p (List.mem_map.mpr ⟨x, h, rfl⟩)
      have h1 := last_ge h
      have h2 : last a x.1 ≤ last (a ++ b) x.1 := last_ge (x := (x.1, last a x.1, w)) (List.mem_append.mpr (.inl hw))
      omega
    · obtain ⟨w, hw⟩ := last_at q (List.mem_map.mpr ⟨x, h, rfl⟩)
      have h1 := last_ge h
      have h2 : last b x.1 ≤ last (a ++ b) x.1 := last_ge (x := (x.1, last b x.1, w)) (List.mem_append.mpr (.inr hw))
      omega
  have hn : ∀ n, n ∈ nums c ↔ n ∈ nums (a ++ b) := fun n => by
    constructor
    · intro h
      obtain ⟨x, hx, e⟩ := List.mem_map.mp h
      exact List.mem_map.mpr ⟨x, sub x hx, e⟩
    · intro h
      obtain ⟨w, hw⟩ := last_at pc h
      exact List.mem_map.mpr ⟨_, up _ hw rfl, rfl⟩
  have hl : ∀ n, n ∈ nums c → last c n = last (a ++ b) n := fun n h => by
    refine last_uniq (last_pos _ _) (fun x hx e => e ▸ last_ge (sub x hx)) (.inr ?_)
    obtain ⟨w, hw⟩ := last_at pc ((hn n).mp h)
    exact ⟨_, up _ hw rfl, rfl, rfl⟩
  refine tally_of hn hl fun n w h => ?_
  rw [hl n h]
  exact ⟨fun hx => sub _ hx, fun hx => up _ hx rfl⟩
theorem tally_merge {a b : List Lt} (p : Pos a) (q : Pos b) : tally (letters (tally a) ++ letters (tally b)) = tally (a ++ b) := tally_back p q fun x => List.mem_append
theorem tally_heard {a : List Lt} {x : Lt} (p : Pos a) (q : 0 ≤ x.2.1) : tally (letters (tally a) ++ [x]) = tally (a ++ [x]) := by
  refine tally_back (b := [x]) p (fun y hy => by rw [List.mem_singleton] at hy; rw [hy]; exact q) fun y => ?_
  rw [List.mem_append, List.mem_singleton, mem_letters (ls := [x]), List.mem_singleton]
  refine or_congr Iff.rfl ⟨fun e => ⟨e, ?_⟩, fun h => h.1⟩
  subst e
  have h1 := last_ge (ls := [y]) List.mem_cons_self
  rcases (last_from y.1 [y] 0).2.2 with e | ⟨z, hz, e1, e2⟩
  · have e' : last [y] y.1 = 0 := e
    omega
  · rw [List.mem_singleton] at hz
    subst hz
    exact e2
end Ta

set_option Elab.async false
set_option linter.all false
set_option maxRecDepth 100000
set_option maxHeartbeats 4000000
/-! Wz0: sorted(d), d a dict whose keys are tuples of ints and texts. -/
namespace PySem.W
open PySem PySem.Calls PyProof.Rows PySem.SeqAt
section
variable {prog : Program} {w : World} {A : Around} {E : Value → Shared → Prop} {s : Shared}
theorem sorted_src {T : String} {r d : Addr} {n : Nat} {P : Nat → Value → Prop} {OK : Heap → Prop} (K : KdlSrc prog w T r d n P OK) (hh : A.handled = none) (hok : OK s.heap) (hn : n ≤ sizeLine) {Q : Value → Shared → Prop}
    (hQ : ∀ (h' : Heap) (tk : Nat) (acc : Array Value), (∀ b o, s.heap.get? b = some o → h'.get? b = some o) → ItemsOf P acc n → ∃ ds : List PyData,
      SortsAt prog w A.in1.in1 { s with heap := sortingHeap (h'.push (seqObj "list" acc.toList.toArray 0)) h'.objs.size acc.toList, toks := tk } (dataKind (sortingHeap (h'.push (seqObj "list" acc.toList.toArray 0)) h'.objs.size acc.toList) ds) acc.toList ∧
      Q (.ref h'.objs.size) { s with heap := sortedHeap (h'.push (seqObj "list" acc.toList.toArray 0)) h'.objs.size acc.toList (sortVals (dataKind (sortingHeap (h'.push (seqObj "list" acc.toList.toArray 0)) h'.objs.size acc.toList) ds) false acc.toList acc.toList).toArray, toks := tk }) :
    wpAny (model prog w) A (call (.builtin "sorted") [.ref r]) Q E s := by
  refine Calls.call_function_entry kind_sorted plain_sorted entry_sorted (args_sorted1 _) ?_
  unfold Builtin.«sorted»
  refine wpAny_bind (m := checkCount "sorted" 1 1 _) (wpAny_pure ?_)
  refine wpAny_bind (kdu_collect (A := A.in1) K hh hok hn fun h' tk acc hk hacc => ?_)
  obtain ⟨ds, S, q⟩ := hQ h' tk acc hk hacc
  have hl : acc.toList.length = n := by rw [Array.length_toList, hacc.1]
  refine wpAny_bind (wpAny_newList ?_ (by rw [hl]; exact hn))
  have hoL : (h'.push (seqObj "list" acc.toList.toArray 0)).get? h'.objs.size = some (seqObj "list" acc.toList.toArray 0) := Heap.get?_push_size _ rfl
  show wpAny _ _ _ _ _ { s with heap := h'.push (seqObj "list" acc.toList.toArray 0), toks := tk }
  refine wpAny_bind (wpAny_holding (wpAny_call_entry slot_list_sort ⟨_, hoL, rfl⟩ entry_list_sort ?body (args_list_sort _)))
  case body =>
    show wpAny (model prog w) A.in1.in1 (Builtin.«list.sort» ⟨[.ref h'.objs.size], []⟩) _ _ _
    exact list_sort_vals (s := { s with heap := h'.push (seqObj "list" acc.toList.toArray 0), toks := tk }) hoL S (by rw [hl]; exact hn) ⟨_, rfl, wpAny_pure ⟨_, rfl, q⟩⟩
end
end PySem.W
namespace Wb
open PySem PySem.Spec PyProof.Rows L2
def keyD1 : Key → PyData
  | .inl i => .int i
  | .inr z => .str z
def keyDt (ks : List Key) : PyData := .tuple (ks.map keyD1)
def rSortedDT (K : PySem.W.Frag) : List V → Hp → VK → Prop := fun vs H Q => ∃ (d : Addr) (kvs : List (List Key × V)), vs = [.ref d] ∧ Rd H d (.dT kvs) ∧ PySem.W.AllAlike (kvs.map fun kv => keyDt kv.1) ∧
  ∀ p bs, H p = none → IsKeys H kvs bs → DpAll K H (bs.map V.ref) (kvs.map fun kv => keyDt kv.1) → Q (.ref p) (upd H p (.lst (sortV (bs.map V.ref) (kvs.map fun kv => keyDt kv.1))))
theorem dp_key {K : PySem.W.Frag} {H : Hp} : ∀ ks : List Key, DpAll K H (ks.map kV) (ks.map keyD1)
  | [] => .nil
  | .inl i :: ks => .cons (.int i) (dp_key ks)
  | .inr z :: ks => .cons (.str z) (dp_key ks)
theorem dp_keys {K : PySem.W.Frag} {H : Hp} {kvs : List (List Key × V)} {bs : List Addr} (h : IsKeys H kvs bs) : DpAll K H (bs.map V.ref) (kvs.map fun kv => keyDt kv.1) := by
  unfold IsKeys at h
  induction h with
  | nil => exact .nil
  | cons h t ih => exact .cons (.tup (SqT.of h) (dp_key _)) ih
theorem depth_key (ks : List Key) : (keyDt ks).depth ≤ 2 := by
  have h : ∀ ks : List Key, PyData.depthAll (ks.map keyD1) ≤ 1 := fun ks => by
    induction ks with
    | nil => exact Nat.zero_le _
    | cons k ks ih =>
      rw [List.map_cons]
      show max (keyD1 k).depth (PyData.depthAll (ks.map keyD1)) ≤ 1
      cases k with
      | inl i => exact Nat.max_le.mpr ⟨by simp [keyD1, PyData.depth], ih⟩
      | inr z => exact Nat.max_le.mpr ⟨by simp [keyD1, PyData.depth], ih⟩
  have := h ks
  unfold keyDt
  simp only [PyData.depth]
  omega
section
variable {X : Cx}
theorem cr_sortedDT (hc : X.calm = true) (hu : X.A.units + 64 < cLine) : CallR X (.builtin "sorted") (rSortedDT X.K) := by
  intro pins s σ H xs us Q I r h
  obtain ⟨d, kvs, rfl, hd, hal, q⟩ := h
  obtain ⟨u, rfl, rx⟩ := r.one
  cases rx
  obtain ⟨z, hs, ks, pr, o, es, ep, ho, hx, hdt, he, hn⟩ := (show ObjOk X.prog X.w H s.heap d (.dT kvs) from hd.ok I.hok)
  have l1 : es.size = ks.length := size_of_entries he
  have l2 : kvs.length = ks.length := Paired.length pr
  refine PySem.W.sorted_src (kdl_raw hs hx hdt) (I.ok.hd hc) ho (by omega) fun h' tk acc kp it => ?_
  have ea : acc.toList = ks.map fun x => Value.ref x.2.1 := by
    have hl : acc.toList.length = ks.length := by rw [Array.length_toList, it.1]; exact l1
    apply List.ext_getElem?
    intro j
    rw [List.getElem?_map]
    cases hj : acc.toList[j]? with
    | none =>
      have h1 := List.getElem?_eq_none_iff.mp hj
      rw [List.getElem?_eq_none (by omega)]
      all_goals rfl
    | some v =>
      obtain ⟨en, hen, hv⟩ := it.2 j v (by rw [← Array.getElem?_toList]; exact hj)
      have qe := entry_at he j
      rw [hen] at qe
      cases hb : ks[j]? with
      | none =>
        rw [hb] at qe
        exact nomatch (show some en = none from qe)
      | some b =>
        rw [hb] at qe
        have e2 : en = entryOfKey (tupleKind (mixKind X.prog X.w)) b := Option.some.inj qe
        rw [hv, e2]
        all_goals rfl
  have eb : acc.toList = (ks.map fun x => x.2.1).map Value.ref := by rw [ea, List.map_map]; all_goals rfl
  have rv : Vals ((ks.map fun x => x.2.1).map V.ref) acc.toList := by rw [eb]; exact vals_refs _
  have ik : IsKeys H kvs (ks.map fun x => x.2.1) := isKeys_of pr
  generalize ks.map (fun x => x.2.1) = bs at eb rv ik
  have hdp : DpAll X.K H (bs.map V.ref) (kvs.map fun kv => keyDt kv.1) := dp_keys ik
  have len := dpAll_len hdp
  have em : ((bs.map V.ref).zip (kvs.map fun kv => keyDt kv.1)).map Prod.snd = kvs.map fun kv => keyDt kv.1 := zip_snd len
  have I1 : Inv X pins σ H { s with heap := h', toks := tk } := I.kept kp
  have e := each_pairs I1 rv hdp
  have hoL : (h'.push (seqObj "list" acc.toList.toArray 0)).get? h'.objs.size = some (seqObj "list" acc.toList.toArray 0) := Heap.get?_push_size _ rfl
  have old : ∀ b u, h'.get? b = some u → (PySem.W.sortingHeap (h'.push (seqObj "list" acc.toList.toArray 0)) h'.objs.size acc.toList).get? b = some u := fun b u hb =>
    PySem.W.sortingHeap_old (Nat.ne_of_lt (Heap.lt_size hb)) (Heap.get?_push_of_some _ hb)
  have er : PySem.W.EachIs (fun (v : Value) (b : V × PyData) => ∃ as, Reads (PySem.W.sortingHeap (h'.push (seqObj "list" acc.toList.toArray 0)) h'.objs.size acc.toList) v b.2 as) acc.toList ((bs.map V.ref).zip (kvs.map fun kv => keyDt kv.1)) :=
    e.mono fun v b h => by
      obtain ⟨as, rr⟩ := Dp.reads I1 b.2 b.1 v h.2 h.1
      exact ⟨as, PyProof.Rows.Reads.keeps old rr⟩
  refine ⟨((bs.map V.ref).zip (kvs.map fun kv => keyDt kv.1)).map Prod.snd, PySem.W.SortsAt.ok (PySem.W.each_map (R := fun v d => ∃ as, Reads (PySem.W.sortingHeap (h'.push (seqObj "list" acc.toList.toArray 0)) h'.objs.size acc.toList) v d as) Prod.snd er) (by rw [em]; exact hal) (.inl ?_) (PySem.W.bound_map ?_), ?_⟩
  · intro d hd
    rw [em] at hd
    obtain ⟨kv, _, rfl⟩ := List.mem_map.mp hd
    exact ⟨_, rfl⟩
  · intro b hb
    have hb := (List.of_mem_zip hb).2
    obtain ⟨kv, _, e⟩ := List.mem_map.mp hb
    have := depth_key kv.1
    rw [← e]
    show X.A.units + 1 + 1 + (keyDt kv.1).depth < cLine
    omega
  · have eo := PySem.W.sortVals_data false e er (by rw [em]; exact hal)
    obtain ⟨o1, o2⟩ := pairs_out eo
    obtain ⟨c, hcc⟩ := PyProof.Rows.sortedHeap_at (vs := acc.toList) (out := (PySem.W.sortVals (PySem.W.dataKind (PySem.W.sortingHeap (h'.push (seqObj "list" acc.toList.toArray 0)) h'.objs.size acc.toList) (((bs.map V.ref).zip (kvs.map fun kv => keyDt kv.1)).map Prod.snd)) false acc.toList acc.toList).toArray) hoL
    have ln : (sortV (bs.map V.ref) (kvs.map fun kv : List Key × V => keyDt kv.1)).length ≤ sizeLine := by
      unfold sortV
      rw [List.length_map, List.length_mergeSort, List.length_zip, len, Nat.min_self, List.length_map]
      omega
    have o1 : Vals (sortV (bs.map V.ref) (kvs.map fun kv : List Key × V => keyDt kv.1)) _ := o1
    refine ⟨.ref h'.objs.size, upd H h'.objs.size (.lst (sortV (bs.map V.ref) (kvs.map fun kv : List Key × V => keyDt kv.1))), I1.laid (t' := tk) (fun b u e => ?_) (Nat.le_refl _) ⟨ln, _, c, o1, hcc⟩, rfl, q _ bs (I1.hok.fresh (Nat.le_refl _)) ik hdp⟩
    have hlt := Heap.lt_size e
    rw [PyProof.Rows.sortedHeap_old (Nat.ne_of_lt hlt) (by rw [size_push']; exact Nat.lt_succ_of_lt hlt)]
    exact Heap.get?_push_of_some _ e
end
end Wb

set_option Elab.async false
set_option linter.all false
set_option maxRecDepth 100000
set_option maxHeartbeats 4000000
/-! Wz1: dicts whose keys are tuples of ints and texts, written ones and built ones alike. -/
namespace Wb
open PySem PySem.Spec PyProof.Rows L2
abbrev FK (P : Program) (w : World) : HeapKind P w (List Key) := tupleKind (mixKind P w)
/-- an entry: its key, where the key stands, its value -/
abbrev En := List Key × Addr × V
def UV : List En → List (List Key × Addr × Value) → Prop := Paired fun p q => p.1 = q.1 ∧ p.2.1 = q.2.1 ∧ RelV p.2.2 q.2.2
def DicH (P : Program) (w : World) (a : Addr) (kvs : List En) (h : Heap) : Prop := kvs.length ≤ sizeLine ∧ (a == sysModules) = false ∧ ∃ us, UV kvs us ∧ ∃ o es ep, h.get? a = some o ∧ o.ExactDict ∧ o.data = .dict es ep ∧ es.toList = us.map (entryOfKey (FK P w)) ∧ (us.map (·.1)).Nodup
/-- the dict at a -/
def DicO (P : Program) (w : World) (a : Addr) (kvs : List En) : HO := .ext (DicH P w a kvs)
def KeyAt (K : PySem.W.Frag) (H : Hp) (k : List Key) (b : Addr) : Prop := SqT K H b (k.map kV)
def KeysAt (K : PySem.W.Frag) (H : Hp) (kvs : List En) : Prop := ∀ p ∈ kvs, KeyAt K H p.1 p.2.1
def atH (kvs : List En) (k : List Key) : Option V := (kvs.find? fun p => decide (p.1 = k)).map (·.2.2)
def putH (kvs : List En) (k : List Key) (b : Addr) (v : V) : List En := if (atH kvs k).isSome = true then kvs.map (fun p => if p.1 = k then (p.1, p.2.1, v) else p) else kvs ++ [(k, b, v)]
theorem dic_new {P : Program} {w : World} {H : Hp} {h : Heap} {a : Addr} {kvs : List En} (R : DicH P w a kvs h) : ObjOk P w H h a (DicO P w a kvs) := by
  have ⟨_, _, _, _, o, _, _, ho, _⟩ := R
  refine ⟨R, ⟨o, ho⟩, fun h1 h2 p k => ?_⟩
  obtain ⟨z, y, us, r, o, es, ep, ho, c⟩ := p
  exact ⟨z, y, us, r, o, es, ep, k o ho, c⟩
theorem UV.at_ {kvs : List En} {us : List (List Key × Addr × Value)} (r : UV kvs us) (k : List Key) : RelO (atH kvs k) ((atKey us k).map (·.2)) := by
  unfold UV at r
  induction r with
  | nil => exact True.intro
  | @cons p q ps qs h t ih =>
    obtain ⟨h1, _, h2⟩ := h
    by_cases e : p.1 = k
    · have e' : q.1 = k := h1.symm.trans e
      have b : atKey (q :: qs) k = some q.2 := by simp [atKey, List.find?_cons, e']
      have c : atH (p :: ps) k = some p.2.2 := by simp [atH, List.find?_cons, e]
      rw [c, b]
      exact h2
    · have e' : ¬ q.1 = k := fun z => e (h1.trans z)
      have b : atKey (q :: qs) k = atKey qs k := by simp [atKey, List.find?_cons, e']
      have c : atH (p :: ps) k = atH ps k := by simp [atH, List.find?_cons, e]
      rw [c, b]
      exact ih
theorem UV.repl {kvs : List En} {us : List (List Key × Addr × Value)} (r : UV kvs us) (k : List Key) {y : V} {u : Value} (ry : RelV y u) :
    UV (kvs.map fun p => if p.1 = k then (p.1, p.2.1, y) else p) (us.map (putAt k u)) := by
  unfold UV at *
  induction r with
  | nil => exact .nil
  | @cons p q ps qs h t ih =>
    rw [List.map_cons, List.map_cons]
    refine .cons ?_ ih
    obtain ⟨h1, h2, h3⟩ := h
    unfold putAt
    by_cases e : p.1 = k
    · rw [if_pos e, if_pos (h1.symm.trans e)]
      exact ⟨h1, h2, ry⟩
    · rw [if_neg e, if_neg (fun z => e (h1.trans z))]
      exact ⟨h1, h2, h3⟩
theorem UV.put {kvs : List En} {us : List (List Key × Addr × Value)} (r : UV kvs us) (k : List Key) {b : Addr} {y : V} {u : Value} (ry : RelV y u) : UV (putH kvs k b y) (storedH us k b u) := by
  have e : (atH kvs k).isSome = (atKey us k).isSome := by rw [(r.at_ k).isSome_eq, Option.isSome_map]
  unfold putH storedH
  rw [e]
  by_cases q : (atKey us k).isSome = true
  · rw [if_pos q, if_pos q]
    exact r.repl k ry
  · rw [if_neg q, if_neg q]
    exact Paired.snoc r ⟨rfl, rfl, ry⟩
theorem len_putH (kvs : List En) (k : List Key) (b : Addr) (v : V) : (putH kvs k b v).length ≤ kvs.length + 1 := by
  unfold putH
  split
  · rw [List.length_map]
    omega
  · simp
theorem KeyAt.same {K : PySem.W.Frag} {H H' : Hp} {k : List Key} {b : Addr} (h : KeyAt K H k b) (s : ∀ a o, H a = some o → H' a = some o) : KeyAt K H' k b := seqT s h
section
variable {X : Cx} {pins : List (Addr × Obj)} {σ : L2.St} {H : Hp} {s : Shared} {a b : Addr} {kvs : List En} {k : List Key} {A : Around} {E : Value → Shared → Prop}
theorem key_is (I : Inv X pins σ H s) (h : KeyAt X.K H k b) : (FK X.prog X.w).is s.heap k b := by
  obtain ⟨its, rv, hT, _⟩ := I.tuple h
  obtain ⟨o, h1, h2, n, h3⟩ := hT
  exact ⟨o, its.toArray, n, h1, h2, h3, by simpa using items_are rv⟩
theorem dic_of (I : Inv X pins σ H s) (ha : H a = some (DicO X.prog X.w a kvs)) (hk : KeysAt X.K H kvs) : kvs.length ≤ sizeLine ∧ (a == sysModules) = false ∧ ∃ us, UV kvs us ∧ s.heap.DictOfH (FK X.prog X.w) a us := by
  obtain ⟨z, y, us, r, o, es, ep, h1, h2, h3, h4, h5⟩ := (I.hok a _ ha).1
  refine ⟨z, y, us, r, o, es, ep, h1, h2, h3, h4, fun x hx => ?_, h5⟩
  have all : ∀ {l : List En} {m : List (List Key × Addr × Value)}, UV l m → (∀ p ∈ l, KeyAt X.K H p.1 p.2.1) → ∀ x ∈ m, (FK X.prog X.w).is s.heap x.1 x.2.1 := by
    intro l m q hl
    unfold UV at q
    induction q with
    | nil => intro x hx; exact nomatch hx
    | @cons p q ps qs hq t ih =>
      intro x hx
      rcases List.mem_cons.mp hx with e | hx
      · subst e
        rw [← hq.1, ← hq.2.1]
        exact key_is I (hl p List.mem_cons_self)
      · exact ih (fun p hp => hl p (List.mem_cons_of_mem _ hp)) x hx
  exact all r hk x hx
/-- d[y] = v -/
theorem h_setItem {v : V} {r : Value} {Q : Unit → Shared → Prop} (hu : A.units + 1 < cLine) (I : Inv X pins σ H s) (ha : H a = some (DicO X.prog X.w a kvs)) (hk : KeysAt X.K H kvs) (hb : KeyAt X.K H k b) (few : kvs.length < sizeLine) (rv : RelV v r)
    (h : ∀ s', Inv X pins σ (upd H a (DicO X.prog X.w a (putH kvs k b v))) s' → Q () s') : wpAny (model X.prog X.w) A (setItem (.ref a) (.ref b) r) Q E s := by
  obtain ⟨z, hd, us, rel, dd⟩ := dic_of I ha hk
  have hz : us.length ≤ sizeLine := by rw [← Paired.length rel]; exact z
  have hl : (putH kvs k b v).length ≤ sizeLine := by have := len_putH kvs k b v; omega
  refine wpAny_setItem_heap (hsz := hz) (tupleKind_room_in1 hu) (key_is I hb) dd fun h' dd' hs => h _ ?_
  obtain ⟨q, es, ep, hq, h2, h3, h4, _, h5⟩ := dd'
  exact d_write I (by rw [ha]; exact True.intro) hs ⟨q, hq⟩ (dic_new ⟨hl, hd, _, rel.put k rv, q, es, ep, hq, h2, h3, h4, h5⟩)
theorem h_getItem {v : V} {Q : Value → Shared → Prop} (hu : A.units + 1 < cLine) (I : Inv X pins σ H s) (ha : H a = some (DicO X.prog X.w a kvs)) (hk : KeysAt X.K H kvs) (hb : KeyAt X.K H k b) (l : atH kvs k = some v)
    (h : ∀ w' s', Inv X pins σ H s' → RelV v w' → Q w' s') : wpAny (model X.prog X.w) A (getItem (.ref a) (.ref b)) Q E s := by
  obtain ⟨z, hd, us, rel, dd⟩ := dic_of I ha hk
  obtain ⟨w', hw, rw'⟩ := RelO.some_of (v := v) (o := (atKey us k).map (·.2)) (by rw [← l]; exact rel.at_ k)
  obtain ⟨p, hp, hp2⟩ := Option.map_eq_some_iff.mp hw
  refine wpAny_getItem_heap (tupleKind_room_in1 hu) (key_is I hb) dd hp ?_
  rw [hp2]
  exact h w' _ (I.tok _) rw'
theorem h_in {Q : Value → Shared → Prop} (hu : A.units + 1 < cLine) (I : Inv X pins σ H s) (ha : H a = some (DicO X.prog X.w a kvs)) (hk : KeysAt X.K H kvs) (hb : KeyAt X.K H k b) (h : ∀ s', Inv X pins σ H s' → Q (.bool (atH kvs k).isSome) s') :
    wpAny (model X.prog X.w) A (compareOp .In (.ref b) (.ref a)) Q E s := by
  obtain ⟨z, hd, us, rel, dd⟩ := dic_of I ha hk
  refine wpAny_in_heap (tupleKind_room_in1 hu) (key_is I hb) hd dd ?_
  have q := (rel.at_ k).isSome_eq
  rw [Option.isSome_map] at q
  rw [← q]
  exact h _ (I.tok _)
theorem h_notIn {Q : Value → Shared → Prop} (hu : A.units + 1 < cLine) (I : Inv X pins σ H s) (ha : H a = some (DicO X.prog X.w a kvs)) (hk : KeysAt X.K H kvs) (hb : KeyAt X.K H k b) (h : ∀ s', Inv X pins σ H s' → Q (.bool (!(atH kvs k).isSome)) s') :
    wpAny (model X.prog X.w) A (compareOp .NotIn (.ref b) (.ref a)) Q E s := by
  obtain ⟨z, hd, us, rel, dd⟩ := dic_of I ha hk
  refine wpAny_notIn_heap (tupleKind_room_in1 hu) (key_is I hb) hd dd ?_
  have q := (rel.at_ k).isSome_eq
  rw [Option.isSome_map] at q
  rw [← q]
  exact h _ (I.tok _)
end
/-! ### as rules -/
/-- {} -/
def tHNew (P : Program) (w : World) : TE := fun _ H Q => ∀ p, H p = none → Q (.ref p) (upd H p (DicO P w p []))
/-- d[y] = v -/
def sHPut (K : PySem.W.Frag) (P : Program) (w : World) (td ty tv : TE) : TS := fun D σ H => tv σ H fun v H1 => td σ H1 fun x H2 => ty σ H2 fun y H3 => ∃ a b kvs k, x = .ref a ∧ y = .ref b ∧ H3 a = some (DicO P w a kvs) ∧ KeysAt K H3 kvs ∧ KeyAt K H3 k b ∧ kvs.length < sizeLine ∧ D.nx σ (upd H3 a (DicO P w a (putH kvs k b v)))
/-- y in d, y not in d -/
def rHIn (K : PySem.W.Frag) (P : Program) (w : World) (neg : Bool) : R2 := fun y x H Q => ∃ a b kvs k, x = .ref a ∧ y = .ref b ∧ H a = some (DicO P w a kvs) ∧ KeysAt K H kvs ∧ KeyAt K H k b ∧ Q (.bl (if neg = true then !(atH kvs k).isSome else (atH kvs k).isSome)) H
section
variable {X : Cx} {o i e value : Expr} {pos pos' : Pos} {td ty tv : TE}
theorem pe_hnew : PE X (.Dict [] [] pos) (tHNew X.prog X.w) := ⟨fun pins s σ H Q I h =>
  wpAny_Dict_empty ⟨.ref s.heap.objs.size, _, I.laid (a := s.heap.objs.size) (o := DicO X.prog X.w s.heap.objs.size []) (t' := s.toks) (fun _ _ q => Heap.get?_push_of_some _ q) (Nat.le_refl _)
    (dic_new ⟨Nat.zero_le _, beq_eq_false_iff_ne.mpr (Ne.symm (Nat.ne_of_lt I.big)), [], .nil, _, #[], 0, Heap.get?_push_size _ rfl, ⟨rfl, rfl, rfl⟩, rfl, rfl, List.nodup_nil⟩), rfl, h _ (I.hok.fresh (Nat.le_refl _))⟩⟩
theorem ps_hput (hu : X.A.units + 1 < cLine) (ho : PE X o td) (hi : PE X i ty) (hv : PE X value tv) (hs : swapsWith value (some (.Subscript o i pos')) pos.line X.env = pure false) :
    PS X (.Assign [.Subscript o i pos'] value pos) (sHPut X.K X.prog X.w td ty tv) := by
  refine ⟨fun pins s σ H D I h => ?_⟩
  refine wpAny_Assign_Subscript (thn (hv.run pins s σ H _ I h) fun r s1 ⟨v, H1, I1, rv, q1⟩ => thn (ho.run pins s1 σ H1 _ I1 q1) fun u s2 ⟨x, H2, I2, rx, q2⟩ => thn (hi.run pins s2 σ H2 _ I2 q2) fun iv s3 ⟨y, H3, I3, ry, a, b, kvs, k, ex, ey, ha, hk, hb, few, q3⟩ => ?_) hs
  subst ex ey
  obtain rfl : u = Value.ref a := rx
  obtain rfl : iv = Value.ref b := ry
  exact h_setItem hu I3 ha hk hb few rv fun s4 I4 => ⟨σ, _, I4, q3⟩
theorem op_hin (hu : X.A.units + 1 < cLine) : OpR X (compareOp .In) (rHIn X.K X.prog X.w false) := by
  intro pins s σ H x y v u Q I rx ry h
  obtain ⟨a, b, kvs, k, rfl, rfl, ha, hk, hb, q⟩ := h
  cases rx
  cases ry
  exact h_in hu I ha hk hb fun s' I' => ⟨.bl (atH kvs k).isSome, H, I', rfl, q⟩
theorem op_hnotIn (hu : X.A.units + 1 < cLine) : OpR X (compareOp .NotIn) (rHIn X.K X.prog X.w true) := by
  intro pins s σ H x y v u Q I rx ry h
  obtain ⟨a, b, kvs, k, rfl, rfl, ha, hk, hb, q⟩ := h
  cases rx
  cases ry
  exact h_notIn hu I ha hk hb fun s' I' => ⟨.bl (!(atH kvs k).isSome), H, I', rfl, q⟩
end
/-! ### sorted -/
def rSortedH (K : PySem.W.Frag) (P : Program) (w : World) : List V → Hp → VK → Prop := fun vs H Q => ∃ (d : Addr) (kvs : List En), vs = [.ref d] ∧ H d = some (DicO P w d kvs) ∧ KeysAt K H kvs ∧ PySem.W.AllAlike (kvs.map fun kv => keyDt kv.1) ∧
  ∀ p, H p = none → Q (.ref p) (upd H p (.lst (sortV (kvs.map fun e => V.ref e.2.1) (kvs.map fun kv => keyDt kv.1))))
theorem uv_addrs {kvs : List En} {us : List (List Key × Addr × Value)} (r : UV kvs us) : us.map (fun x => x.2.1) = kvs.map fun e => e.2.1 := by
  unfold UV at r
  induction r with
  | nil => rfl
  | cons h t ih => rw [List.map_cons, List.map_cons, ih, h.2.1]
theorem dp_ens {K : PySem.W.Frag} {H : Hp} : ∀ {kvs : List En}, KeysAt K H kvs → DpAll K H (kvs.map fun e => V.ref e.2.1) (kvs.map fun kv => keyDt kv.1)
  | [], _ => .nil
  | p :: kvs, h => .cons (.tup (h p List.mem_cons_self) (dp_key _)) (dp_ens fun q hq => h q (List.mem_cons_of_mem _ hq))
section
variable {X : Cx}
theorem cr_sortedH (hc : X.calm = true) (hu : X.A.units + 64 < cLine) : CallR X (.builtin "sorted") (rSortedH X.K X.prog X.w) := by
  intro pins s σ H xs us Q I r h
  obtain ⟨d, kvs, rfl, hd, hka, hal, q⟩ := h
  obtain ⟨u, rfl, rx⟩ := r.one
  cases rx
  obtain ⟨z, hs, ks, pr, o, es, ep, ho, hx, hdt, he, hn⟩ := (I.hok d _ hd).1
  have l1 : es.size = ks.length := size_of_entries he
  have l2 : kvs.length = ks.length := Paired.length pr
  refine PySem.W.sorted_src (kdl_raw hs hx hdt) (I.ok.hd hc) ho (by omega) fun h' tk acc kp it => ?_
  have ea : acc.toList = ks.map fun x => Value.ref x.2.1 := by
    have hl : acc.toList.length = ks.length := by rw [Array.length_toList, it.1]; exact l1
    apply List.ext_getElem?
    intro j
    rw [List.getElem?_map]
    cases hj : acc.toList[j]? with
    | none =>
      have h1 := List.getElem?_eq_none_iff.mp hj
      rw [List.getElem?_eq_none (by omega)]
      all_goals rfl
    | some v =>
      obtain ⟨en, hen, hv⟩ := it.2 j v (by rw [← Array.getElem?_toList]; exact hj)
      have qe := entry_at he j
      rw [hen] at qe
      cases hb : ks[j]? with
      | none =>
        rw [hb] at qe
        exact nomatch (show some en = none from qe)
      | some b =>
        rw [hb] at qe
        have e2 : en = entryOfKey (FK X.prog X.w) b := Option.some.inj qe
        rw [hv, e2]
        all_goals rfl
  have eb : acc.toList = (ks.map fun x => x.2.1).map Value.ref := by rw [ea, List.map_map]; all_goals rfl
  have rv : Vals ((ks.map fun x => x.2.1).map V.ref) acc.toList := by rw [eb]; exact vals_refs _
  have ik : ks.map (fun x => x.2.1) = kvs.map fun e => e.2.1 := uv_addrs pr
  rw [ik] at eb rv
  generalize hbs : kvs.map (fun e => e.2.1) = bs at eb rv
  have hbs' : bs.map V.ref = kvs.map fun e => V.ref e.2.1 := by rw [← hbs, List.map_map]; rfl
  have hdp : DpAll X.K H (bs.map V.ref) (kvs.map fun kv => keyDt kv.1) := by rw [hbs']; exact dp_ens hka
  have len := dpAll_len hdp
  have em : ((bs.map V.ref).zip (kvs.map fun kv => keyDt kv.1)).map Prod.snd = kvs.map fun kv => keyDt kv.1 := zip_snd len
  have I1 : Inv X pins σ H { s with heap := h', toks := tk } := I.kept kp
  have e := each_pairs I1 rv hdp
  have hoL : (h'.push (seqObj "list" acc.toList.toArray 0)).get? h'.objs.size = some (seqObj "list" acc.toList.toArray 0) := Heap.get?_push_size _ rfl
  have old : ∀ b u, h'.get? b = some u → (PySem.W.sortingHeap (h'.push (seqObj "list" acc.toList.toArray 0)) h'.objs.size acc.toList).get? b = some u := fun b u hb =>
    PySem.W.sortingHeap_old (Nat.ne_of_lt (Heap.lt_size hb)) (Heap.get?_push_of_some _ hb)
  have er : PySem.W.EachIs (fun (v : Value) (b : V × PyData) => ∃ as, Reads (PySem.W.sortingHeap (h'.push (seqObj "list" acc.toList.toArray 0)) h'.objs.size acc.toList) v b.2 as) acc.toList ((bs.map V.ref).zip (kvs.map fun kv => keyDt kv.1)) :=
    e.mono fun v b h => by
      obtain ⟨as, rr⟩ := Dp.reads I1 b.2 b.1 v h.2 h.1
      exact ⟨as, PyProof.Rows.Reads.keeps old rr⟩
  refine ⟨((bs.map V.ref).zip (kvs.map fun kv => keyDt kv.1)).map Prod.snd, PySem.W.SortsAt.ok (PySem.W.each_map (R := fun v d => ∃ as, Reads (PySem.W.sortingHeap (h'.push (seqObj "list" acc.toList.toArray 0)) h'.objs.size acc.toList) v d as) Prod.snd er) (by rw [em]; exact hal) (.inl ?_) (PySem.W.bound_map ?_), ?_⟩
  · intro d hd
    rw [em] at hd
    obtain ⟨kv, _, rfl⟩ := List.mem_map.mp hd
    exact ⟨_, rfl⟩
  · intro b hb
    have hb := (List.of_mem_zip hb).2
    obtain ⟨kv, _, e⟩ := List.mem_map.mp hb
    have := depth_key kv.1
    rw [← e]
    show X.A.units + 1 + 1 + (keyDt kv.1).depth < cLine
    omega
  · have eo := PySem.W.sortVals_data false e er (by rw [em]; exact hal)
    obtain ⟨o1, o2⟩ := pairs_out eo
    obtain ⟨c, hcc⟩ := PyProof.Rows.sortedHeap_at (vs := acc.toList) (out := (PySem.W.sortVals (PySem.W.dataKind (PySem.W.sortingHeap (h'.push (seqObj "list" acc.toList.toArray 0)) h'.objs.size acc.toList) (((bs.map V.ref).zip (kvs.map fun kv => keyDt kv.1)).map Prod.snd)) false acc.toList acc.toList).toArray) hoL
    have ln : (sortV (bs.map V.ref) (kvs.map fun kv : En => keyDt kv.1)).length ≤ sizeLine := by
      unfold sortV
      rw [List.length_map, List.length_mergeSort, List.length_zip, len, Nat.min_self, List.length_map]
      omega
    have o1 : Vals (sortV (bs.map V.ref) (kvs.map fun kv : En => keyDt kv.1)) _ := o1
    refine ⟨.ref h'.objs.size, upd H h'.objs.size (.lst (sortV (bs.map V.ref) (kvs.map fun kv : En => keyDt kv.1))), I1.laid (t' := tk) (fun b u e => ?_) (Nat.le_refl _) ⟨ln, _, c, o1, hcc⟩, rfl, hbs' ▸ q _ (I1.hok.fresh (Nat.le_refl _))⟩
    have hlt := Heap.lt_size e
    rw [PyProof.Rows.sortedHeap_old (Nat.ne_of_lt hlt) (by rw [size_push']; exact Nat.lt_succ_of_lt hlt)]
    exact Heap.get?_push_of_some _ e
end
end Wb

set_option Elab.async false
set_option linter.all false
set_option maxRecDepth 100000
set_option maxHeartbeats 4000000
/-! Ta1: the dicts by which a tally is told. -/
namespace Ta
open PySem PySem.Spec PyProof.Rows L2 Wb
theorem last_snoc (l : List Lt) (x : Lt) (n : Int) : last (l ++ [x]) n = if x.1 = n then max x.2.1 (last l n) else last l n := by
  unfold last
  rw [List.foldl_append]
  rfl
theorem last_none {l : List Lt} {n : Int} (h : n ∉ nums l) : last l n = 0 := by
  rcases (last_from n l 0).2.2 with e | ⟨x, hx, e1, _⟩
  · exact e
  · exact absurd (List.mem_map.mpr ⟨x, hx, e1⟩) h
theorem nums_snoc (l : List Lt) (x : Lt) : nums (l ++ [x]) = nums l ++ [x.1] := by unfold nums; rw [List.map_append]; rfl
/-- numbers by what stands for them -/
def byN (f : Int → V) (ns : List Int) : List (Key × V) := ns.map fun n => (.inl n, f n)
theorem val_byN {f : Int → V} {n : Int} : ∀ {ns : List Int}, valV (byN f ns) (.inl n) = if n ∈ ns then some (f n) else none
  | [] => rfl
  | m :: ns => by
    by_cases e : m = n
    · subst e
      rw [if_pos List.mem_cons_self]
      exact valV_pos rfl
    · have e1 : ¬ (Sum.inl m : Key) = .inl n := fun z => e (Sum.inl.inj z)
      have : valV (byN f (m :: ns)) (.inl n) = valV (byN f ns) (.inl n) := valV_neg e1
      rw [this, val_byN]
      by_cases h : n ∈ ns
      · rw [if_pos h, if_pos (List.mem_cons_of_mem _ h)]
      · rw [if_neg h, if_neg fun z => (List.mem_cons.mp z).elim (fun z => e z.symm) h]
theorem put_byN {f g : Int → V} {ns : List Int} {n : Int} {v : V} (hv : g n = v) (hf : ∀ m, m ≠ n → g m = f m) : putK (byN f ns) (.inl n) v = byN g (add1 ns n) := by
  unfold add1
  by_cases h : n ∈ ns
  · rw [if_pos h]
    unfold putK
    rw [if_pos (by rw [valV_any, val_byN, if_pos h]; rfl)]
    unfold byN
    rw [List.map_map]
    refine List.map_congr_left fun m _ => ?_
    by_cases e : m = n
    · subst e
      show (if (Sum.inl m : Key) = .inl m then ((Sum.inl m : Key), v) else _) = _
      rw [if_pos rfl, hv]
    · show (if (Sum.inl m : Key) = .inl n then _ else ((Sum.inl m : Key), f m)) = _
      rw [if_neg fun z => e (Sum.inl.inj z), hf m e]
  · rw [if_neg h, putK_new _ (by rw [val_byN, if_neg h])]
    unfold byN
    rw [List.map_append]
    congr 1
    · refine List.map_congr_left fun m hm => ?_
      rw [hf m fun e => h (e ▸ hm)]
    · rw [List.map_cons, hv]
      rfl
/-- the last editions, as they are met -/
def eds (l : List Lt) : List (Key × V) := byN (fun n => .int (last l n)) (once (nums l))
theorem get_eds (l : List Lt) (n : Int) : (valV (eds l) (.inl n)).getD (.int 0) = .int (last l n) := by
  unfold eds
  rw [val_byN]
  by_cases h : n ∈ nums l
  · rw [if_pos (mem_once.mpr h)]
    rfl
  · rw [if_neg fun z => h (mem_once.mp z), last_none h]
    rfl
theorem put_eds (l : List Lt) (x : Lt) : putK (eds l) (.inl x.1) (.int (max x.2.1 (last l x.1))) = eds (l ++ [x]) := by
  unfold eds
  rw [nums_snoc, once_snoc]
  refine put_byN ?_ fun m e => ?_
  · show V.int (last (l ++ [x]) x.1) = _
    rw [last_snoc, if_pos rfl]
  · show V.int (last (l ++ [x]) m) = _
    rw [last_snoc, if_neg fun z => e z.symm]
theorem eds_len (l : List Lt) : (eds l).length ≤ l.length := by
  unfold eds byN
  rw [List.length_map]
  exact Nat.le_trans (once_len _) (by unfold nums; rw [List.length_map]; exact Nat.le_refl _)
theorem val_eds {l : List Lt} {n : Int} (h : n ∈ nums l) : valV (eds l) (.inl n) = some (.int (last l n)) := by
  unfold eds
  rw [val_byN, if_pos (mem_once.mpr h)]
/-- the words of a number that were met among t, of its last edition among ls -/
def met (ls t : List Lt) (n : Int) : List Wd := once ((t.filter fun x => decide (x.1 = n ∧ x.2.1 = last ls n)).map (·.2.2))
theorem met_all (ls : List Lt) (n : Int) : met ls ls n = once (wordsOf ls n) := rfl
theorem met_snoc (ls t : List Lt) (x : Lt) (n : Int) : met ls (t ++ [x]) n = if x.1 = n ∧ x.2.1 = last ls n then add1 (met ls t n) x.2.2 else met ls t n := by
  unfold met
  rw [List.filter_append, List.map_append]
  by_cases h : x.1 = n ∧ x.2.1 = last ls n
  · rw [if_pos h]
    have : [x].filter (fun x => decide (x.1 = n ∧ x.2.1 = last ls n)) = [x] := by
      rw [List.filter_cons, if_pos (decide_eq_true h)]
      rfl
    rw [this]
    exact once_snoc _ _
  · rw [if_neg h]
    have : [x].filter (fun x => decide (x.1 = n ∧ x.2.1 = last ls n)) = [] := by
      rw [List.filter_cons, if_neg (fun z => h (of_decide_eq_true z))]
      rfl
    rw [this, List.map_nil, List.append_nil]
/-- a word as a key -/
def wk (w : Wd) : List Key := w.map .inl
theorem wk_inj {u w : Wd} (h : wk u = wk w) : u = w := by
  unfold wk at h
  exact (List.map_inj_right fun a b e => Sum.inl.inj e).mp h
/-- a dict of words, each with True -/
structure Ws (K : PySem.W.Frag) (B : Hp) (ws : List Wd) (kvs : List En) : Prop where
  keys : kvs.map (·.1) = ws.map wk
  vals : ∀ p ∈ kvs, p.2.2 = .bl true
  at_ : KeysAt K B kvs
theorem Ws.nil {K : PySem.W.Frag} {B : Hp} : Ws K B [] [] := ⟨rfl, fun p h => (nomatch h), fun p h => (nomatch h)⟩
theorem atH_some {kvs : List En} {k : List Key} : (atH kvs k).isSome = true ↔ k ∈ kvs.map (·.1) := by
  unfold atH
  rw [Option.isSome_map, List.find?_isSome, List.mem_map]
  exact ⟨fun ⟨x, hx, e⟩ => ⟨x, hx, of_decide_eq_true e⟩, fun ⟨x, hx, e⟩ => ⟨x, hx, decide_eq_true e⟩⟩
theorem Ws.put {K : PySem.W.Frag} {B : Hp} {ws : List Wd} {kvs : List En} (h : Ws K B ws kvs) {w : Wd} {b : Addr} (hb : KeyAt K B (wk w) b) : Ws K B (add1 ws w) (putH kvs (wk w) b (.bl true)) := by
  unfold add1 putH
  have e : (atH kvs (wk w)).isSome = true ↔ w ∈ ws := by
    rw [atH_some, h.keys, List.mem_map]
    exact ⟨fun ⟨u, hu, e⟩ => wk_inj e ▸ hu, fun hu => ⟨w, hu, rfl⟩⟩
  by_cases q : w ∈ ws
  · rw [if_pos q, if_pos (e.mpr q)]
    have same : kvs.map (fun p => if p.1 = wk w then (p.1, p.2.1, V.bl true) else p) = kvs := by
      refine (List.map_congr_left fun p hp => ?_).trans (List.map_id _)
      split
      · rw [← h.vals p hp]
        rfl
      · rfl
    rw [same]
    exact h
  · rw [if_neg q, if_neg fun z => q (e.mp z)]
    refine ⟨by rw [List.map_append, List.map_append, h.keys]; rfl, fun p hp => ?_, fun p hp => ?_⟩
    · rcases List.mem_append.mp hp with hp | hp
      · exact h.vals p hp
      · rw [List.mem_singleton] at hp
        rw [hp]
    · rcases List.mem_append.mp hp with hp | hp
      · exact h.at_ p hp
      · rw [List.mem_singleton] at hp
        rw [hp]
        exact hb
theorem Ws.mono {K : PySem.W.Frag} {B B' : Hp} {ws : List Wd} {kvs : List En} (h : Ws K B ws kvs) (s : ∀ a o, B a = some o → B' a = some o) : Ws K B' ws kvs := ⟨h.keys, h.vals, fun p hp => (h.at_ p hp).same s⟩
theorem Ws.len {K : PySem.W.Frag} {B : Hp} {ws : List Wd} {kvs : List En} (h : Ws K B ws kvs) : kvs.length = ws.length := by
  have := congrArg List.length h.keys
  rwa [List.length_map, List.length_map] at this
end Ta

set_option Elab.async false
set_option linter.all false
set_option maxRecDepth 100000
set_option maxHeartbeats 4000000
/-! We0: == and != of instances by an own __eq__, whatever it answers. -/
namespace Wv
open PySem PySem.Spec PyProof.Rows L2 Wb
section
variable {P : Program} {w : World} {K : PySem.W.Frag} {mg : Str → Option Value} {base : Heap}
/-- the own == of the class at C -/
def CalE (P : Program) (w : World) (K : PySem.W.Frag) (mg : Str → Option Value) (base : Heap) (n : Nat) (C : Addr) (S : Sp) : Prop := ∃ (f : Addr) (fd : FuncData), FnOk P w K mg base CX0 n f fd ["self", "other"] S ∧ PySem.W.findIn K (.ref C) "__eq__" = some (some (.ref f)) ∧ PySem.W.isFn K (.ref f) = true ∧ Binds K fd ["self", "other"] []
/-- no own != -/
def NoNe (K : PySem.W.Frag) (C : Addr) : Prop := PySem.W.findIn K (.ref C) "__ne__" = some (some (.builtin "object.__ne__"))
def rEqI (C : Addr) (S : Sp) : R2 := fun x y H Q => ∃ a b dx dy fs gs, x = .ref a ∧ y = .ref b ∧ H a = some (.ins C dx fs) ∧ H b = some (.ins C dy gs) ∧ S [x, y] H (fun v H' => ∃ t, v = .bl t ∧ Q (.bl t) H') E0
def rNeI (C : Addr) (S : Sp) : R2 := fun x y H Q => ∃ a b dx dy fs gs, x = .ref a ∧ y = .ref b ∧ H a = some (.ins C dx fs) ∧ H b = some (.ins C dy gs) ∧ S [x, y] H (fun v H' => ∃ t, v = .bl t ∧ Q (.bl (!t)) H') E0
end
section
variable {X : Cx} {n : Nat} {C : Addr} {S : Sp}
/-- the own == runs -/
theorem eq_runs {A : Around} {pins : List (Addr × Obj)} {σ : L2.St} {H : Hp} {s : Shared} {a b f : Addr} {fd : FuncData} {G : Bool → Hp → Prop} {R : Value → Shared → Prop}
    (F : FnOk X.prog X.w X.K X.mg X.base CX0 n f fd ["self", "other"] S) (hb : Binds X.K fd ["self", "other"] []) (hr : Room n A) (hfr : A.frames = X.A.frames) (I : Inv X pins σ H s)
    (hs : S [.ref a, .ref b] H (fun v H' => ∃ t, v = .bl t ∧ G t H') E0) (k : ∀ t H' s', G t H' → Inv X pins σ H' s' → R (.bool t) s') :
    wpAny (model X.prog X.w) A (call (.ref f) [.ref a, .ref b]) R X.xe s := by
  have e0 : Env0 X.prog X.w X.K X.mg X.base A X.stack s H := by
    have e := I.env0
    exact ⟨by rw [hfr]; exact e.frames, e.mod, e.bs, e.bsz, e.funs, e.frf, e.hok, e.bare⟩
  have hl := F.len _ _ _ _ hs
  have r2 : Vals [V.ref a, V.ref b] [Value.ref a, Value.ref b] := .cons rfl (.cons rfl .nil)
  refine wpAny_call (codeAny_mono (F.run A X.stack s H ⟨[.ref a, .ref b], []⟩ [.ref a, .ref b] [.ref a, .ref b] _ E0 hr e0 (by
    have := hb s [.ref a, .ref b] I.kIn (by simpa using hl)
    simpa using this) r2 hs) fun r s' hq => ?_)
  cases r with
  | error e => exact pass0 (X := X) pins σ H s e s' I hq
  | ok fl =>
    cases fl with
    | ret w =>
      obtain ⟨z, H', I', rz, t, ez, g⟩ := I.after hq
      subst ez
      cases rz
      exact k t H' s' g I'
    | next => exact False.elim hq
    | brk => exact False.elim hq
    | cont => exact False.elim hq
theorem op_eqC (c : CalE X.prog X.w X.K X.mg X.base n C S) (hr : Room n X.A) : OpR X (compareOp .Eq) (rEqI C S) := by
  intro pins s σ H x y v u Q I rx ry hq
  obtain ⟨a, b, dx, dy, fs, gs, rfl, rfl, ha, hb', hS⟩ := hq
  obtain ⟨f, fd, F, hs, hf, hb⟩ := c
  cases rx
  cases ry
  obtain ⟨mA, J, _⟩ := ins_get I.hok ha
  obtain ⟨mB, J', _⟩ := ins_get I.hok hb'
  obtain ⟨od, J, _⟩ := J.look
  obtain ⟨od', J', _⟩ := J'.look
  obtain ⟨m, hF⟩ := I.fr
  show wpAny (model X.prog X.w) X.A (richCompare .Eq (.ref a) (.ref b)) (EP X pins σ Q) X.xe s
  refine PySem.W.cmp_K (op := .Eq) (tb := .ref C) hr.units0 hF I.ok.mod.kin J J'.type (by simp [PySem.W.notFirst]) hs hf ?_
  exact eq_runs F hb hr rfl I hS fun t H' s' g I' => ⟨.bl t, H', I', rfl, g⟩
/-- a builtin of the type object, looked up on an instance -/
theorem ifBound_B {M : Model} {A : Around} {E : Value → Shared → Prop} {s : Shared} {K : PySem.W.Frag} {x C : Addr} {ox : Obj} {od : Option Obj} {name : Str} {id : String} {args : List Value} {Q : Option Value → Shared → Prop} (Y : K.In s.heap) (I : PySem.W.InstAt s.heap x ox C od) (hs : PySem.W.findIn K (.ref C) name = some (some (.builtin id))) (hb : bindSpecial (.builtin id) (.ref x) = pure (.builtin id, [.ref x]))
    (h : wpAny M A (call (.builtin id) (.ref x :: args)) (fun v => Q (some v)) E s) : wpAny M A (callSpecialIfBound? (.ref x) name args) Q E s := by
  simp only [callSpecialIfBound?, bindSpecialIfBound?]
  refine wpAny_holding (wpAny_bind (wpAny_bind (wpAny_bind (I.type.here ((PySem.W.looks_findIn Y hs).here ?_)))))
  refine wpAny_bind (wpAny_askSetting (wpAny_ite ?_))
  have fin : wpAny M A (call (.builtin id) ([.ref x] ++ args) >>= fun v => pure (some v)) Q E s := wpAny_bind (wpAny_mono h (fun v s' h' => wpAny_pure h') fun _ _ h' => h')
  rw [hb]
  split
  · exact wpAny_bind (wpAny_pure (wpAny_pure (by exact fin)))
  · exact wpAny_tryCatch (wpAny_bind (wpAny_pure (wpAny_pure (by exact fin))))
theorem ne_bind (self : Value) : bindSpecial (.builtin "object.__ne__") self = pure (.builtin "object.__ne__", [self]) :=
  (Slot.of (T := "object") (name := "__ne__") (owner := "object") (n := "__ne__") (by rw [typeLookup_type, builtinLookup_eq_fast]; kernel_rfl) (by decide +kernel) (by decide +kernel) (by decide +kernel)
    (.inl (by decide +kernel)) (by rw [isSubtype_type]; kernel_rfl)).bind self
theorem ne_plain : plainId "object.__ne__" = true := by decide +kernel
theorem objNe_K {A : Around} {E : Value → Shared → Prop} {s : Shared} {prog : Program} {w : World} {K : PySem.W.Frag} {x C f b : Addr} {ox : Obj} {od : Option Obj} {Q : PySem.Fin → Shared → Prop} (hu : A.units < cLine) (Y : K.In s.heap) (I : PySem.W.InstAt s.heap x ox C od)
    (hs : PySem.W.findIn K (.ref C) "__eq__" = some (some (.ref f))) (hf : PySem.W.isFn K (.ref f) = true)
    (hcall : wpAny (model prog w) A (call (.ref f) [.ref x, .ref b]) (fun v s' => ∃ t, v = .bool t ∧ Q (.done (.ret (.bool (!t)))) s') E s) : wpAny (model prog w) A (Builtin.«object.__ne__» ⟨[.ref x, .ref b], []⟩) Q E s := by
  unfold Builtin.«object.__ne__»
  repeat (first
    | with_reducible refine wpAny_cRoomFor hu ?_
    | (refine wpAny_bind (m := callSpecialIfBound? (.ref x) (Str.ofString "__eq__") [.ref b])
        (PySem.W.ifBound_K Y I hs hf (wpAny_mono hcall (fun r s' hr => by
          obtain ⟨t, rfl, hq⟩ := hr
          repeat (first | exact hq | exact wpAny_pure hq | exact wpAny_truthy_bool hq | (refine wpAny_bind (m := truthy (.bool _)) (wpAny_truthy_bool ?_)) | wp_step)) fun _ _ e => e)))
    | wp_step)
/-- != by an own == alone -/
theorem cmp_KN {A : Around} {E : Value → Shared → Prop} {s : Shared} {prog : Program} {w : World} {K : PySem.W.Frag} {h₀ : Heap} {L : Addr} {m : Str → Option Value} {x C f b : Addr} {ox ob : Obj} {od od' : Option Obj} {Q : Value → Shared → Prop} (hu : A.units + 1 < cLine)
    (FR : Fr h₀ L s.heap m) (X₀ : K.In h₀) (I : PySem.W.InstAt s.heap x ox C od) (I' : PySem.W.InstAt s.heap b ob C od')
    (hn : PySem.W.findIn K (.ref C) "__ne__" = some (some (.builtin "object.__ne__"))) (ho : PySem.W.mroIn K C (.type "object") = some true)
    (hs : PySem.W.findIn K (.ref C) "__eq__" = some (some (.ref f))) (hf : PySem.W.isFn K (.ref f) = true)
    (h : wpAny (model prog w) A.in1 (call (.ref f) [.ref x, .ref b]) (fun v s' => ∃ t, v = .bool t ∧ Q (.bool (!t)) s') E s) : wpAny (model prog w) A (richCompare .NotEq (.ref x) (.ref b)) Q E s := by
  have Y := X₀.keeps FR.keep
  have sub : PySem.W.Looks (model prog w) s.heap (isInstance (.ref x) (.type "object")) true := I.type.andThen (PySem.W.looks_mroIn Y ho)
  have one : wpAny (model prog w) A (tryCompare (.ref x) "__ne__" (.ref b)) (fun r s' => ∃ v, r = some v ∧ Q v s') E s := by
    simp only [tryCompare]
    refine wpAny_bind (ifBound_B Y I hn (ne_bind _) (wpAny_call (codeAny_call_builtin ne_plain F.cmpEntry_ne (PySem.W.check_slot F.cmpKind_ne F.cmpSplit_ne sub (F.cmpArgs_ne _ _) ?_))))
    refine objNe_K (A := A.in1) hu Y I hs hf (wpAny_mono h (fun v s' hv => ?_) fun _ _ e => e)
    obtain ⟨t, rfl, hq⟩ := hv
    have hq : ∃ v, some (Value.bool !t) = some v ∧ Q v s' := ⟨_, rfl, hq⟩
    first | exact ⟨t, rfl, wpAny_pure hq⟩ | exact ⟨t, rfl, wpAny_pure (wpAny_pure hq)⟩ | exact ⟨t, rfl, hq⟩
  unfold richCompare
  simp only [oneThing_ref]
  refine wpAny_holding (wpAny_bind (wpAny_cRoomFor (Nat.lt_of_succ_lt hu) ?_))
  rw [cmpInfo_NotEq]
  dsimp only
  refine wpAny_bind (I.type.here (wpAny_bind (I'.type.here ?_)))
  rw [show (Value.ref C != Value.ref C) = false from by simp]
  simp only [Bool.false_eq_true, if_false]
  refine wpAny_bind (wpAny_pure ?_)
  simp only [Bool.false_eq_true, if_false]
  refine wpAny_bind (wpAny_mono one (fun r s' z => ?_) fun _ _ e => e)
  obtain ⟨v, rfl, hq⟩ := z
  exact wpAny_pure hq
theorem mro_obj {K : PySem.W.Frag} {C : Addr} (c : Cls K C) : PySem.W.mroIn K C (.type "object") = some true := by
  obtain ⟨cd, hc, ho⟩ := PySem.W.any_some c.po
  have ne : cd.mro.isEmpty = false := by
    cases q : cd.mro with
    | nil => rw [q] at ho; cases ho
    | cons _ _ => rfl
  unfold PySem.W.mroIn
  rw [hc, Option.bind_some, if_neg (by rw [ne]; decide), PySem.W.only_has ho]
theorem op_neC (c : CalE X.prog X.w X.K X.mg X.base n C S) (cl : Cls X.K C) (ne : NoNe X.K C) (hr : Room (n + 1) X.A) : OpR X (compareOp .NotEq) (rNeI C S) := by
  intro pins s σ H x y v u Q I rx ry hq
  obtain ⟨a, b, dx, dy, fs, gs, rfl, rfl, ha, hb', hS⟩ := hq
  obtain ⟨f, fd, F, hs, hf, hb⟩ := c
  cases rx
  cases ry
  obtain ⟨mA, J, _⟩ := ins_get I.hok ha
  obtain ⟨mB, J', _⟩ := ins_get I.hok hb'
  obtain ⟨od, J, _⟩ := J.look
  obtain ⟨od', J', _⟩ := J'.look
  obtain ⟨m, hF⟩ := I.fr
  show wpAny (model X.prog X.w) X.A (richCompare .NotEq (.ref a) (.ref b)) (EP X pins σ Q) X.xe s
  refine cmp_KN hr.in1.units0 hF I.ok.mod.kin J J' ne (mro_obj cl) hs hf ?_
  exact eq_runs (A := X.A.in1) F hb hr.in1 rfl I hS fun t H' s' g I' => ⟨t, rfl, .bl (!t), H', I', rfl, g⟩
end
section
variable {C : Addr} {B : Hp} {R R' : Rel} {α : Type} {args : α → List Rel} {pre : α → Prop} {res : α → Rel} {K : PySem.W.Frag}
/-- what is an instance of the class at C -/
class IsIns (C : Addr) (R : Rel) : Prop where
  ins : ∀ {B v}, R B v → ∃ a dx fs, v = .ref a ∧ B a = some (.ins C dx fs)
theorem Rv.eqIns [i : IsIns C R] [j : IsIns C R'] {t : Bool} (a : α) (hp : pre a) (ha : ∀ B x y, R B x → R' B y → AllR (args a) B [x, y]) (hr : res a = dat K (.bool t)) : Rv (rEqI C (Pf args pre res)) B R R' (dat K (.bool t)) := fun x y B1 H s1 s2 hx hy Q q => by
  obtain ⟨b, dx, fs, rfl, hb⟩ := i.ins hx
  obtain ⟨c, dy, gs, rfl, hc⟩ := j.ins hy
  refine ⟨b, c, dx, dy, fs, gs, rfl, rfl, s2 _ _ hb, s2 _ _ hc, B1, a, s2, ha _ _ _ hx hy, hp, fun v B' H' e hv => ?_⟩
  rw [hr] at hv
  have : v = .bl t := dat_bl hv
  exact ⟨t, this, q _ B' H' e (this ▸ hv)⟩
theorem Rv.neIns [i : IsIns C R] [j : IsIns C R'] {t : Bool} (a : α) (hp : pre a) (ha : ∀ B x y, R B x → R' B y → AllR (args a) B [x, y]) (hr : res a = dat K (.bool t)) : Rv (rNeI C (Pf args pre res)) B R R' (dat K (.bool (!t))) := fun x y B1 H s1 s2 hx hy Q q => by
  obtain ⟨b, dx, fs, rfl, hb⟩ := i.ins hx
  obtain ⟨c, dy, gs, rfl, hc⟩ := j.ins hy
  refine ⟨b, c, dx, dy, fs, gs, rfl, rfl, s2 _ _ hb, s2 _ _ hc, B1, a, s2, ha _ _ _ hx hy, hp, fun v B' H' e hv => ?_⟩
  rw [hr] at hv
  have : v = .bl t := dat_bl hv
  exact ⟨t, this, q _ B' H' e (.bl _)⟩
instance {C : Addr} {fs : List (Str × Rel)} : IsIns C (insR C fs) := ⟨fun ⟨a, dx, us, e, h, _⟩ => ⟨a, dx, us, e, h⟩⟩
end
end Wv

set_option Elab.async false
set_option linter.all false
set_option maxRecDepth 100000
set_option maxHeartbeats 4000000
/-! Wy0: things of one's own that change while a def runs (hidden: in H, not in B). -/
namespace Wv
open PySem PySem.Spec PyProof.Rows L2 Wb
theorem lt1 {a b : Nat} (h : a + 64 < b) : a + 1 < b := by omega
/-- at a stands o, and nobody else knows of it -/
structure Hid (B H : Hp) (a : Addr) (o : HO) : Prop where
  at_ : H a = some o
  no : B a = none
section
variable {B H B' H' B0 H0 : Hp} {a b : Addr} {o u : HO}
theorem Hid.ext (m : Hid B H a o) (e : Ext B H B' H') : Hid B' H' a o := ⟨e.hh _ _ m.at_, e.nw a (by rw [m.at_]; exact fun z => nomatch z) m.no⟩
theorem none_of (s : Same B H) (h : H a = none) : B a = none := by
  cases q : B a with
  | none => rfl
  | some x => rw [s _ _ q] at h; cases h
theorem Ext.newH (s : Same B H) (h : H a = none) : Ext B H B (upd H a o) := ⟨new_same h, Same.refl _, s.trans (new_same h), fun _ _ z => z⟩
theorem Hid.new (s : Same B H) (h : H a = none) : Hid B (upd H a o) a o := ⟨upd_same, none_of s h⟩
theorem Hid.set (m : Hid B H a o) : Hid B (upd H a u) a u := ⟨upd_same, m.no⟩
theorem Hid.other (m : Hid B H b u) (n : b ≠ a) : Hid B (upd H a o) b u := ⟨(upd_ne n).trans m.at_, m.no⟩
theorem Ext.setH (e : Ext B0 H0 B H) (m : Hid B H a o) (h : H0 a = none) : Ext B0 H0 B (upd H a u) :=
  ⟨fun b x z => by
    rw [upd_ne (ne_of_none z h)]
    exact e.hh b x z, e.bb, fun b x z => by
    rw [upd_ne (ne_of_none z m.no)]
    exact e.bh b x z, e.nw⟩
theorem Ext.settleH (e : Ext B0 H0 B H) (m : Hid B H a o) (h : H0 a = none) (n : B0 a = none) : Ext B0 H0 (upd B a o) H :=
  ⟨e.hh, fun b x z => by
    rw [upd_ne (ne_of_none z n)]
    exact e.bb b x z, fun b x z => by
    by_cases q : b = a
    · subst q
      rw [upd_same] at z
      cases z
      exact m.at_
    · rw [upd_ne q] at z
      exact e.bh b x z, fun b h1 h2 => by
    by_cases q : b = a
    · subst q
      exact absurd h h1
    · rw [upd_ne q]
      exact e.nw b h1 h2⟩
theorem Ext.oldH (e : Ext B0 H0 B H) (h : H a = none) : H0 a = none := by
  cases q : H0 a with
  | none => rfl
  | some x => rw [e.hh _ _ q] at h; cases h
end
/-- what is wanted behind a turn -/
def Nh (B0 H0 B1 : Hp) (P : L2.St → Hp → Hp → Prop) : L2.St → Hp → Prop := fun σ H' => ∃ B', Ext B0 H0 B' H' ∧ Same B1 B' ∧ P σ B' H'
theorem s_forX {σ : L2.St} {wi : TI} {g : TG} {ts rest : TS} {D : Ends} {Rs : List Rel} {B H B0 H0 : Hp} (e0 : Ext B0 H0 B H) (hi : Di wi σ B Rs) (Pv : Nat → L2.St → Hp → Hp → Prop) (h0 : ∀ B1 H1, Ext B H B1 H1 → Pv 0 σ B1 H1)
    (hs : ∀ B1 i R v σ' Bc Hc Bn Hn, Same B B1 → Rs[i]? = some R → Ext B0 H0 Bc Hc → Same B1 Bc → Pv i σ' Bc Hc → Ext Bc Hc Bn Hn → R Bn v → g v σ' Hn fun σ2 H2 => ts { D with nx := Nh B0 H0 B1 (Pv (i + 1)), ct := Nh B0 H0 B1 (Pv (i + 1)), bk := rest D } σ2 H2)
    (hd : ∀ σ' B' H', Ext B0 H0 B' H' → Same B B' → Pv Rs.length σ' B' H' → rest D σ' H') : tSeq (tFor wi g ts) rest D σ H :=
  hi B H (Same.refl _) e0.bh _ fun J B1 H1 e hw => by
    have := for_it hw (D := { D with nx := rest D }) (g := g) (tb := ts) (fun i => Nh B0 H0 B1 (Pv i)) ⟨B1, e0.trans e, Same.refl _, h0 B1 H1 e⟩ (fun i σ' H' _ ⟨B', s1, s2, _⟩ => s2.trans s1.bh)
      (fun i x σ' H' H'' hi ⟨Bc, s1, s2, p⟩ ⟨R, hR, y⟩ => by
        obtain ⟨Bn, e2, hx⟩ := y Bc s2 s1.bh
        exact hs B1 i R x σ' Bc H' Bn H'' e.bb hR s1 s2 p e2 hx)
      (fun σ' H' ⟨B', s1, s2, p⟩ => hd σ' B' H' s1 (e.bb.trans s2) p)
    exact this
/-- a triple taken apart -/
theorem gTup3 {K : PySem.W.Frag} {Bn H : Hp} {v : V} {R S T : Rel} {σ1 : L2.St} {i j l : Nat} (s : Same Bn H) (h : tupR K [R, S, T] Bn v) : ∃ x y z, R Bn x ∧ S Bn y ∧ T Bn z ∧ ∀ Q : L2.St → Hp → Prop, Q (((σ1.set i (some x)).set j (some y)).set l (some z)) H → gTup K 3 (gCons (gName i) (gCons (gName j) (gCons (gName l) gNil))) v σ1 H Q := by
  obtain ⟨a, xs, rfl, hs, x, r, rfl, hx, y, r', rfl, hy, z, r2, rfl, hz, hr⟩ := h
  have hr : r2 = [] := hr
  subst hr
  exact ⟨x, y, z, hx, hy, hz, fun Q q => ⟨a, _, rfl, seqT s hs, rfl, x, [y, z], rfl, y, [z], rfl, z, [], rfl, rfl, q⟩⟩
section
variable {K : PySem.W.Frag} {σ : L2.St} {B : Hp} {ta tb : TE} {R S T : Rel}
/-- d[k], of a dict that stays -/
def dicR (a : Addr) (kvs : List (Key × V)) : Rel := fun B v => v = .ref a ∧ B a = some (.dK kvs)
instance {a : Addr} {kvs : List (Key × V)} : Mo (dicR a kvs) := ⟨fun s ⟨e, h⟩ => ⟨e, s _ _ h⟩⟩
theorem De.dget {a : Addr} {kvs : List (Key × V)} {n : Int} {v : V} [m : Mo R] (hd : De ta σ B (dicR a kvs)) (hk : De tb σ B (dat K (.int n))) (l : valV kvs (.inl n) = some v) (hv : R B v) : De (tDGet ta tb) σ B R := fun B1 H s1 s2 Q q =>
  hd B1 H s1 s2 _ fun x B2 H2 e hx => hk B2 H2 (s1.trans e.bb) e.bh _ fun y B3 H3 e2 hy => by
    obtain ⟨rfl, ha⟩ := hx
    have := dat_int hy
    subst this
    exact ⟨a, v, rfl, DGet.k (k := .inl n) (e2.bh _ _ (e2.bb _ _ ha)) |> (l ▸ ·), q v B3 H3 (e.trans e2) (m.mo ((s1.trans e.bb).trans e2.bb) hv)⟩
end
end Wv

set_option Elab.async false
set_option linter.all false
set_option maxRecDepth 100000
set_option maxHeartbeats 4000000
/-! Wy1: {n: {} for n in d}. -/
namespace Wv
open PySem PySem.Spec PyProof.Rows L2 Wb Ta
theorem dc_news {P : Program} {w : World} {σ : L2.St} {j : Nat} {E D : Addr} {od : Obj} {f : Int → V} {ns : List Int} {H1 : Hp} {Qd : Hp → Prop} (hw : ∀ x, wipe ((wipe σ [j]).set j (some x)) [j] = wipe σ [j]) (hx : ∀ x, ((wipe σ [j]).set j (some x))[j]? = some (some x))
    (hE : H1 E = some (.frz od (.dK (byN f ns)))) (hD : H1 D = none) (nd : ns.Nodup) (few : ns.length < sizeLine)
    (hd : ∀ (as : List Addr) (J : Hp), as.length = ns.length → as.Nodup → (∀ a ∈ as, H1 a = none ∧ a ≠ D ∧ J a = some (DicO P w a [])) → J D = some (.dK ((ns.zip as).map fun p => (.inl p.1, .ref p.2))) → (∀ b, b ∉ as → b ≠ D → J b = H1 b) → Qd J) :
    ∃ W : Nat → Nat → Hp → Prop, (∃ m, W 0 m (upd H1 D (.dK []))) ∧ ∀ i m H, W i m H →
      ((Itk E od (byN f ns)).stop i H ∧ Qd H) ∨ ((Itk E od (byN f ns)).go i H ∧ ∃ Nx : Hp → Prop, (∀ H', Nx H' → ∃ m', m' < m ∧ W (i + 1) m' H') ∧ ∀ x H', (Itk E od (byN f ns)).yld i H x H' → gName j x (wipe σ [j]) H' fun σ2 H2 => wipe σ2 [j] = wipe σ [j] ∧ tYes σ2 H2 fun b H3 =>
        if b = true then (tVar j) σ2 H3 fun y H4 => (tHNew P w) σ2 H4 fun z H5 => ∃ kvs k, y = kV k ∧ H5 D = some (.dK kvs) ∧ kvs.length < sizeLine ∧ Nx (upd H5 D (.dK (putK kvs k z))) else Nx H3) := by
  have nE : E ≠ D := ne_of_none hE hD
  have ln : (byN f ns).length = ns.length := by unfold byN; rw [List.length_map]
  let Pv : Nat → Hp → Prop := fun i J => ∃ as : List Addr, as.length = i ∧ i ≤ ns.length ∧ as.Nodup ∧ (∀ a ∈ as, H1 a = none ∧ a ≠ D ∧ J a = some (DicO P w a [])) ∧ J D = some (.dK (((ns.take i).zip as).map fun p => (.inl p.1, .ref p.2))) ∧ ∀ b, b ∉ as → b ≠ D → J b = H1 b
  have frE : ∀ {i J}, Pv i J → J E = some (.frz od (.dK (byN f ns))) := fun {i J} ⟨as, _, _, _, h, _, o⟩ => by
    rw [o E (fun z => by rw [(h E z).1] at hE; cases hE) nE]
    exact hE
  refine ⟨fun i m J => m = ns.length - i ∧ Pv i J, ⟨ns.length, by simp, [], rfl, Nat.zero_le _, List.nodup_nil, fun a h => (nomatch h), by rw [upd_same]; simp, fun b _ n => upd_ne n⟩, ?_⟩
  rintro i m J ⟨rfl, p⟩
  have e := frE p
  obtain ⟨as, hl, hi, hn, ha, hJ, ho⟩ := p
  by_cases lt : i < ns.length
  · refine .inr ⟨⟨e, by rw [ln]; exact lt⟩, Pv (i + 1), fun H' p' => ⟨ns.length - (i + 1), by omega, rfl, p'⟩, fun x H' y => ?_⟩
    obtain ⟨rfl, k, v, hk, rfl⟩ := y
    have hn' : ns[i]? = some ns[i] := List.getElem?_eq_getElem lt
    have hk' : (byN f ns)[i]? = some (.inl ns[i], f ns[i]) := by
      unfold byN
      rw [List.getElem?_map, hn']
      rfl
    rw [hk'] at hk
    cases hk
    refine ⟨hw _, ?_⟩
    unfold tYes
    dsimp only
    rw [if_pos rfl]
    refine ⟨_, hx _, fun p hp => ?_⟩
    have pa : p ∉ as := fun z => by rw [(ha p z).2.2] at hp; cases hp
    have pD : p ≠ D := fun z => by rw [z, hJ] at hp; cases hp
    have pH : H1 p = none := by rw [← ho p pa pD]; exact hp
    have tk : (ns.take (i + 1)).zip (as ++ [p]) = (ns.take i).zip as ++ [(ns[i], p)] := by
      rw [List.take_succ, hn', Option.toList_some, List.zip_append (by rw [List.length_take]; omega)]
      rfl
    refine ⟨_, .inl ns[i], rfl, (upd_ne fun z => pD z.symm).trans hJ, ?_, as ++ [p], by simp [hl], lt, ?_, fun a h => ?_, ?_, fun b nb nbD => ?_⟩
    · rw [List.length_map, List.length_zip, List.length_take]
      omega
    · refine List.nodup_append.mpr ⟨hn, List.pairwise_singleton _ _, fun a h1 b h2 z => ?_⟩
      rw [List.mem_singleton] at h2
      exact pa (h2 ▸ z ▸ h1)
    · rcases List.mem_append.mp h with h | h
      · obtain ⟨h1, h2, h3⟩ := ha a h
        refine ⟨h1, h2, ?_⟩
        rw [upd_ne h2, upd_ne (show a ≠ p from fun z => pa (z ▸ h))]
        exact h3
      · rw [List.mem_singleton] at h
        subst h
        refine ⟨pH, pD, ?_⟩
        rw [upd_ne pD, upd_same]
    · rw [upd_same, putK_new, tk, List.map_append]
      · rfl
      · cases q : valV (((ns.take i).zip as).map fun p => ((.inl p.1 : Key), V.ref p.2)) (.inl ns[i]) with
        | none => rfl
        | some z =>
          exfalso
          have a := valV_any (.inl ns[i] : Key) (((ns.take i).zip as).map fun p => ((.inl p.1 : Key), V.ref p.2))
          rw [q] at a
          obtain ⟨c, hc, hcc⟩ := List.any_eq_true.mp a
          obtain ⟨d, hd, rfl⟩ := List.mem_map.mp hc
          have e1 : d.1 = ns[i] := Sum.inl.inj (of_decide_eq_true hcc)
          have e2 : d.1 ∈ ns.take i := (List.of_mem_zip hd).1
          rw [e1] at e2
          obtain ⟨j, hj, e3⟩ := List.mem_take_iff_getElem.mp e2
          exact List.pairwise_iff_getElem.mp nd j i (by omega) lt (by omega) e3
    · have n1 : b ∉ as := fun z => nb (List.mem_append_left _ z)
      have n2 : b ≠ p := fun z => nb (List.mem_append_right _ (by rw [z]; exact List.mem_singleton.mpr rfl))
      rw [upd_ne nbD, upd_ne n2]
      exact ho b n1 nbD
  · have e' : i = ns.length := by omega
    subst e'
    rw [List.take_length] at hJ
    exact .inl ⟨⟨e, by rw [ln]; exact Nat.le_refl _⟩, hd as J hl hn ha hJ ho⟩
/-- what stands for a number -/
def adOf (ns : List Int) (as : List Addr) (n : Int) : Addr := (as[ns.idxOf n]?).getD 0
theorem adOf_mem {ns : List Int} {as : List Addr} {n : Int} (hl : as.length = ns.length) (h : n ∈ ns) : adOf ns as n ∈ as := by
  unfold adOf
  have lt : ns.idxOf n < as.length := by rw [hl]; exact List.idxOf_lt_length_of_mem h
  rw [List.getElem?_eq_getElem lt]
  exact List.getElem_mem lt
theorem adOf_inj {ns : List Int} {as : List Addr} {n m : Int} (hl : as.length = ns.length) (nd : as.Nodup) (h1 : n ∈ ns) (h2 : m ∈ ns) (e : adOf ns as n = adOf ns as m) : n = m := by
  unfold adOf at e
  have l1 : ns.idxOf n < ns.length := List.idxOf_lt_length_of_mem h1
  have l2 : ns.idxOf m < ns.length := List.idxOf_lt_length_of_mem h2
  rw [List.getElem?_eq_getElem (by omega), List.getElem?_eq_getElem (by omega)] at e
  have q : ns.idxOf n = ns.idxOf m := by
    rcases Nat.lt_trichotomy (ns.idxOf n) (ns.idxOf m) with h | h | h
    · exact absurd e (List.pairwise_iff_getElem.mp nd _ _ (by omega) (by omega) h)
    · exact h
    · exact absurd e.symm (List.pairwise_iff_getElem.mp nd _ _ (by omega) (by omega) h)
  have a : ns[ns.idxOf n] = n := List.getElem_idxOf l1
  have b : ns[ns.idxOf m] = m := List.getElem_idxOf l2
  rw [← a, ← b]
  simp only [q]
theorem zip_byN {ns : List Int} {as : List Addr} (hl : as.length = ns.length) (nd : ns.Nodup) : ((ns.zip as).map fun p => ((.inl p.1 : Key), V.ref p.2)) = byN (fun n => .ref (adOf ns as n)) ns := by
  apply List.ext_getElem?
  intro i
  unfold byN
  rw [List.getElem?_map, List.getElem?_map]
  by_cases lt : i < ns.length
  · have la : i < as.length := by omega
    have h1 : (ns.zip as)[i]? = some (ns[i], as[i]) := by
      rw [List.getElem?_eq_getElem (by rw [List.length_zip]; omega), List.getElem_zip]
    rw [h1, List.getElem?_eq_getElem lt]
    have q : ns.idxOf ns[i] = i := by
      have l1 : ns.idxOf ns[i] < ns.length := List.idxOf_lt_length_of_mem (List.getElem_mem lt)
      have a : ns[ns.idxOf ns[i]] = ns[i] := List.getElem_idxOf l1
      rcases Nat.lt_trichotomy (ns.idxOf ns[i]) i with h | h | h
      · exact absurd a (List.pairwise_iff_getElem.mp nd _ _ l1 lt h)
      · exact h
      · exact absurd a.symm (List.pairwise_iff_getElem.mp nd _ _ lt l1 h)
    show some ((Sum.inl ns[i] : Key), V.ref as[i]) = some (Sum.inl ns[i], V.ref (adOf ns as ns[i]))
    unfold adOf
    rw [q, List.getElem?_eq_getElem la]
    rfl
  · rw [List.getElem?_eq_none (by rw [List.length_zip]; omega), List.getElem?_eq_none (by omega)]
    rfl
end Wv

set_option Elab.async false
set_option linter.all false
set_option maxRecDepth 100000
set_option maxHeartbeats 4000000
/-! Wy2: hidden things laid open; sorted of dicts; words sorted. -/
namespace Wv
open PySem PySem.Spec PyProof.Rows L2 Wb Ta
section
variable {B H B0 H0 : Hp}
def openH (B H : Hp) (zs : List Addr) : Hp := fun b => if b ∈ zs then H b else B b
theorem Ext.openAll (e : Ext B0 H0 B H) {zs : List Addr} (hz : ∀ a ∈ zs, B a = none ∧ H0 a = none) : Ext B0 H0 (openH B H zs) H :=
  ⟨e.hh, fun b x z => by
    unfold openH
    rw [if_neg fun h => by have := (hz b h).1; rw [e.bb _ _ z] at this; cases this]
    exact e.bb b x z, fun b x z => by
    unfold openH at z
    split at z
    · exact z
    · exact e.bh b x z, fun b h1 h2 => by
    unfold openH
    rw [if_neg fun h => h1 (hz b h).2]
    exact e.nw b h1 h2⟩
theorem openH_sub {zs : List Addr} (hz : ∀ a ∈ zs, B a = none) : Same B (openH B H zs) := fun b x z => by
  unfold openH
  rw [if_neg fun h => by have := hz b h; rw [z] at this; cases this]
  exact z
theorem openH_at {zs : List Addr} {a : Addr} (h : a ∈ zs) : openH B H zs a = H a := if_pos h
end
section
variable {K : PySem.W.Frag} {σ : L2.St} {B : Hp} {ta : TE} {P : Program} {w : World}
/-- sorted(d), d a dict with ints as keys -/
theorem rc_sortedDI {a : Addr} {f : Int → V} {ns : List Int} (few : ns.length < 64) : Rc (fun xs H Q => ∃ (a : Addr) (kvs : List (Key × V)) (ks : List Int), xs = [.ref a] ∧ Rd H a (.dK kvs) ∧ kvs.map (·.1) = ks.map Sum.inl ∧ ks.length < 64 ∧
    ∀ (ys : List Int) (p : Addr), ys.Perm ks → ys.Pairwise (· ≤ ·) → H p = none → Q (.ref p) (upd H p (.lst (ys.map V.int)))) B [dicR a (byN f ns)] (dat K (.list ((sortI ns).map .int))) := fun vs B1 H _ s2 hv Q q => by
  obtain ⟨v, r, rfl, ⟨rfl, ha⟩, h2⟩ := hv
  have h2 : r = [] := h2
  subst h2
  refine ⟨a, byN f ns, ns, rfl, .inl (s2 _ _ ha), by unfold byN; rw [List.map_map]; rfl, few, fun ys p hp hs hn => ?_⟩
  rw [sortI_uniq hp hs]
  refine q _ (upd B1 p (.lst ((sortI ns).map V.int))) _ (.new s2 hn) (.lst (SqL.of upd_same) ?_)
  have all : ∀ (l : List Int) (H : Hp), DpAll K H (l.map V.int) (l.map PyData.int) := fun l H => by
    induction l with
    | nil => exact .nil
    | cons i l ih => exact .cons (.int i) ih
  exact all _ _
/-- a dict of words that stays -/
def wsR (K : PySem.W.Frag) (P : Program) (w : World) (a : Addr) (ws : List Wd) : Rel := fun B v => ∃ kvs, v = .ref a ∧ B a = some (DicO P w a kvs) ∧ Ws K B ws kvs
instance {a : Addr} {ws : List Wd} : Mo (wsR K P w a ws) := ⟨fun s ⟨kvs, e, h, q⟩ => ⟨kvs, e, s _ _ h, q.mono s⟩⟩
def wordD (x : Wd) : PyData := .tuple (x.map .int)
theorem keyDt_wk (x : Wd) : keyDt (wk x) = wordD x := by
  unfold keyDt wk wordD
  rw [List.map_map]
  rfl
theorem dle_word (a b : Wd) : dle (wordD a) (wordD b) = decide (a ≤ b) := by
  have h := congrFun (congrFun (PySem.W.dataLe_rows (fun x : Wd => x)) a) b
  rw [← h]
  show (!PySem.W.dataLt (.tuple (b.map .int)) (.tuple (a.map .int))) = (!PySem.W.dataLt (.list (b.map .int)) (.list (a.map .int)))
  rw [PySem.W.dataLt_tuple, PySem.W.dataLt_list]
theorem sortD_words (ws : List Wd) : sortD (ws.map wordD) = (sortW ws).map wordD := by
  unfold sortD sortW
  exact (List.map_mergeSort (s := dle) (f := wordD) (r := fun a b => decide (a ≤ b)) (fun a _ b _ => (dle_word a b).symm)).symm
theorem alike_ints : ∀ a b : Wd, PySem.W.alikeAll (a.map .int) (b.map .int) = true
  | [], _ => by simp [PySem.W.alikeAll]
  | _ :: _, [] => by simp [PySem.W.alikeAll]
  | x :: a, y :: b => by
    simp only [List.map_cons, PySem.W.alikeAll, PySem.W.alike, Bool.true_and]
    exact alike_ints a b
theorem alike_words (ws : List Wd) : PySem.W.AllAlike (ws.map wordD) := by
  intro d hd d' hd'
  obtain ⟨a, _, rfl⟩ := List.mem_map.mp hd
  obtain ⟨b, _, rfl⟩ := List.mem_map.mp hd'
  show PySem.W.alike (.tuple (a.map .int)) (.tuple (b.map .int)) = true
  simp only [PySem.W.alike]
  exact alike_ints a b
theorem rc_sortedW {a : Addr} {ws : List Wd} : Rc (rSortedH K P w) B [wsR K P w a ws] (dat K (.list ((sortW ws).map wordD))) := fun vs B1 H _ s2 hv Q q => by
  obtain ⟨v, r, rfl, ⟨kvs, rfl, ha, hw⟩, h2⟩ := hv
  have h2 : r = [] := h2
  subst h2
  have ek : (kvs.map fun kv => keyDt kv.1) = ws.map wordD := by
    have := congrArg (List.map keyDt) hw.keys
    rw [List.map_map, List.map_map] at this
    refine this.trans (List.map_congr_left fun x _ => keyDt_wk x)
  refine ⟨a, kvs, rfl, s2 _ _ ha, fun p hp => (hw.at_ p hp).same s2, by rw [ek]; exact alike_words ws, fun p hn => ?_⟩
  rw [← sortD_words, ← ek] at q
  exact q _ (upd B1 p _) _ (.new s2 hn) (.lst (SqL.of upd_same) (dpMonoAll (new_same (s2.free hn)) _ _ (dp_sort (dp_ens hw.at_))))
end
end Wv

namespace Wf
/-- how a top and a bottom are brought down -/
theorem frac_val (t b : Int) (hb : b ≠ 0) : ∀ c : Int, c = (if b < 0 then -((Nat.gcd t.natAbs b.natAbs : Nat) : Int) else ((Nat.gcd t.natAbs b.natAbs : Nat) : Int)) →
    c ≠ 0 ∧ t.fdiv c = (Rat.divInt t b).num ∧ b.fdiv c = ((Rat.divInt t b).den : Int) := by
  intro c hc
  have gp : 0 < Nat.gcd t.natAbs b.natAbs := Nat.gcd_pos_of_pos_right _ (Int.natAbs_pos.mpr hb)
  generalize hg : Nat.gcd t.natAbs b.natAbs = g at *
  have dt : (g : Int) ∣ t := Int.natAbs_dvd_natAbs.mp (by rw [Int.natAbs_natCast, ← hg]; exact Nat.gcd_dvd_left _ _)
  have db : (g : Int) ∣ b := Int.natAbs_dvd_natAbs.mp (by rw [Int.natAbs_natCast, ← hg]; exact Nat.gcd_dvd_right _ _)
  have e1 : (Rat.divInt t b).num = b.sign * t / g := by
    rw [Rat.num_divInt]
    have : b.gcd t = g := by rw [← hg, Nat.gcd_comm]; rfl
    rw [this]
  have e2 : ((Rat.divInt t b).den : Int) = (b.natAbs : Int) / (g : Int) := by
    rw [Rat.den_divInt, if_neg hb]
    have : b.gcd t = g := by rw [← hg, Nat.gcd_comm]; rfl
    rw [this, Int.natCast_ediv]
  obtain ⟨x, rfl⟩ := dt
  obtain ⟨y, rfl⟩ := db
  have g0 : (g : Int) ≠ 0 := by omega
  rw [e1, e2]
  by_cases neg : (g : Int) * y < 0
  · rw [if_pos neg] at hc
    subst hc
    have s : ((g : Int) * y).sign = -1 := Int.sign_eq_neg_one_of_neg neg
    have n : (((g : Int) * y).natAbs : Int) = (g : Int) * -y := by
      have := Int.ofNat_natAbs_of_nonpos (Int.le_of_lt neg)
      rw [this, Int.mul_neg]
    refine ⟨by omega, ?_, ?_⟩
    · rw [s]
      have : -1 * ((g : Int) * x) = (g : Int) * -x := by rw [Int.mul_neg]; omega
      rw [this, Int.mul_ediv_cancel_left _ g0]
      exact Int.fdiv_eq_of_eq_mul_right (by omega) (by rw [Int.neg_mul_neg])
    · rw [n, Int.mul_ediv_cancel_left _ g0]
      exact Int.fdiv_eq_of_eq_mul_right (by omega) (by rw [Int.neg_mul_neg])
  · rw [if_neg neg] at hc
    subst hc
    have pos : 0 < (g : Int) * y := by omega
    have s : ((g : Int) * y).sign = 1 := Int.sign_eq_one_of_pos pos
    have n : (((g : Int) * y).natAbs : Int) = (g : Int) * y := Int.natAbs_of_nonneg (Int.le_of_lt pos)
    refine ⟨g0, ?_, ?_⟩
    · rw [s, Int.one_mul, Int.mul_ediv_cancel_left _ g0]
      exact Int.fdiv_eq_of_eq_mul_right g0 rfl
    · rw [n, Int.mul_ediv_cancel_left _ g0]
      exact Int.fdiv_eq_of_eq_mul_right g0 rfl
/-- the same for a bottom above 0, by the other division -/
theorem low_val (t b : Int) (hb : 0 < b) : t / ((Nat.gcd t.natAbs b.natAbs : Nat) : Int) = (Rat.divInt t b).num ∧ b / ((Nat.gcd t.natAbs b.natAbs : Nat) : Int) = ((Rat.divInt t b).den : Int) := by
  obtain ⟨_, h1, h2⟩ := frac_val t b (by omega) _ (if_neg (by omega)).symm
  rw [Int.fdiv_eq_ediv_of_nonneg _ (Int.natCast_nonneg _)] at h1 h2
  exact ⟨h1, h2⟩
theorem add_val (p q : Rat) : Rat.divInt (p.num * q.den + q.num * p.den) (p.den * q.den) = p + q := by
  rw [Rat.add_def', ← Rat.divInt_ofNat, Int.natCast_mul]
theorem sub_val (p q : Rat) : Rat.divInt (p.num * q.den - q.num * p.den) (p.den * q.den) = p - q := by
  rw [Rat.sub_def', ← Rat.divInt_ofNat, Int.natCast_mul]
theorem mul_val (p q : Rat) : Rat.divInt (p.num * q.num) (p.den * q.den) = p * q := by
  rw [Rat.mul_def', ← Rat.divInt_ofNat, Int.natCast_mul]
theorem div_val (p q : Rat) : Rat.divInt (p.num * q.den) (p.den * q.num) = p / q := by
  rw [Rat.div_def, Rat.inv_def, ← Rat.divInt_mul_divInt, Rat.num_divInt_den]
theorem neg_divInt (t b : Int) : Rat.divInt (0 - t) (0 - b) = Rat.divInt t b := by
  rw [Int.zero_sub, Int.zero_sub, Rat.neg_divInt_neg]
/-- how long tops and bottoms are -/
structure Sz (k : Nat) (q : Rat) : Prop where
  top : q.num.natAbs < 2 ^ k
  bot : q.den < 2 ^ k
theorem Sz.mono {j k : Nat} {q : Rat} (h : Sz j q) (l : j ≤ k) : Sz k q :=
  ⟨Nat.lt_of_lt_of_le h.top (Nat.pow_le_pow_right (by decide) l), Nat.lt_of_lt_of_le h.bot (Nat.pow_le_pow_right (by decide) l)⟩
theorem sz_divInt {t b : Int} {k : Nat} (hb : b ≠ 0) (h1 : t.natAbs < 2 ^ k) (h2 : b.natAbs < 2 ^ k) : Sz k (Rat.divInt t b) := by
  have gp : 0 < b.gcd t := Int.gcd_pos_of_ne_zero_left _ hb
  constructor
  · rw [Rat.num_divInt]
    have : (b.sign * t / (b.gcd t : Int)).natAbs ≤ (b.sign * t).natAbs := by
      exact Int.natAbs_ediv_le_natAbs _ _
    rw [Int.natAbs_mul, Int.natAbs_sign_of_ne_zero hb, Nat.one_mul] at this
    omega
  · rw [Rat.den_divInt, if_neg hb]
    exact Nat.lt_of_le_of_lt (Nat.div_le_self _ _) h2
theorem lt_mul {a b j k : Nat} (h1 : a < 2 ^ j) (h2 : b < 2 ^ k) : a * b < 2 ^ (j + k) := by
  rw [Nat.pow_add]
  exact Nat.mul_lt_mul'' h1 h2
theorem Sz.add {j k : Nat} {p q : Rat} (h1 : Sz j p) (h2 : Sz k q) : Sz (j + k + 1) (p + q) := by
  rw [← add_val]
  have a := lt_mul h1.top h2.bot
  have b := lt_mul h2.top h1.bot
  have c := lt_mul h1.bot h2.bot
  have e : 2 ^ (j + k + 1) = 2 ^ (j + k) + 2 ^ (j + k) := by rw [Nat.pow_succ]; omega
  rw [Nat.add_comm k j] at b
  have hd : (p.den : Int) * q.den ≠ 0 := by
    have := p.den_pos; have := q.den_pos
    exact Int.mul_ne_zero (by omega) (by omega)
  refine sz_divInt hd ?_ ?_
  · have := Int.natAbs_add_le (p.num * q.den) (q.num * p.den)
    rw [Int.natAbs_mul, Int.natAbs_mul, Int.natAbs_natCast, Int.natAbs_natCast] at this
    omega
  · rw [Int.natAbs_mul, Int.natAbs_natCast, Int.natAbs_natCast]
    omega
theorem Sz.neg {k : Nat} {p : Rat} (h : Sz k p) : Sz k (-p) := ⟨by rw [Rat.neg_num, Int.natAbs_neg]; exact h.top, h.bot⟩
theorem Sz.sub {j k : Nat} {p q : Rat} (h1 : Sz j p) (h2 : Sz k q) : Sz (j + k + 1) (p - q) := by
  rw [Rat.sub_eq_add_neg]
  exact h1.add h2.neg
theorem Sz.mul {j k : Nat} {p q : Rat} (h1 : Sz j p) (h2 : Sz k q) : Sz (j + k) (p * q) := by
  rw [← mul_val]
  have a := lt_mul h1.top h2.top
  have c := lt_mul h1.bot h2.bot
  have hd : (p.den : Int) * q.den ≠ 0 := by
    have := p.den_pos; have := q.den_pos
    exact Int.mul_ne_zero (by omega) (by omega)
  refine sz_divInt hd ?_ ?_
  · rw [Int.natAbs_mul]; exact a
  · rw [Int.natAbs_mul, Int.natAbs_natCast, Int.natAbs_natCast]; exact c
theorem Sz.div {j k : Nat} {p q : Rat} (h1 : Sz j p) (h2 : Sz k q) (h : q ≠ 0) : Sz (j + k) (p / q) := by
  rw [← div_val]
  have a := lt_mul h1.top h2.bot
  have c := lt_mul h1.bot h2.top
  have hd : (p.den : Int) * q.num ≠ 0 := by
    have := p.den_pos
    exact Int.mul_ne_zero (by omega) (fun e => h (Rat.num_eq_zero.mp e))
  refine sz_divInt hd ?_ ?_
  · rw [Int.natAbs_mul, Int.natAbs_natCast]; exact a
  · rw [Int.natAbs_mul, Int.natAbs_natCast]; exact c
/-- 1, 0, -1 -/
def cmpI (x y : Int) : Int := (if x > y then 1 else 0) - (if x < y then 1 else 0)
def cmpR (p q : Rat) : Int := cmpI (p.num * q.den) (q.num * p.den)
theorem cmpR_eq (p q : Rat) : cmpR p q = if q < p then 1 else if p < q then -1 else 0 := by
  unfold cmpR cmpI
  have h1 : (q < p) ↔ p.num * q.den > q.num * p.den := Rat.lt_iff q p
  have h2 : (p < q) ↔ p.num * q.den < q.num * p.den := Rat.lt_iff p q
  by_cases a : q < p
  · have b := h1.mp a
    rw [if_pos a, if_pos b, if_neg (by omega)]
    rfl
  · have b := fun z => a (h1.mpr z)
    rw [if_neg a, if_neg b]
    by_cases c : p < q
    · rw [if_pos c, if_pos (h2.mp c)]; rfl
    · rw [if_neg c, if_neg fun z => c (h2.mpr z)]; rfl
theorem cmp_add (p q r : Rat) : cmpR (p + r) (q + r) = cmpR p q := by
  rw [cmpR_eq, cmpR_eq]
  have h : ∀ x y : Rat, x + r < y + r ↔ x < y := fun x y => by
    constructor <;> intro z <;> grind
  simp only [h]
theorem cmp_sign (r : Rat) : cmpR r 0 = if 0 < r then 1 else if r < 0 then -1 else 0 := cmpR_eq r 0
theorem cmp_mul (p q r : Rat) : cmpR (p * r) (q * r) = cmpR p q * cmpR r 0 := by
  have key : ∀ x y : Rat, 0 < r → (x * r < y * r ↔ x < y) := fun x y h => ⟨fun z => by
    by_cases c : x < y
    · exact c
    · have : 0 ≤ (x - y) * r := Rat.mul_nonneg (by grind) (by grind)
      grind, fun z => by
    have : 0 < (y - x) * r := Rat.mul_pos (by grind) h
    grind⟩
  have key2 : ∀ x y : Rat, r < 0 → (x * r < y * r ↔ y < x) := fun x y h => ⟨fun z => by
    by_cases c : y < x
    · exact c
    · have : 0 ≤ (y - x) * -r := Rat.mul_nonneg (by grind) (by grind)
      grind, fun z => by
    have : 0 < (x - y) * -r := Rat.mul_pos (by grind) (by grind)
    grind⟩
  rw [cmpR_eq, cmpR_eq, cmp_sign]
  by_cases a : 0 < r
  · simp only [key _ _ a, if_pos a, Int.mul_one]
  · by_cases b : r < 0
    · simp only [key2 _ _ b, if_pos b, if_neg a]
      by_cases c : p < q
      · have : ¬ q < p := by grind
        simp [c, this]
      · by_cases d : q < p
        · simp [c, d]
        · simp [c, d]
    · have : r = 0 := by grind
      subst this
      simp
end Wf

namespace Wf
def sumR : List Rat → Rat
  | [] => 0
  | q :: r => q + sumR r
def prodR : List Rat → Rat
  | [] => 1
  | q :: r => q * prodR r
theorem sumR_snoc (q : Rat) : ∀ l : List Rat, sumR (l ++ [q]) = sumR l + q
  | [] => by show q + 0 = 0 + q; rw [Rat.add_comm]
  | x :: l => by
    show x + sumR (l ++ [q]) = x + sumR l + q
    rw [sumR_snoc q l, Rat.add_assoc]
theorem prodR_snoc (q : Rat) : ∀ l : List Rat, prodR (l ++ [q]) = prodR l * q
  | [] => by show q * 1 = 1 * q; rw [Rat.mul_comm]
  | x :: l => by
    show x * prodR (l ++ [q]) = x * prodR l * q
    rw [prodR_snoc q l, Rat.mul_assoc]
theorem den_ne0 (q : Rat) : (q.den : Int) ≠ 0 := by
  have := q.den_pos
  omega
/-- the parts of a common bottom -/
def sumTop (L : Int) : List Rat → Int
  | [] => 0
  | q :: r => q.num * (L / q.den) + sumTop L r
theorem one_part {L : Int} (h : L ≠ 0) {q : Rat} (d : (q.den : Int) ∣ L) : Rat.divInt (q.num * (L / q.den)) L = q := by
  obtain ⟨m, rfl⟩ := d
  have m0 : m ≠ 0 := fun e => h (by rw [e, Int.mul_zero])
  rw [Int.mul_ediv_cancel_left _ (den_ne0 q), Rat.divInt_mul_right m0, Rat.num_divInt_den]
theorem add_parts {L a b : Int} (h : L ≠ 0) : Rat.divInt (a + b) L = Rat.divInt a L + Rat.divInt b L := by
  rw [Rat.divInt_add_divInt _ _ h h, ← Int.add_mul, Rat.divInt_mul_right h]
theorem sum_parts {L : Int} (h : L ≠ 0) : ∀ l : List Rat, (∀ q ∈ l, (q.den : Int) ∣ L) → Rat.divInt (sumTop L l) L = sumR l
  | [], _ => by show Rat.divInt 0 L = 0; exact Rat.zero_divInt _
  | q :: r, d => by
    show Rat.divInt (q.num * (L / q.den) + sumTop L r) L = q + sumR r
    rw [add_parts h, one_part h (d q List.mem_cons_self), sum_parts h r fun x hx => d x (List.mem_cons_of_mem _ hx)]
theorem sumTop_eq (L : Int) : ∀ l : List Rat, sumTop L l = (l.map fun q => q.num * (L / q.den)).sum
  | [] => rfl
  | q :: r => by
    show q.num * (L / q.den) + sumTop L r = _
    rw [sumTop_eq L r]
    simp
/-- a sum, a product kept as a top and a bottom -/
theorem step_sum {t b : Int} (hb : b ≠ 0) (q : Rat) : Rat.divInt (t * q.den + q.num * b) (b * q.den) = Rat.divInt t b + q := by
  have e : q = Rat.divInt q.num q.den := (Rat.num_divInt_den q).symm
  conv => rhs; rw [e]
  rw [Rat.divInt_add_divInt _ _ hb (den_ne0 q)]
theorem step_prod (t b : Int) (q : Rat) : Rat.divInt (t * q.num) (b * q.den) = Rat.divInt t b * q := by
  have e : q = Rat.divInt q.num q.den := (Rat.num_divInt_den q).symm
  conv => rhs; rw [e]
  rw [Rat.divInt_mul_divInt]
theorem one_le_two_pow (k : Nat) : 1 ≤ 2 ^ k := Nat.one_le_two_pow
theorem lcm_step {L : Nat} {q : Rat} {j k : Nat} (l0 : 0 < L) (hl : L < 2 ^ j) (hq : q.den < 2 ^ k) : 0 < Nat.lcm L q.den ∧ Nat.lcm L q.den < 2 ^ (j + k) ∧ q.den ∣ Nat.lcm L q.den ∧ L ∣ Nat.lcm L q.den := by
  refine ⟨Nat.lcm_pos l0 q.den_pos, ?_, Nat.dvd_lcm_right _ _, Nat.dvd_lcm_left _ _⟩
  have : Nat.lcm L q.den ≤ L * q.den := Nat.div_le_self _ _
  rw [Nat.pow_add]
  exact Nat.lt_of_le_of_lt this (Nat.mul_lt_mul'' hl hq)
/-- Euclid's steps -/
structure Euc (A B : Nat) (k i a b : Nat) : Prop where
  g : Nat.gcd a b = Nat.gcd A B
  first : i = 0 → a = A ∧ b = B
  later : 0 < i → b < a ∧ a * b * 2 ^ (i - 1) < 2 ^ (2 * k)
theorem euc_step {A B k i a b : Nat} (e : Euc A B k i a b) (hb : B < 2 ^ k) (b0 : b ≠ 0) : Euc A B k (i + 1) b (a % b) := by
  have bp : 0 < b := Nat.pos_of_ne_zero b0
  refine ⟨?_, fun z => by omega, fun _ => ⟨Nat.mod_lt _ bp, ?_⟩⟩
  · rw [← e.g, Nat.gcd_comm b, ← Nat.gcd_rec, Nat.gcd_comm]
  · by_cases hi : i = 0
    · obtain ⟨rfl, rfl⟩ := e.first hi
      subst hi
      show b * (a % b) * 2 ^ 0 < _
      have h1 : a % b < 2 ^ k := Nat.lt_trans (Nat.mod_lt _ bp) hb
      rw [Nat.pow_zero, Nat.mul_one, Nat.two_mul, Nat.pow_add]
      exact Nat.mul_lt_mul'' hb h1
    · obtain ⟨h1, h2⟩ := e.later (by omega)
      obtain ⟨j, rfl⟩ : ∃ j, i = j + 1 := ⟨i - 1, by omega⟩
      show b * (a % b) * 2 ^ (j + 1) < _
      have h3 : 2 * (a % b) ≤ a := by
        have := Nat.mod_add_div a b
        have q1 : 1 ≤ a / b := (Nat.le_div_iff_mul_le bp).mpr (by omega)
        have q2 : b * 1 ≤ b * (a / b) := Nat.mul_le_mul_left b q1
        have q3 := Nat.mod_lt a bp
        omega
      have h4 : b * (a % b) * 2 ^ (j + 1) ≤ a * b * 2 ^ j := by
        rw [Nat.pow_succ, Nat.mul_comm (2 ^ j) 2, ← Nat.mul_assoc, Nat.mul_comm a b]
        apply Nat.mul_le_mul_right
        rw [Nat.mul_assoc, Nat.mul_comm (a % b) 2]
        exact Nat.mul_le_mul_left b h3
      exact Nat.lt_of_le_of_lt h4 h2
theorem euc_end {A B k i a b : Nat} (e : Euc A B k i a b) (hi : 2 * k + 1 ≤ i) : b = 0 := by
  obtain ⟨h1, h2⟩ := e.later (by omega)
  by_cases z : b = 0
  · exact z
  · exfalso
    have p : 1 ≤ a * b := Nat.mul_pos (by omega) (by omega)
    have q : 2 ^ (2 * k) ≤ 2 ^ (i - 1) := Nat.pow_le_pow_right (by decide) (by omega)
    have r : 1 * 2 ^ (i - 1) ≤ a * b * 2 ^ (i - 1) := Nat.mul_le_mul_right _ p
    omega
theorem euc_done {A B k i a : Nat} (e : Euc A B k i a 0) : a = Nat.gcd A B := by
  rw [← e.g, Nat.gcd_zero_right]
end Wf

set_option Elab.async false
set_option linter.all false
set_option maxRecDepth 100000
set_option maxHeartbeats 4000000
/-! Fq: fractions as data, what is worked out of them. -/
theorem L2.Room.u1 {k : Nat} {A : PySem.Around} (h : L2.Room k A) : A.units + 1 < PySem.cLine := by
  have := h.units
  omega
namespace Fq
open PySem PySem.Spec PyProof.Rows L2 Wb Wv Wf
/-- a fraction as data -/
def frD (q : Rat) : PyData := .tuple [.int q.num, .int (q.den : Int)]
theorem frD_eqv (p q : Rat) : PyData.eqv (frD p) (frD q) = decide (p = q) := by
  unfold frD
  simp only [PyData.eqv, PyData.eqvAll, Bool.and_true]
  by_cases h : p = q
  · subst h
    simp
  · rw [decide_eq_false h]
    by_cases a : p.num = q.num
    · have b : ¬ p.den = q.den := fun z => h (Rat.ext a z)
      have b' : ¬ (p.den : Int) = q.den := fun z => b (by omega)
      simp [a, b']
    · simp [a]
theorem frD_shaped (q : Rat) : SeqAt.shaped (frD q) = true := by
  show (PyData.canLay0 (frD q) && decide (PyData.depth (frD q) ≤ 64)) = true
  unfold frD
  simp [PyData.canLay0, PyData.canLayAll0, PyData.depth, PyData.depthAll]
theorem denA (q : Rat) : ((q.den : Int)).natAbs = q.den := Int.natAbs_natCast _
theorem frD_tb {q : Rat} {n : Nat} (h : Sz n q) (hn : n ≤ 1900) : Tb 1 2 (frD q) := by
  have up : 2 ^ n ≤ 2 ^ 1900 := Nat.pow_le_pow_right (by decide) hn
  have h1 := h.top
  have h2 := h.bot
  have h3 : ((q.den : Int)).natAbs < 2 ^ 1900 := by rw [denA]; omega
  exact (TbAll.cons (tb_int (by omega)) (.cons (tb_int h3) .nil)).tuple
theorem den_ne (q : Rat) : (q.den : Int) ≠ 0 := by
  have := q.den_pos
  omega
theorem dens_ne (p q : Rat) : (p.den : Int) * q.den ≠ 0 := Int.mul_ne_zero (den_ne p) (den_ne q)
theorem den_pos (q : Rat) : (0 : Int) < q.den := by
  have := q.den_pos
  omega
theorem dens_pos (p q : Rat) : (0 : Int) < p.den * q.den := Int.mul_pos (den_pos p) (den_pos q)
theorem lt_mulI {i j : Int} {a b : Nat} (ha : i.natAbs < 2 ^ a) (hb : j.natAbs < 2 ^ b) : (i * j).natAbs < 2 ^ (a + b) := wide_lt ha hb
theorem sz_den {k : Nat} {q : Rat} (h : Sz k q) : ((q.den : Int)).natAbs < 2 ^ k := by
  rw [denA]
  exact h.bot
theorem mulOk {i j : Int} (h1 : i.natAbs < 2 ^ 3000) (h2 : j.natAbs < 2 ^ 3000) : CMulW i j := wide_mul h1 h2 (by decide) (by decide) (by decide)
theorem dens_lt {p q : Rat} (h1 : Sz 3000 p) (h2 : Sz 3000 q) : ((p.den : Int) * q.den).natAbs < 2 ^ 7000 := Nat.lt_of_lt_of_le (lt_mulI (sz_den h1) (sz_den h2)) (Nat.pow_le_pow_right (by decide) (by decide))
theorem tops_lt {p q : Rat} (h1 : Sz 3000 p) (h2 : Sz 3000 q) : (p.num * q.num).natAbs < 2 ^ 7000 := Nat.lt_of_lt_of_le (lt_mulI h1.top h2.top) (Nat.pow_le_pow_right (by decide) (by decide))
theorem cross_lt {p q : Rat} (h1 : Sz 3000 p) (h2 : Sz 3000 q) : (p.num * q.den + q.num * p.den).natAbs < 2 ^ 7000 := by
  have a := lt_mulI h1.top (sz_den h2)
  have b := lt_mulI h2.top (sz_den h1)
  have c : 2 ^ (3000 + 3000) + 2 ^ (3000 + 3000) ≤ 2 ^ 7000 := by
    rw [← Nat.two_mul, ← Nat.pow_succ']
    exact Nat.pow_le_pow_right (by decide) (by decide)
  exact Nat.lt_of_le_of_lt (Int.natAbs_add_le _ _) (Nat.lt_of_lt_of_le (Nat.add_lt_add a b) c)
theorem cross_lt' {p q : Rat} (h1 : Sz 3000 p) (h2 : Sz 3000 q) : (p.num * q.den - q.num * p.den).natAbs < 2 ^ 7000 := by
  have a := lt_mulI h1.top (sz_den h2)
  have b := lt_mulI h2.top (sz_den h1)
  have c : 2 ^ (3000 + 3000) + 2 ^ (3000 + 3000) ≤ 2 ^ 7000 := by
    rw [← Nat.two_mul, ← Nat.pow_succ']
    exact Nat.pow_le_pow_right (by decide) (by decide)
  have d := Int.natAbs_sub_le (p.num * q.den) (q.num * p.den)
  exact Nat.lt_of_le_of_lt d (Nat.lt_of_lt_of_le (Nat.add_lt_add a b) c)
/-! ### promises -/
/-- fraction(top, bottom) -/
def spFracD (K : PySem.W.Frag) (CS : Addr) : Sp := fun vs H Q E => ∃ (B : Hp) (t b : Int), vs = [.int t, .int b] ∧ Same B H ∧ b.natAbs < 2 ^ 7000 ∧ (b ≠ 0 → ∀ v B' H', Ext B H B' H' → dat K (frD (Rat.divInt t b)) B' v → Q v H') ∧
  (b = 0 → ∀ dx, H dx = none → E (.ref CS) (some dx) (upd H dx (.xd [("word", .str "bottom")])))
abbrev spLowD (K : PySem.W.Frag) : Sp := Pf (α := Int × Int) (fun a => [dat K (.int a.1), dat K (.int a.2)]) (fun a => 0 < a.2 ∧ a.2.natAbs < 2 ^ 7000) (fun a => dat K (frD (Rat.divInt a.1 a.2)))
abbrev spGcdD (K : PySem.W.Frag) : Sp := Pf (α := Nat × Nat) (fun a => [dat K (.int a.1), dat K (.int a.2)]) (fun _ => True) (fun a => dat K (.int (Nat.gcd a.1 a.2 : Nat)))
abbrev spWholeD (K : PySem.W.Frag) : Sp := Pf (α := Int) (fun a => [dat K (.int a)]) (fun _ => True) (fun a => dat K (frD (a : Rat)))
abbrev spBinD (K : PySem.W.Frag) (f : Rat → Rat → Rat) : Sp := Pf (α := Rat × Rat) (fun a => [dat K (frD a.1), dat K (frD a.2)]) (fun a => Sz 3000 a.1 ∧ Sz 3000 a.2) (fun a => dat K (frD (f a.1 a.2)))
section
variable {K : PySem.W.Frag} {σ : L2.St} {B B' : Hp} {ta tb te : TE} {p q : Rat} {E : XK} {CS : Addr}
theorem De.num (h : De te σ B (dat K (frD q))) : De (tOp (rIxT K) te (tC (.int 0))) σ B (dat K (.int q.num)) := .op h .int (Rv.ixTD rfl)
theorem De.den (h : De te σ B (dat K (frD q))) : De (tOp (rIxT K) te (tC (.int 1))) σ B (dat K (.int (q.den : Int))) := .op h .int (Rv.ixTD rfl)
theorem De.frac {t b : Int} {tr : TA} (h : Da tr σ B [dat K (.int t), dat K (.int b)]) (b0 : b ≠ 0) (lb : b.natAbs < 2 ^ 7000) : De (tCall (fun vs H Q _ => spFracD K CS vs H Q fun _ _ _ => False) [] E tr) σ B (dat K (frD (Rat.divInt t b))) := fun B1 H s1 s2 Q k =>
  h B1 H s1 s2 _ fun vs B2 H2 e hv => by
    obtain ⟨x, r, rfl, hx, y, r', rfl, hy, hr⟩ := hv
    have hr : r' = [] := hr
    subst hr
    have hx := dat_int hx
    subst hx
    have hy := dat_int hy
    subst hy
    exact ⟨B2, t, b, rfl, e.bh, lb, fun _ v B' H' e' hv => k v B' H' (e.trans e') hv, fun z => absurd z b0⟩
theorem De.low {t b : Int} {tr : TA} (h : Da tr σ B [dat K (.int t), dat K (.int b)]) (b0 : 0 < b) (lb : b.natAbs < 2 ^ 7000) : De (tCall (spLowD K) [] E tr) σ B (dat K (frD (Rat.divInt t b))) := De.call (t, b) h ⟨b0, lb⟩
theorem De.bin {f : Rat → Rat → Rat} {tr : TA} (h : Da tr σ B [dat K (frD p), dat K (frD q)]) (zp : Sz 3000 p) (zq : Sz 3000 q) : De (tCall (spBinD K f) [] E tr) σ B (dat K (frD (f p q))) := De.call (p, q) h ⟨zp, zq⟩
theorem De.tupI {i j : Int} {tr : TA} (h : Da tr σ B [dat K (.int i), dat K (.int j)]) : De (tTup tr) σ B (dat K (.tuple [.int i, .int j])) := De.tupD (ds := [.int i, .int j]) h (by show 2 ≤ sizeLine; decide)
theorem De.cross {ta tb tc td : TE} (ha : De ta σ B (dat K (frD p))) (hb : De tb σ B (dat K (frD q))) (hc : De tc σ B (dat K (frD q))) (hd : De td σ B (dat K (frD p))) (zp : Sz 3000 p) (zq : Sz 3000 q) :
    De (tOp (rI0 fun i j => .int (i + j)) (tOp (rI CMulW fun i j => .int (i * j)) (tOp (rIxT K) ta (tC (.int 0))) (tOp (rIxT K) tb (tC (.int 1)))) (tOp (rI CMulW fun i j => .int (i * j)) (tOp (rIxT K) tc (tC (.int 0))) (tOp (rIxT K) td (tC (.int 1))))) σ B (dat K (.int (p.num * q.den + q.num * p.den))) :=
  .op (.op (De.num ha) (De.den hb) (Rv.I (mulOk zp.top (sz_den zq)))) (.op (De.num hc) (De.den hd) (Rv.I (mulOk zq.top (sz_den zp)))) Rv.I0
theorem De.tops {ta tb : TE} (ha : De ta σ B (dat K (frD p))) (hb : De tb σ B (dat K (frD q))) (zp : Sz 3000 p) (zq : Sz 3000 q) :
    De (tOp (rI CMulW fun i j => .int (i * j)) (tOp (rIxT K) ta (tC (.int 0))) (tOp (rIxT K) tb (tC (.int 0)))) σ B (dat K (.int (p.num * q.num))) := .op (De.num ha) (De.num hb) (Rv.I (mulOk zp.top zq.top))
theorem De.dens {ta tb : TE} (ha : De ta σ B (dat K (frD p))) (hb : De tb σ B (dat K (frD q))) (zp : Sz 3000 p) (zq : Sz 3000 q) :
    De (tOp (rI CMulW fun i j => .int (i * j)) (tOp (rIxT K) ta (tC (.int 1))) (tOp (rIxT K) tb (tC (.int 1)))) σ B (dat K (.int (p.den * q.den))) := .op (De.den ha) (De.den hb) (Rv.I (mulOk (sz_den zp) (sz_den zq)))
theorem den1 (n : Int) : frD (n : Rat) = .tuple [.int n, .int 1] := rfl
theorem De.cstT {a : Addr} {i j : Int} (h : ∀ H, SqT K H a [.int i, .int j]) : De (tC (.ref a)) σ B (dat K (.tuple [.int i, .int j])) := .cst fun B => .tup (h B) (.cons (.int _) (.cons (.int _) .nil))
theorem gcd_pos {t b : Int} (hb : 0 < b) : 0 < Nat.gcd t.natAbs b.natAbs := Nat.gcd_pos_of_pos_right _ (by omega)
theorem dats_ints : ∀ {ns : List Int} {xs : List V}, AllR (ns.map fun n => dat K (.int n)) B xs → xs = ns.map V.int
  | [], xs, h => h
  | n :: ns, xs, ⟨v, u, e, h, t⟩ => by
    rw [e, dat_int h, dats_ints t]
    rfl
theorem rc_sum {ns : List Int} : Rc (rSum K) B [dat K (.list (ns.map .int))] (dat K (.int ns.sum)) := fun vs B1 H _ s2 hv Q q => by
  obtain ⟨v, r, rfl, h, h2⟩ := hv
  have h2 : r = [] := h2
  subst h2
  obtain ⟨a, xs, rfl, hs, hR⟩ := dat_lstR h
  rw [List.map_map] at hR
  have e := dats_ints (K := K) (ns := ns) hR
  subst e
  exact ⟨a, ns, rfl, s2.seq hs, q _ B1 H (.refl s2) (.int _)⟩
theorem De.gcd {t b : Int} {tr : TA} (h : Da tr σ B [dat K (.int t), dat K (.int b)]) : De (tCB rGcd tr) σ B (dat K (.int ((Nat.gcd t.natAbs b.natAbs : Nat) : Int))) := .cb h fun vs B1 H _ s2 hv Q k => by
  obtain ⟨x, r, rfl, hx, y, r', rfl, hy, hr⟩ := hv
  have hr : r' = [] := hr
  subst hr
  exact ⟨t, b, by rw [dat_int hx, dat_int hy], k _ B1 H (.refl s2) (.int _)⟩
theorem De.abs {i : Int} (h : De te σ B (dat K (.int i))) : De (tCB (fun xs H Q => ∃ i, xs = [.int i] ∧ Q (.int (if i < 0 then -i else i)) H) (tCons te tNil)) σ B (dat K (.int (i.natAbs : Nat))) := .cb (.one h) fun vs B1 H _ s2 hv Q k => by
  obtain ⟨x, r, rfl, hx, hr⟩ := hv
  have hr : r = [] := hr
  subst hr
  refine ⟨i, by rw [dat_int hx], k _ B1 H (.refl s2) ?_⟩
  have : (if i < 0 then -i else i) = ((i.natAbs : Nat) : Int) := by split <;> omega
  rw [this]
  exact .int _
theorem kw2s {R R1 : Rel} {vs : List V} (h : AllR [R, R1] B vs) : AllR [R, R1] B (kwV [0, 1] vs) := by
  obtain ⟨x, r, rfl, hx, y, r', rfl, hy, hr⟩ := h
  have hr : r' = [] := hr
  subst hr
  exact ⟨x, _, rfl, hx, y, _, rfl, hy, rfl⟩
theorem low_eq {t b : Int} (hb : 0 < b) : t / ((Nat.gcd t.natAbs b.natAbs : Nat) : Int) = (Rat.divInt t b).num ∧ b / ((Nat.gcd t.natAbs b.natAbs : Nat) : Int) = ((Rat.divInt t b).den : Int) := low_val t b hb
end
end Fq

set_option Elab.async false
set_option linter.all false
set_option maxRecDepth 100000
set_option maxHeartbeats 4000000
/-! Fb: fractions compared, added up. -/
namespace Fq
open PySem PySem.Spec PyProof.Rows L2 Wb Wv Wf
abbrev rInt1 : List V → Hp → VK → Prop := fun xs H Q => (∃ i, xs = [.int i] ∧ Q (.int i) H) ∨ ∃ k, xs = [.bl k] ∧ Q (.int (if k then 1 else 0)) H
abbrev spCmpD (K : PySem.W.Frag) : Sp := Pf (α := (Int × Int) × (Int × Int)) (fun a => [dat K (.tuple [.int a.1.1, .int a.1.2]), dat K (.tuple [.int a.2.1, .int a.2.2])]) (fun a => a.1.1.natAbs < 2 ^ 3000 ∧ a.1.2.natAbs < 2 ^ 3000 ∧ a.2.1.natAbs < 2 ^ 3000 ∧ a.2.2.natAbs < 2 ^ 3000) (fun a => dat K (.int (cmpI (a.1.1 * a.2.2) (a.2.1 * a.1.2))))
abbrev spSignD (K : PySem.W.Frag) : Sp := Pf (α := Int × Int) (fun a => [dat K (.tuple [.int a.1, .int a.2])]) (fun a => a.1.natAbs < 2 ^ 3000 ∧ a.2.natAbs < 2 ^ 3000) (fun a => dat K (.int (cmpI a.1 0)))
abbrev spTotalD (K : PySem.W.Frag) : Sp := Pf (α := List Rat) (fun qs => [dat K (.list (qs.map frD))]) (fun qs => ∃ k, 1 ≤ k ∧ k ≤ 3000 ∧ qs.length * k ≤ 6000 ∧ ∀ q ∈ qs, Sz k q) (fun qs => dat K (frD (sumR qs)))
section
variable {K : PySem.W.Frag} {σ : L2.St} {B B' : Hp} {ta tb te : TE} {p q : Rat} {E : XK}
theorem De.intB {b : Bool} (h : De te σ B (dat K (.bool b))) : De (tCB rInt1 (tCons te tNil)) σ B (dat K (.int (if b then 1 else 0))) := fun B1 H s1 s2 Q q => h B1 H s1 s2 _ fun v B2 H2 e hv => .inr ⟨b, by rw [dat_bl hv], q _ B2 H2 e (.int _)⟩
theorem De.intI {i : Int} (h : De te σ B (dat K (.int i))) : De (tCB rInt1 (tCons te tNil)) σ B (dat K (.int i)) := fun B1 H s1 s2 Q q => h B1 H s1 s2 _ fun v B2 H2 e hv => .inl ⟨i, by rw [dat_int hv], q _ B2 H2 e (.int _)⟩
theorem De.lcm {a b : Nat} {tr : TA} (h : Da tr σ B [dat K (.int a), dat K (.int b)]) (ha : a < 2 ^ 9000) (hb : b < 2 ^ 9000) : De (tCB rLcm tr) σ B (dat K (.int ((Nat.lcm a b : Nat) : Int))) := fun B1 H s1 s2 Q q => h B1 H s1 s2 _ fun vs B2 H2 e hv => by
  obtain ⟨x, r, rfl, hx, y, r', rfl, hy, hr⟩ := hv
  have hr : r' = [] := hr
  subst hr
  have hx := dat_int hx
  have hy := dat_int hy
  subst hx hy
  exact ⟨a, b, rfl, by simpa using ha, by simpa using hb, q _ B2 H2 e (.int _)⟩
theorem De.cmp {a b c d : Int} {tr : TA} (h : Da tr σ B [dat K (.tuple [.int a, .int b]), dat K (.tuple [.int c, .int d])]) (ha : a.natAbs < 2 ^ 3000) (hb : b.natAbs < 2 ^ 3000) (hc : c.natAbs < 2 ^ 3000) (hd : d.natAbs < 2 ^ 3000) : De (tCall (spCmpD K) [] E tr) σ B (dat K (.int (cmpI (a * d) (c * b)))) := De.call (args := fun a : (Int × Int) × (Int × Int) => [dat K (.tuple [.int a.1.1, .int a.1.2]), dat K (.tuple [.int a.2.1, .int a.2.2])]) (res := fun a => dat K (.int (cmpI (a.1.1 * a.2.2) (a.2.1 * a.1.2)))) ((a, b), (c, d)) h ⟨ha, hb, hc, hd⟩
theorem De.sign {a b : Int} (h : De te σ B (dat K (.tuple [.int a, .int b]))) (ha : a.natAbs < 2 ^ 3000) (hb : b.natAbs < 2 ^ 3000) : De (tCall (spSignD K) [] E (tCons te tNil)) σ B (dat K (.int (cmpI a 0))) := De.call (args := fun a : Int × Int => [dat K (.tuple [.int a.1, .int a.2])]) (res := fun a => dat K (.int (cmpI a.1 0))) (a, b) (.cons h .nil) ⟨ha, hb⟩
theorem De.total {qs : List Rat} {k : Nat} (h : De te σ B (dat K (.list (qs.map frD)))) (k1 : 1 ≤ k) (k3 : k ≤ 3000) (hk : qs.length * k ≤ 6000) (sz : ∀ q ∈ qs, Sz k q) : De (tCall (spTotalD K) [] E (tCons te tNil)) σ B (dat K (frD (sumR qs))) := De.call (args := fun qs : List Rat => [dat K (.list (qs.map frD))]) (res := fun qs => dat K (frD (sumR qs))) qs (.cons h .nil) ⟨k, k1, k3, hk, sz⟩
end
end Fq

set_option Elab.async false
set_option linter.all false
set_option maxRecDepth 100000
set_option maxHeartbeats 4000000
/-! Wx2: lists turned, tuples cut. -/
namespace Wv
open PySem PySem.Spec PyProof.Rows L2 Wb
theorem dpAll_rev {K : PySem.W.Frag} {B : Hp} : ∀ {vs : List V} {ds : List PyData}, DpAll K B vs ds → DpAll K B vs.reverse ds.reverse
  | _, _, .nil => .nil
  | _, _, .cons h t => by
    rw [List.reverse_cons, List.reverse_cons]
    exact dpAll_app (dpAll_rev t) (.cons h .nil)
section
variable {K : PySem.W.Frag} {σ : L2.St} {B H : Hp} {te : TE}
theorem De.revL {ds : List PyData} (h : De te σ B (dat K (.list ds))) : De (tRevL K te) σ B (dat K (.list ds.reverse)) := fun B1 H s1 s2 Q q => h B1 H s1 s2 _ fun v B2 H2 e hv => by
  obtain ⟨p, xs, rfl, hs, hR⟩ := dat_lstR hv
  exact ⟨p, xs, rfl, e.bh.seq hs, fun p2 hp2 => q _ _ _ (e.trans (Ext.new e.bh hp2)) (.lst (SqL.of upd_same) (dpMonoAll (new_same (e.bh.free hp2)) _ _ (dpAll_rev (allR_dp hR))))⟩
theorem De.slT {ds : List PyData} {tl th : TO} {lo hi : Option Int} (h : De te σ B (dat K (.tuple ds))) (h1 : Do tl σ B lo) (h2 : Do th σ B hi) : De (L2.tSl (rSlA K) te tl th) σ B (dat K (.tuple (cutA ds lo hi))) :=
  .sl h h1 h2 fun x B1 H s1 s2 hx Q q => by
    have hx0 := hx
    obtain ⟨a, xs, rfl, hs, hR⟩ := dat_tupR hx
    have g := allR_dp hR
    have len : xs.length = ds.length := dpAll_len g
    refine ⟨a, xs, rfl, seqT s2 hs, fun hw => q _ B1 H (.refl s2) ?_, fun _ p hp => q _ (upd B1 p (.tup (cutV xs lo hi))) _ (.new s2 hp) ?_⟩
    · have : cutA ds lo hi = ds := by
        unfold cutA
        rw [← len, hw.1, hw.2, List.drop_zero, Nat.sub_zero, len]
        exact List.take_length
      rw [this]
      exact hx0
    · refine .tup (SqT.of upd_same) (dpMonoAll (new_same (s2.free hp)) _ _ ?_)
      unfold cutV cutA
      rw [len]
      exact dpAll_take _ (dpAll_drop _ g)
theorem cutA_init {α : Type} (xs : List α) (x : α) : cutA (xs ++ [x]) none (some (-1)) = xs := by
  unfold cutA
  rw [HT.sIx_none, Nat.sub_zero, List.drop_zero]
  have : HT.sIx (xs ++ [x]).length (xs ++ [x]).length (some (-1)) = xs.length := by
    show (if (-1 : Int) < 0 then ((-1 : Int) + (((xs ++ [x]).length : Nat) : Int)).toNat else min (-1 : Int).toNat (xs ++ [x]).length) = _
    rw [if_pos (by decide), List.length_append]
    show ((-1 : Int) + ((xs.length + 1 : Nat) : Int)).toNat = _
    omega
  rw [this, List.take_left']
  rfl
end
end Wv

set_option Elab.async false
set_option linter.all false
set_option maxRecDepth 100000
set_option maxHeartbeats 4000000
/-! Wx3: tuples of numbers compared, texts compared, is None. -/
namespace Wv
open PySem PySem.Spec PyProof.Rows L2 Wb
theorem lexAt_shift {e r : Nat → Bool} {z : Bool} : ∀ (k i : Nat), Ob.lexAt e r z (i + 1) k = Ob.lexAt (fun j => e (j + 1)) (fun j => r (j + 1)) z i k
  | 0, _ => rfl
  | k + 1, i => by
    rw [Ob.lexAt_succ, Ob.lexAt_succ, lexAt_shift k (i + 1)]
theorem lexAt_le : ∀ ns ms : List Int, Ob.lexAt (fun j => decide (ns.getD j 0 = ms.getD j 0)) (fun j => decide (ns.getD j 0 ≤ ms.getD j 0)) (decide (ns.length ≤ ms.length)) 0 (min ns.length ms.length) = decide (ns ≤ ms)
  | [], ms => by
    rw [List.length_nil, Nat.zero_min, Ob.lexAt_zero]
    simp
  | n :: ns, [] => by
    rw [List.length_nil, Nat.min_zero, Ob.lexAt_zero]
    simp
  | n :: ns, m :: ms => by
    have ih := lexAt_le ns ms
    rw [List.length_cons, List.length_cons, Nat.succ_min_succ, Ob.lexAt_succ, lexAt_shift]
    simp only [List.getD_cons_zero, List.getD_cons_succ, Nat.add_le_add_iff_right]
    rw [ih]
    by_cases h : n = m
    · subst h
      simp [List.cons_le_cons_iff]
    · have : (n :: ns ≤ m :: ms) ↔ n ≤ m := by
        rw [List.cons_le_cons_iff]
        constructor
        · rintro (h1 | h1)
          · omega
          · exact absurd h1.1 h
        · intro h1
          exact .inl (by omega)
      simp [h, this]
section
variable {K : PySem.W.Frag} {σ : L2.St} {B H : Hp} {te ta : TE}
theorem s_skip' {tt : TT} {t : TS} {D : Ends} (h : Dt tt σ B false) (hB : Same B H) (k : ∀ B' H', Ext B H B' H' → D.nx σ H') : tIfS tt t tNext D σ H := s_if h hB (fun z => nomatch z) fun _ => k
theorem ints_vals {K : PySem.W.Frag} {B : Hp} : ∀ {w : List Int} {xs : List V}, DpAll K B xs (w.map .int) → xs = w.map V.int
  | [], _, .nil => rfl
  | i :: w, _, .cons h t => by
    cases h
    rw [List.map_cons, ints_vals t]
theorem Rv.leT {a b : List Int} : Rv (rLeT K) B (dat K (.tuple (a.map .int))) (dat K (.tuple (b.map .int))) (dat K (.bool (decide (a ≤ b)))) := fun x y B1 H _ s2 hx hy Q q => by
  cases hx with
  | tup hs hd =>
    cases hy with
    | tup hs2 hd2 =>
      refine ⟨_, _, a, b, rfl, rfl, ints_vals hd ▸ seqT s2 hs, ints_vals hd2 ▸ seqT s2 hs2, ?_⟩
      rw [lexAt_le]
      exact q _ B1 H (.refl s2) (.bl _)
theorem Rv.gtS {a b : Str} : Rv (fun x y H Q => ∃ i j, x = .str i ∧ y = .str j ∧ Q (.bl (decide (j.cps.toList < i.cps.toList))) H) B (dat K (.str a)) (dat K (.str b)) (dat K (.bool (decide (b.cps.toList < a.cps.toList)))) := fun x y B1 H _ s2 hx hy Q q =>
  ⟨a, b, dat_str hx, dat_str hy, q _ B1 H (.refl s2) (.bl _)⟩
theorem Rv.isNone : Rv (fun x y H Q => y = .non ∧ Q (.bl (decide (x = .non))) H) B (dat K .none) (dat K .none) (dat K (.bool true)) := fun x y B1 H _ s2 hx hy Q q => by
  cases hx
  cases hy
  exact ⟨rfl, q _ B1 H (.refl s2) (.bl _)⟩
end
end Wv

set_option Elab.async false
set_option linter.all false
set_option maxRecDepth 100000
set_option maxHeartbeats 4000000
/-! Wx4: a thing put into a list at a drawn place. -/
namespace Wv
open PySem PySem.Spec PyProof.Rows L2 Wb
abbrev rIns : V → List V → Hp → VK → Prop := fun x vs H Q => ∃ (l : Addr) (xs : List V) (i : Int) (y : V), x = .ref l ∧ vs = [.int i, y] ∧ H l = some (.lst xs) ∧ xs.length < sizeLine ∧ 0 ≤ i ∧ i < 2 ^ 63 ∧
    Q .non (upd H l (.lst (xs.take i.toNat ++ [y] ++ xs.drop i.toNat)))
section
variable {K : PySem.W.Frag} {σ : L2.St} {d c M : Addr} {B H : Hp} {E : XK} {i j n : Nat} {Q : VK}
theorem s_drop {te : TE} {rest : TS} {D : Ends} (h : te σ H fun _ H' => rest D σ H') : tSeq (tDrop te) rest D σ H := h
theorem s_dropE {te : TE} {D : Ends} (h : te σ H fun _ H' => D.nx σ H') : tDrop te D σ H := h
theorem c_insAny {xs : List V} {v : V} (L : Dl B H d c) (hd : σ[i]? = some (some (.ref d))) (hm : σ[j]? = some (some (.ref M))) (m : Ml d c B H M xs) (few : xs.length ≤ 1000) (hv : σ[n]? = some (some v))
    (k : ∀ (r : Nat) H', ExtD d c B H B H' → Ml d c B H' M xs → Q .non (upd H' M (.lst (xs.take r ++ [v] ++ xs.drop r)))) :
    tBM K "list" rIns (tVar j) (tCons (tCall spAny [] E (tCons (tVar i) (tCons (tOp (rI0 fun i j => V.int (i + j)) (tCB (rLen K) (tCons (tVar j) tNil)) (tC (.int 1))) tNil))) (tCons (tVar n) tNil)) σ H Q :=
  ⟨.ref M, hm, .inl ⟨rfl, xs, SqL.of m.at_⟩, .ref d, hd, .ref M, hm, .ref M, xs.length, rfl, .inl ⟨xs, SqL.of m.at_, rfl⟩, _, _, rfl, rfl, d, c, (xs.length : Int) + 1, rfl, L.deal, by omega, by omega, fun r H2 r0 r1 D2 S2 => by
    have e : ExtD d c B H B H2 := .draw L D2 S2
    have m' := m.ext e
    have := k r.toNat H2 e m'
    exact ⟨v, hv, M, xs, r, v, rfl, rfl, m'.at_, by rw [sizeLine_eq]; omega, r0, by omega, this⟩⟩
end
end Wv

set_option Elab.async false
set_option linter.all false
set_option maxRecDepth 100000
set_option maxHeartbeats 4000000
/-! Wx5: tests while the deal is drawn from, whose outcome is told. -/
namespace Wv
open PySem PySem.Spec PyProof.Rows L2 Wb
def Dwt (tt : TT) (σ : L2.St) (d c : Addr) (B : Hp) (b : Bool) : Prop := ∀ B1 H, Same B B1 → Dl B1 H d c → ∀ Q : Bool → Hp → Prop, (∀ B' H', ExtD d c B1 H B' H' → Q b H') → tt σ H Q
section
variable {K : PySem.W.Frag} {σ : L2.St} {d c : Addr} {B B' H : Hp} {te ta tb : TE} {tt tu : TT} {R S T : Rel} {D : Ends} {rest t u : TS}
theorem Dwt.of {b : Bool} (h : Dt tt σ B b) : Dwt tt σ d c B b := fun B1 H s L Q k => h B1 H s L.bh Q fun B' H' e => k B' H' (.of L e)
theorem Dwt.mono {b : Bool} (s : Same B B') (h : Dwt tt σ d c B b) : Dwt tt σ d c B' b := fun B1 H s1 L => h B1 H (s.trans s1) L
theorem Dwt.test {b : Bool} (h : Dw te σ d c B (dat K (.bool b))) : Dwt (tTest te) σ d c B b := fun B1 H s L Q k => h B1 H s L _ fun v B' H' e hv => ⟨b, dat_bl hv, k B' H' e⟩
theorem Dwt.tB {b : Bool} (h : Dw te σ d c B (dat K (.bool b))) : Dwt (tB te) σ d c B b := fun B1 H s L Q k => h B1 H s L _ fun v B' H' e hv => ⟨b, dat_bl hv, k B' H' e⟩
theorem Dwt.not {a : Bool} (h : Dwt tt σ d c B a) : Dwt (tNot tt) σ d c B (!a) := fun B1 H s L Q k => h B1 H s L _ k
theorem Dwt.eq {a b : Bool} (h : Dwt tt σ d c B a) (z : a = b) : Dwt tt σ d c B b := z ▸ h
theorem Dwt.or {a b : Bool} (h1 : Dwt tt σ d c B a) (h2 : a = false → Dwt tu σ d c B b) : Dwt (tOr tt tu) σ d c B (a || b) := fun B1 H s L Q k => h1 B1 H s L _ fun B2 H2 e => by
  cases a with
  | true => exact k B2 H2 e
  | false => exact h2 rfl B2 H2 (s.trans e.bb) e.dl Q fun B3 H3 e3 => k B3 H3 (e.trans L e3)
theorem s_skipW (L : Dl B H d c) (h : Dwt tt σ d c B false) (k : ∀ B' H', ExtD d c B H B' H' → rest D σ H') : tSeq (tIfS tt t tNext) rest D σ H := h B H (Same.refl _) L _ fun B' H' e => k B' H' e
end
end Wv

set_option Elab.async false
set_option linter.all false
set_option maxRecDepth 100000
set_option maxHeartbeats 4000000
/-! Wn0: dicts whose keys are tuples of any depth. -/
namespace Wb
open PySem PySem.Spec PyProof.Rows L2
abbrev NK (P : Program) (w : World) : HeapKind P w NestedKey := nestedKind P w
/-- an entry: its key, where the key stands, its value -/
abbrev Nen := NestedKey × Addr × V
def NV : List Nen → List (NestedKey × Addr × Value) → Prop := Paired fun p q => p.1 = q.1 ∧ p.2.1 = q.2.1 ∧ RelV p.2.2 q.2.2
def NdiH (P : Program) (w : World) (a : Addr) (l : List Nen) (h : Heap) : Prop := l.length ≤ sizeLine ∧ (a == sysModules) = false ∧ ∃ us, NV l us ∧ ∃ o es ep, h.get? a = some o ∧ o.ExactDict ∧ o.data = .dict es ep ∧ es.toList = us.map (entryOfKey (NK P w)) ∧ (us.map (·.1)).Nodup
/-- the dict at a -/
def NdiO (P : Program) (w : World) (a : Addr) (l : List Nen) : HO := .ext (NdiH P w a l)
def NkAt (K : PySem.W.Frag) (H : Hp) (k : NestedKey) (b : Addr) : Prop := Dp K H (.ref b) k.data ∧ k.depth ≤ 8
def NksAt (K : PySem.W.Frag) (H : Hp) (l : List Nen) : Prop := ∀ p ∈ l, NkAt K H p.1 p.2.1
def atN (l : List Nen) (k : NestedKey) : Option V := (l.find? fun p => decide (p.1 = k)).map (·.2.2)
def putN (l : List Nen) (k : NestedKey) (b : Addr) (v : V) : List Nen := if (atN l k).isSome = true then l.map (fun p => if p.1 = k then (p.1, p.2.1, v) else p) else l ++ [(k, b, v)]
theorem ndi_new {P : Program} {w : World} {H : Hp} {h : Heap} {a : Addr} {l : List Nen} (R : NdiH P w a l h) : ObjOk P w H h a (NdiO P w a l) := by
  have ⟨_, _, _, _, o, _, _, ho, _⟩ := R
  refine ⟨R, ⟨o, ho⟩, fun g1 g2 z keep => ?_⟩
  obtain ⟨c1, c2, us, r, o, es, ep, ho, rest⟩ := z
  exact ⟨c1, c2, us, r, o, es, ep, keep o ho, rest⟩
theorem NV.at_ {l : List Nen} {us : List (NestedKey × Addr × Value)} (r : NV l us) (k : NestedKey) : RelO (atN l k) ((atKey us k).map (·.2)) := by
  unfold NV at r
  induction r with
  | nil => exact True.intro
  | @cons p q ps qs h t ih =>
    obtain ⟨h1, _, h2⟩ := h
    by_cases e : p.1 = k
    · have b : atKey (q :: qs) k = some q.2 := by simp [atKey, List.find?_cons, h1.symm.trans e]
      have c : atN (p :: ps) k = some p.2.2 := by simp [atN, List.find?_cons, e]
      rw [c, b]
      exact h2
    · have b : atKey (q :: qs) k = atKey qs k := by simp [atKey, List.find?_cons, show ¬ q.1 = k from fun z => e (h1.trans z)]
      have c : atN (p :: ps) k = atN ps k := by simp [atN, List.find?_cons, e]
      rw [c, b]
      exact ih
theorem NV.repl {l : List Nen} {us : List (NestedKey × Addr × Value)} (r : NV l us) (k : NestedKey) {y : V} {u : Value} (ry : RelV y u) :
    NV (l.map fun p => if p.1 = k then (p.1, p.2.1, y) else p) (us.map (putAt k u)) := by
  unfold NV at *
  induction r with
  | nil => exact .nil
  | @cons p q ps qs h t ih =>
    rw [List.map_cons, List.map_cons]
    refine .cons ?_ ih
    obtain ⟨h1, h2, h3⟩ := h
    unfold putAt
    by_cases e : p.1 = k
    · rw [if_pos e, if_pos (h1.symm.trans e)]
      exact ⟨h1, h2, ry⟩
    · rw [if_neg e, if_neg (fun z => e (h1.trans z))]
      exact ⟨h1, h2, h3⟩
theorem NV.put {l : List Nen} {us : List (NestedKey × Addr × Value)} (r : NV l us) (k : NestedKey) {b : Addr} {y : V} {u : Value} (ry : RelV y u) : NV (putN l k b y) (storedH us k b u) := by
  have e : (atN l k).isSome = (atKey us k).isSome := by rw [(r.at_ k).isSome_eq, Option.isSome_map]
  unfold putN storedH
  rw [e]
  by_cases q : (atKey us k).isSome = true
  · rw [if_pos q, if_pos q]
    exact r.repl k ry
  · rw [if_neg q, if_neg q]
    exact Paired.snoc r ⟨rfl, rfl, ry⟩
theorem len_putN (l : List Nen) (k : NestedKey) (b : Addr) (v : V) : (putN l k b v).length ≤ l.length + 1 := by
  unfold putN
  split
  · rw [List.length_map]
    omega
  · simp
theorem NkAt.same {K : PySem.W.Frag} {H H' : Hp} {k : NestedKey} {b : Addr} (h : NkAt K H k b) (s : Same H H') : NkAt K H' k b := ⟨dpMono s _ _ h.1, h.2⟩
section
variable {X : Cx} {pins : List (Addr × Obj)} {σ : L2.St} {H : Hp} {s : Shared} {a b : Addr} {l : List Nen} {k : NestedKey} {A : Around} {E : Value → Shared → Prop}
mutual
theorem dp_nested (I : Inv X pins σ H s) : ∀ (k : NestedKey) (v : V) (u : Value), Dp X.K H v k.data → RelV v u → NestedIs s.heap k u
  | .none, _, _, h, r => by
    rw [NestedKey.data] at h
    cases h
    cases r
    exact .none
  | .num i, _, _, h, r => by
    rw [NestedKey.data] at h
    cases h
    obtain ⟨t, rfl⟩ := r
    exact .int i t
  | .text x, _, _, h, r => by
    rw [NestedKey.data] at h
    cases h
    obtain ⟨t, rfl⟩ := r
    exact .text x t
  | .tup ks, _, _, h, r => by
    rw [NestedKey.data] at h
    cases h with
    | tup hs hd =>
      cases r
      obtain ⟨its, rv, ⟨o, ho, hc, n, hdt⟩, _⟩ := I.tuple hs
      exact .tup ho hc hdt (by simpa using dp_nesteds I ks _ its hd rv)
theorem dp_nesteds (I : Inv X pins σ H s) : ∀ (ks : List NestedKey) (vs : List V) (us : List Value), DpAll X.K H vs (NestedKey.datas ks) → Vals vs us → NestedAll s.heap ks us
  | [], _, _, h, r => by
    rw [NestedKey.datas] at h
    cases h
    cases r
    exact .nil
  | k :: ks, _, _, h, r => by
    rw [NestedKey.datas] at h
    cases h with
    | cons h1 h2 =>
      cases r with
      | cons r1 r2 => exact .cons (dp_nested I k _ _ h1 r1) (dp_nesteds I ks _ _ h2 r2)
end
theorem nk_is (I : Inv X pins σ H s) (h : NkAt X.K H k b) : (NK X.prog X.w).is s.heap k b := ⟨dp_nested I k (.ref b) (.ref b) h.1 rfl, h.2⟩
theorem ndi_of (I : Inv X pins σ H s) (ha : H a = some (NdiO X.prog X.w a l)) (hk : NksAt X.K H l) : l.length ≤ sizeLine ∧ (a == sysModules) = false ∧ ∃ us, NV l us ∧ s.heap.DictOfH (NK X.prog X.w) a us := by
  obtain ⟨z, y, us, r, o, es, ep, h1, h2, h3, h4, h5⟩ := (I.hok a _ ha).1
  refine ⟨z, y, us, r, o, es, ep, h1, h2, h3, h4, fun x hx => ?_, h5⟩
  have all : ∀ {l : List Nen} {m : List (NestedKey × Addr × Value)}, NV l m → (∀ p ∈ l, NkAt X.K H p.1 p.2.1) → ∀ x ∈ m, (NK X.prog X.w).is s.heap x.1 x.2.1 := by
    intro l m q hl
    unfold NV at q
    induction q with
    | nil => intro x hx; exact nomatch hx
    | @cons p q ps qs hq t ih =>
      intro x hx
      rcases List.mem_cons.mp hx with e | hx
      · subst e
        rw [← hq.1, ← hq.2.1]
        exact nk_is I (hl p List.mem_cons_self)
      · exact ih (fun p hp => hl p (List.mem_cons_of_mem _ hp)) x hx
  exact all r hk x hx
/-- what a comprehension does with a key and a value -/
theorem n_dictSet {v : V} {r : Value} {Q : Unit → Shared → Prop} (hu : A.units + 8 < cLine) (I : Inv X pins σ H s) (ha : H a = some (NdiO X.prog X.w a l)) (hk : NksAt X.K H l) (hb : NkAt X.K H k b) (few : l.length < sizeLine) (rv : RelV v r)
    (h : ∀ s', Inv X pins σ (upd H a (NdiO X.prog X.w a (putN l k b v))) s' → Q () s') : wpAny (model X.prog X.w) A (dictSet a (.ref b) r) Q E s := by
  obtain ⟨z, hd, us, rel, dd⟩ := ndi_of I ha hk
  have hz : us.length ≤ sizeLine := by rw [← Paired.length rel]; exact z
  have hl : (putN l k b v).length ≤ sizeLine := by have := len_putN l k b v; omega
  refine wpAny_dictSet_heap (hsz := hz) hu (nk_is I hb) dd fun h' dd' hs => h _ ?_
  obtain ⟨q, es, ep, hq, h2, h3, h4, _, h5⟩ := dd'
  exact d_write I (by rw [ha]; exact True.intro) hs ⟨q, hq⟩ (ndi_new ⟨hl, hd, _, rel.put k rv, q, es, ep, hq, h2, h3, h4, h5⟩)
theorem n_in {Q : Value → Shared → Prop} (hu : A.in1.units + 8 < cLine) (I : Inv X pins σ H s) (ha : H a = some (NdiO X.prog X.w a l)) (hk : NksAt X.K H l) (hb : NkAt X.K H k b) (h : ∀ s', Inv X pins σ H s' → Q (.bool (atN l k).isSome) s') :
    wpAny (model X.prog X.w) A (compareOp .In (.ref b) (.ref a)) Q E s := by
  obtain ⟨z, hd, us, rel, dd⟩ := ndi_of I ha hk
  refine wpAny_in_heap hu (nk_is I hb) hd dd ?_
  have q := (rel.at_ k).isSome_eq
  rw [Option.isSome_map] at q
  rw [← q]
  exact h _ (I.tok _)
theorem n_notIn {Q : Value → Shared → Prop} (hu : A.in1.units + 8 < cLine) (I : Inv X pins σ H s) (ha : H a = some (NdiO X.prog X.w a l)) (hk : NksAt X.K H l) (hb : NkAt X.K H k b) (h : ∀ s', Inv X pins σ H s' → Q (.bool (!(atN l k).isSome)) s') :
    wpAny (model X.prog X.w) A (compareOp .NotIn (.ref b) (.ref a)) Q E s := by
  obtain ⟨z, hd, us, rel, dd⟩ := ndi_of I ha hk
  refine wpAny_notIn_heap hu (nk_is I hb) hd dd ?_
  have q := (rel.at_ k).isSome_eq
  rw [Option.isSome_map] at q
  rw [← q]
  exact h _ (I.tok _)
end
/-- y in d, y not in d -/
def rNIn (K : PySem.W.Frag) (P : Program) (w : World) (neg : Bool) : R2 := fun y x H Q => ∃ a b l k, x = .ref a ∧ y = .ref b ∧ H a = some (NdiO P w a l) ∧ NksAt K H l ∧ NkAt K H k b ∧ Q (.bl (if neg = true then !(atN l k).isSome else (atN l k).isSome)) H
section
variable {X : Cx}
theorem op_nin (hu : X.A.in1.units + 8 < cLine) : OpR X (compareOp .In) (rNIn X.K X.prog X.w false) := by
  intro pins s σ H x y v u Q I rx ry h
  obtain ⟨a, b, l, k, rfl, rfl, ha, hk, hb, q⟩ := h
  cases rx
  cases ry
  exact n_in hu I ha hk hb fun s' I' => ⟨.bl (atN l k).isSome, H, I', rfl, q⟩
theorem op_nnotIn (hu : X.A.in1.units + 8 < cLine) : OpR X (compareOp .NotIn) (rNIn X.K X.prog X.w true) := by
  intro pins s σ H x y v u Q I rx ry h
  obtain ⟨a, b, l, k, rfl, rfl, ha, hk, hb, q⟩ := h
  cases rx
  cases ry
  exact n_notIn hu I ha hk hb fun s' I' => ⟨.bl (!(atN l k).isSome), H, I', rfl, q⟩
end
end Wb

set_option Elab.async false
set_option linter.all false
set_option maxRecDepth 100000
set_option maxHeartbeats 4000000
/-! Wn1: a dict made of an iteration, its keys tuples of any depth. -/
namespace Wb
open PySem PySem.Spec PyProof.Rows L2
/-- what a turn must leave: an entry more in the dict at D, or nothing -/
def Turned (K : PySem.W.Frag) (P : Program) (w : World) (D : Addr) (g : TG) (tt : TT) (tk tv : TE) (vs : List Nat) (σ : L2.St) (x : V) (G : Hp) (Nx : Hp → Prop) : Prop :=
  g x (wipe σ vs) G fun τ G1 => wipe τ vs = wipe σ vs ∧ tt τ G1 fun b G2 => if b = true then
    tk τ G2 fun y G3 => tv τ G3 fun z G4 => ∃ l k at_, y = .ref at_ ∧ G4 D = some (NdiO P w D l) ∧ NksAt K G4 l ∧ NkAt K G4 k at_ ∧ l.length < sizeLine ∧ Nx (upd G4 D (NdiO P w D (putN l k at_ z)))
  else Nx G2
/-- {k: v for .. in ..} -/
def tDcN (K : PySem.W.Frag) (P : Program) (w : World) (wi : TI) (g : TG) (tt : TT) (tk tv : TE) (vs : List Nat) : TE := fun σ H Q => wi σ H fun J G => ∀ D, G D = none → ∃ W : Nat → Nat → Hp → Prop, (∃ m, W 0 m (upd G D (NdiO P w D []))) ∧
  ∀ i m G, W i m G → (J.stop i G ∧ Q (.ref D) G) ∨ (J.go i G ∧ ∃ Nx : Hp → Prop, (∀ G', Nx G' → ∃ m', m' < m ∧ W (i + 1) m' G') ∧ ∀ x G', J.yld i G x G' → Turned K P w D g tt tk tv vs σ x G' Nx)
section
variable {X : Cx} {kx vx tg iter : Expr} {ifs : List Expr} {scope : Scope} {own : List (Str × Nat)} {pos pos' : Pos} {wi : TI} {g : TG} {tt : TT} {tk tv : TE}
/-- the parts of such a comprehension, read in any block of it -/
structure DcParts (X : Cx) (scope : Scope) (kx vx tg : Expr) (ifs : List Expr) (g : TG) (tt : TT) (tk tv : TE) : Prop where
  pg : ∀ (u : Shared) (G : Hp) (C : Addr) (cl : List (Str × Addr)) (fp : List Addr), PG (X.blk u G scope (compEnvC scope cl C X.env) fp) tg g
  pt : ∀ (u : Shared) (G : Hp) (C : Addr) (cl : List (Str × Addr)) (fp : List Addr), PTs (X.blk u G scope (compEnvC scope cl C X.env) fp) ifs tt
  pk : ∀ (u : Shared) (G : Hp) (C : Addr) (cl : List (Str × Addr)) (fp : List Addr), PE (X.blk u G scope (compEnvC scope cl C X.env) fp) kx tk
  pv : ∀ (u : Shared) (G : Hp) (C : Addr) (cl : List (Str × Addr)) (fp : List Addr), PE (X.blk u G scope (compEnvC scope cl C X.env) fp) vx tv
theorem ndi_empty {P : Program} {w : World} {G : Hp} (h : Heap) (big : sysModules < h.objs.size) : ObjOk P w G (h.push { cls := .type "dict", data := .dict #[] }) h.objs.size (NdiO P w h.objs.size []) :=
  ndi_new ⟨Nat.zero_le _, beq_eq_false_iff_ne.mpr (Ne.symm (Nat.ne_of_lt big)), [], .nil, _, #[], 0, Heap.get?_push_size _ rfl, ⟨rfl, rfl, rfl⟩, rfl, rfl, List.nodup_nil⟩
theorem dcN_core {pins : List (Addr × Obj)} {s : Shared} {σ : L2.St} {H : Hp} {Q : VK} {use : Option (Value → Sem Unit)} {Qf : Value → Shared → Prop} (calm : X.calm = true) (room : X.A.units + 8 < cLine) (nd : X.N.Nodup) (I : Inv X pins σ H s) (hi : PI X tg iter wi)
    (ok : BlkOk X.N X.env.scope scope own) (ps : DcParts X scope kx vx tg ifs g tt tk tv) (fold : ∀ x, foldedSetIterable iter X.env x = pure x) (h : tDcN X.K X.prog X.w wi g tt tk tv (own.map (·.2)) σ H Q)
    (post : ∀ D C u m G, Inv X pins σ G u → Q (.ref D) G → u.heap.Ns C m → FpOk X pins G C → compPost (model X.prog X.w) X.A X.xe use Qf (.ref D) C (.ok .next) u) :
    wpAny (model X.prog X.w) X.A (comprehension (.DictComp kx vx [⟨tg, iter, ifs, 0⟩] scope pos) scope X.env pos' newDict false (eval iter X.env) use) Qf X.xe s := by
  have cells : ∀ y ∈ scope.names, y.2 = .free → ∃ c, X.env.cells.lookup y.1 = some c := fun y hy free => (ok.free y hy free).elim (fun k => I.ok.has _ (.inl k)) fun k => I.ok.has _ (.inr k)
  refine wpAny_comprehension_free (use := use) rfl fold (closure_ok cells) ok.kind (fun y hy free => by rw [ok.uniq y hy, free]) (thn (hi.run pins s σ H _ I h) fun _ u1 w1 => thn w1 fun _ u2 w2 => ?_)
  obtain ⟨it, fp, tn, J, G0, rfl, J0, T, start, apart, k⟩ := w2
  refine wpAny_newObj_type (newEnv_comp ?_)
  -- where the new dict stands
  obtain ⟨D, eD⟩ : ∃ D, u2.heap.objs.size = D := ⟨_, rfl⟩
  have free0 : G0 D = none := J0.hok.fresh (Nat.le_of_eq eD)
  obtain ⟨W, ⟨n0, first⟩, turns⟩ := k D free0
  obtain ⟨u3, e3⟩ : ∃ u3 : Shared, ({ u2 with heap := u2.heap.push { cls := .type "dict", data := .dict #[] } } : Shared) = u3 := ⟨_, rfl⟩
  have J3 : Inv X pins σ (upd G0 D (NdiO X.prog X.w D [])) u3 := by
    rw [← e3, ← eD]
    exact J0.laid (t' := u2.toks) (fun _ _ z => Heap.get?_push_of_some _ z) (Nat.le_refl _) (ndi_empty u2.heap J0.big)
  rw [e3]
  have hp3 : u3.heap = u2.heap.push { cls := .type "dict", data := .dict #[] } := by rw [← e3]
  have lt2 : ∀ b ∈ fp, b < u2.heap.objs.size := fun b hb => let ⟨_, z, _⟩ := T.obj _ _ start b hb; Heap.lt_size z
  generalize eG : upd G0 D (NdiO X.prog X.w D []) = G3 at J3 first
  have apart3 : ∀ b ∈ fp, FpOk X pins G3 b ∧ b < u3.heap.objs.size := fun b hb => by
    have l := lt2 b hb
    refine ⟨⟨?_, (apart b hb).2⟩, by rw [hp3, Heap.size_push]; exact Nat.lt_succ_of_lt l⟩
    rw [← eG, upd_ne (eD ▸ Nat.ne_of_lt l)]
    exact (apart b hb).1
  have start3 : tn 0 u3.heap := T.keep _ _ _ start fun b _ o z => by rw [hp3]; exact Heap.get?_push_of_some _ z
  have J4 := block_start J3 ok nd apart3
  obtain ⟨cl, ecl⟩ : ∃ cl, cellsFrom (u3.heap.objs.size + 1) scope.names (cloFrom X.env.cells scope.names []) = cl := ⟨_, rfl⟩
  obtain ⟨ce, ece⟩ : ∃ ce, compEnvC scope cl u3.heap.objs.size X.env = ce := ⟨_, rfl⟩
  have bg := ps.pg u3 G3 u3.heap.objs.size cl fp
  have bt := ps.pt u3 G3 u3.heap.objs.size cl fp
  have bk := ps.pk u3 G3 u3.heap.objs.size cl fp
  have bv := ps.pv u3 G3 u3.heap.objs.size cl fp
  rw [ecl] at J4
  rw [ece] at J4 bg bt bk bv
  have loc : ce.locals = u3.heap.objs.size := by rw [← ece]; rfl
  have none3 : ∀ b ∈ fp, G3 b = none := fun b hb => (apart3 b hb).1.1
  obtain ⟨u4, e4⟩ : ∃ u4 : Shared, ({ u3 with heap := pushCells (u3.heap.push { cls := .type "dict", data := .dict #[] }) scope.names } : Shared) = u4 := ⟨_, rfl⟩
  suffices go : codeAny (model X.prog X.w) X.A (.compStart (.DictComp kx vx [⟨tg, iter, ifs, 0⟩] scope pos) 0 (.ref it) (.ref D) ce) (compPost (model X.prog X.w) X.A X.xe use Qf (.ref D) u3.heap.objs.size) u4 by
    rw [← e4, ← ece, ← ecl] at go
    rw [eD]
    exact go
  rw [e4] at J4
  have start4 : tn 0 u4.heap := T.keep _ _ _ start3 fun b _ o z => by rw [← e4]; exact pushCells_keeps _ _ _ _ (Heap.get?_push_of_some _ z)
  -- what the iteration stands on stays apart from the block
  have still : ∀ {τ : L2.St} {G : Hp} {u : Shared}, Inv (X.blk u3 G3 scope ce fp) [] τ G u → (∀ b ∈ fp, G b = none) → ∀ b ∈ fp, FpOk (X.blk u3 G3 scope ce fp) [] G b := fun {τ G u} J' no b hb =>
    ⟨no b hb, (J'.ok.exf b hb).1, J'.ok.exfs b hb, .inl hb, fun x c z => (J'.ok.exf b hb).2 x c z, fun p hp => by simp at hp⟩
  have looped : codeAny (model X.prog X.w) X.A (.compLoop (.DictComp kx vx [⟨tg, iter, ifs, 0⟩] scope pos) 0 (.ref it) (.ref D) ce) (compPost (model X.prog X.w) X.A X.xe use Qf (.ref D) u3.heap.objs.size) u4 := by
    refine compLoop_anyD (fun n u => ∃ i G, Inv (X.blk u3 G3 scope ce fp) [] (wipe σ (own.map (·.2))) G u ∧ tn i u.heap ∧ (∀ b ∈ fp, G b = none) ∧ W i n G) ?_ n0 ⟨0, G3, J4, start4, none3, first⟩
    rintro n u5 ⟨i, G5, J5, at5, no5, w5⟩
    obtain ⟨halt, q⟩ | ⟨more, Nx, next, turn⟩ := turns i n G5 w5
    · -- the end: back to the def
      refine thnF (T.done (X.blk u3 G3 scope ce fp) rfl rfl rfl calm i [] u5 _ G5 (fun _ _ => False) J5 (still J5 no5) at5 halt) fun _ u6 ⟨e6, J6⟩ => ?_
      subst e6
      have gone : G5 u3.heap.objs.size = none := by have z : G5 ce.locals = none := J6.free; rwa [loc] at z
      obtain ⟨m, ns, _⟩ := J6.loc
      have ns : u6.heap.Ns ce.locals m := ns
      rw [loc] at ns
      refine post D u3.heap.objs.size u6 m G5 (J3.call' (ch := fp) J6.os J6.base J6.hok J6.bare fun b hb => ?_) q ns (J3.fpOk (Nat.le_refl _) gone)
      have f := (apart3 b hb).1
      exact ⟨f.2.2.2.1, f.2.1, f.2.2.2.2.1, f.2.2.2.2.2⟩
    · -- a turn
      refine thnF (T.item (X.blk u3 G3 scope ce fp) rfl rfl rfl calm i [] u5 _ G5 (fun _ _ => False) J5 (still J5 no5) at5 more) fun _ u6 ⟨u, e6, w6⟩ => ?_
      subst e6
      refine thnF w6 fun _ u7 ⟨x, G7, J7, r7, y7, at7, no7⟩ => ?_
      have P7 := J7.pinned (still J7 no7) (T.obj _ _ at7)
      refine thnF (bg.run _ u7 _ G7 x u _ P7 r7 (turn x G7 y7)) fun _ u8 ⟨τ, G8, J8, same8, k8⟩ => ?_
      refine thnF (bt.run _ u8 τ G8 _ J8 k8) fun b u9 ⟨G9, J9, k9⟩ => ?_
      have done : ∀ {u' : Shared} {G' : Hp}, Inv (X.blk u3 G3 scope ce fp) ([] ++ pinsAt fp u7.heap) τ G' u' → Nx G' → ∃ m, m < n ∧ ∃ i G, Inv (X.blk u3 G3 scope ce fp) [] (wipe σ (own.map (·.2))) G u' ∧ tn i u'.heap ∧ (∀ b ∈ fp, G b = none) ∧ W i m G := fun {u' G'} J' nx => by
        obtain ⟨m, lt, w'⟩ := next G' nx
        have kept : ∀ b ∈ fp, ∀ o, u7.heap.get? b = some o → u'.heap.get? b = some o ∧ G' b = none := fun b hb o z => by
          have a := J'.pin (b, o) (List.mem_append_right _ (List.mem_append_right _ (mem_pinsAt hb z)))
          exact ⟨a.1, a.2.1⟩
        refine ⟨m, lt, i + 1, G', (J'.unpinned (pins := [])).weak (by rw [← same8, wipe_length]) (fun j v z => by rw [← same8] at z; exact (wipe_some z).1), T.keep _ _ _ at7 fun b hb o z => (kept b hb o z).1, fun b hb => ?_, w'⟩
        obtain ⟨o, z, _⟩ := T.obj _ _ at7 b hb
        exact (kept b hb o z).2
      by_cases hb : b = true
      · dsimp only at k9 ⊢
        rw [if_pos hb] at k9 ⊢
        refine thnF (bk.run _ u9 τ G9 _ J9 k9) fun _ u10 ⟨y, G10, J10, r10, k10⟩ => thnF (bv.run _ u10 τ G10 _ J10 k10) fun _ u11 ⟨z, G11, J11, r11, l, key, at_, ey, hD, hl, hk, few, nx⟩ => ?_
        subst ey
        cases r10
        exact n_dictSet (X := X.blk u3 G3 scope ce fp) room J11 hD hl hk few r11 fun u12 J12 => done J12 nx
      · dsimp only at k9 ⊢
        rw [if_neg hb] at k9 ⊢
        exact done J9 k9
  exact codeAny_compStart_dict looped (T.self X.A 0 _ _ _ start4 looped)
/-- as a value -/
theorem pe_dcN (calm : X.calm = true) (room : X.A.units + 8 < cLine) (nd : X.N.Nodup) (hi : PI X tg iter wi) (ok : BlkOk X.N X.env.scope scope own) (ps : DcParts X scope kx vx tg ifs g tt tk tv) (fold : ∀ x, foldedSetIterable iter X.env x = pure x := by intro _; rfl) :
    PE X (.DictComp kx vx [⟨tg, iter, ifs, 0⟩] scope pos) (tDcN X.K X.prog X.w wi g tt tk tv (own.map (·.2))) := ⟨fun pins s σ H Q I h => by
  rw [arm_eval_DictComp]
  refine dcN_core calm room nd I hi ok ps fold h fun D C u m G J q ns f => ⟨m, ns, fun _ sb => ?_⟩
  exact ⟨.ref D, G, J.turned (t' := u.toks) (fun b o hb z => (sb.2 b hb).trans z) f.1 f.2.1 f.2.2.2.1 f.2.2.2.2.1 f.2.2.2.2.2, rfl, q⟩⟩
end
end Wb

set_option Elab.async false
set_option linter.all false
set_option maxRecDepth 100000
set_option maxHeartbeats 4000000
/-! Wn2: what such a dict is worth: the keys that are in it. -/
namespace Wv
open PySem PySem.Spec PyProof.Rows L2 Wb
/-- a dict with just these keys -/
def nsR (K : PySem.W.Frag) (P : Program) (w : World) (ks : List NestedKey) : Rel := fun B v => ∃ a l, v = .ref a ∧ B a = some (NdiO P w a l) ∧ NksAt K B l ∧ ∀ k, (atN l k).isSome = decide (k ∈ ks)
instance {K : PySem.W.Frag} {P : Program} {w : World} {ks : List NestedKey} : Mo (nsR K P w ks) := ⟨fun s ⟨a, l, e, h, g, m⟩ => ⟨a, l, e, s a _ h, fun p hp => (g p hp).same s, m⟩⟩
theorem atN_put {l : List Nen} {k k' : NestedKey} {b : Addr} {v : V} : (atN (putN l k b v) k').isSome = ((atN l k').isSome || decide (k' = k)) := by
  have app : ∀ {l : List Nen} {e : Nen}, (atN (l ++ [e]) k').isSome = ((atN l k').isSome || decide (e.1 = k')) := fun {l e} => by
    unfold atN
    rw [List.find?_append, Option.map_or, Option.isSome_or]
    congr 1
    by_cases h : e.1 = k' <;> simp [List.find?_cons, h]
  have rep : ∀ {l : List Nen}, (atN (l.map fun p => if p.1 = k then (p.1, p.2.1, v) else p) k').isSome = (atN l k').isSome := fun {l} => by
    induction l with
    | nil => rfl
    | cons p l ih =>
      unfold atN at *
      rw [List.map_cons, List.find?_cons, List.find?_cons]
      have e1 : (if p.1 = k then (p.1, p.2.1, v) else p).1 = p.1 := by split <;> rfl
      rw [e1]
      by_cases h : p.1 = k'
      · simp [h]
      · simp only [h, decide_false]
        exact ih
  unfold putN
  by_cases h : (atN l k).isSome = true
  · rw [if_pos h, rep]
    by_cases e : k' = k
    · subst e
      rw [h]
      rfl
    · simp [e]
  · rw [if_neg h, app]
    congr 1
    by_cases e : k' = k
    · simp [e]
    · simp [e, Ne.symm e]
theorem NksAt.put {K : PySem.W.Frag} {H : Hp} {l : List Nen} {k : NestedKey} {b : Addr} {v : V} (h : NksAt K H l) (hb : NkAt K H k b) : NksAt K H (putN l k b v) := by
  intro p hp
  unfold putN at hp
  split at hp
  · obtain ⟨q, hq, rfl⟩ := List.mem_map.mp hp
    have := h q hq
    split
    · exact this
    · exact this
  · rcases List.mem_append.mp hp with hp | hp
    · exact h p hp
    · rw [List.mem_singleton] at hp
      rw [hp]
      exact hb
section
variable {K : PySem.W.Frag} {P : Program} {w : World} {σ : L2.St} {B H : Hp} {te ta tk tv : TE} {tt : TT} {R S T : Rel}
theorem De.dcN {α : Type} {as : List α} {r : α → Rel} {wi : TI} {g : TG} {vs : List Nat} (key : α → NestedKey) (hi : Di wi σ B (as.map r)) (few : as.length < sizeLine)
    (turn : ∀ a x Bn G, a ∈ as → Same B Bn → Same Bn G → r a Bn x → ∃ τ, (∀ Q : L2.St → Hp → Prop, Q τ G → g x (wipe σ vs) G Q) ∧ wipe τ vs = wipe σ vs ∧ Dt tt τ Bn true ∧ De tk τ Bn (fun B v => ∃ b, v = .ref b ∧ NkAt K B (key a) b) ∧ De tv τ Bn (dat K (.bool true))) :
    De (tDcN K P w wi g tt tk tv vs) σ B (nsR K P w (as.map key)) := fun B1 H s1 s2 Q q => hi B1 H s1 s2 _ fun J B2 H2 e hw => fun D hD => by
  have walk : Walk J as.length (fun G => Same B2 G) (fun i G x G' => ∃ R, (as.map r)[i]? = some R ∧ ∀ Bc, Same B2 Bc → Same Bc G → ∃ Bn, Ext Bc G Bn G' ∧ R Bn x) := by
    have z := hw
    unfold Wk at z
    rwa [List.length_map] at z
  -- what holds ahead of turn i
  let Pv : Nat → Hp → Prop := fun i G => ∃ B' l, Ext B2 H2 B' G ∧ B' D = none ∧ G D = some (NdiO P w D l) ∧ NksAt K B' l ∧ l.length ≤ i ∧ ∀ k, (atN l k).isSome = decide (k ∈ (as.take i).map key)
  refine ⟨fun i m G => m = as.length - i ∧ i ≤ as.length ∧ Pv i G, ⟨as.length, (Nat.sub_zero _).symm, Nat.zero_le _, B2, [], .own e.bh hD, e.bh.free hD, upd_same, (fun p h => nomatch h), Nat.zero_le _, fun k => by rw [List.take_zero]; rfl⟩, ?_⟩
  rintro i m G ⟨rfl, le, B', l, e', nD, atD, hl, short, has⟩
  have on : Same B2 G := e'.bb.trans e'.bh
  rcases Nat.lt_or_ge i as.length with lt | ge
  · refine .inr ⟨walk.goes i G lt on, Pv (i + 1), fun G' p => ⟨as.length - (i + 1), by omega, rfl, lt, p⟩, fun x G' y => ?_⟩
    obtain ⟨R, hR, z⟩ := walk.yields i G x G' lt on y
    obtain ⟨Bn, e2, hx⟩ := z B' e'.bb e'.bh
    rw [List.getElem?_map] at hR
    obtain ⟨a, ha, rfl⟩ := Option.map_eq_some_iff.mp hR
    obtain ⟨τ, t1, t2, t3, t4, t5⟩ := turn a x Bn G' (List.mem_of_getElem? ha) (((s1.trans e.bb).trans e'.bb).trans e2.bb) e2.bh hx
    have some_ne : ∀ {o : HO}, (some o : Option HO) ≠ none := fun z => nomatch z
    have atD2 := e2.hh _ _ atD
    have nD2 : Bn D = none := e2.nw D (by rw [atD]; exact some_ne) nD
    refine t1 _ ⟨t2, t3 Bn G' (Same.refl _) e2.bh _ fun B3 H3 e3 => ?_⟩
    have atD3 := e3.hh _ _ atD2
    have nD3 : B3 D = none := e3.nw D (by rw [atD2]; exact some_ne) nD2
    refine t4 B3 H3 e3.bb e3.bh _ fun y4 B4 H4 e4 ⟨b, ey, hb⟩ => ?_
    subst ey
    have atD4 := e4.hh _ _ atD3
    have nD4 : B4 D = none := e4.nw D (by rw [atD3]; exact some_ne) nD3
    refine t5 B4 H4 (e3.bb.trans e4.bb) e4.bh _ fun y5 B5 H5 e5 hv => ?_
    have atD5 := e5.hh _ _ atD4
    have nD5 : B5 D = none := e5.nw D (by rw [atD4]; exact some_ne) nD4
    have e25 := ((e2.trans e3).trans e4).trans e5
    have e15 := e'.trans e25
    have hl5 : NksAt K B5 l := fun p hp => (hl p hp).same e25.bb
    have hb5 := hb.same e5.bb
    refine ⟨l, key a, b, rfl, atD5, fun p hp => (hl5 p hp).same e5.bh, hb5.same e5.bh, by omega, B5, putN l (key a) b y5, ⟨fun c u hc => ?_, e15.bb, fun c u hc => ?_, e15.nw⟩, nD5, upd_same, NksAt.put hl5 hb5, by have := len_putN l (key a) b y5; omega, fun k => ?_⟩
    · rw [upd_ne (ne_of_none hc hD)]
      exact e15.hh c u hc
    · rw [upd_ne (ne_of_none hc nD5)]
      exact e15.bh c u hc
    · rw [atN_put, has k, List.take_succ, ha, List.map_append]
      show (decide (k ∈ (as.take i).map key) || decide (k = key a)) = decide (k ∈ (as.take i).map key ++ [key a])
      by_cases h1 : k ∈ (as.take i).map key <;> by_cases h2 : k = key a <;> simp_all
  · have : i = as.length := by omega
    subst this
    rw [List.take_length] at has
    refine .inl ⟨walk.stops G on, q _ (upd B' D (NdiO P w D l)) G ⟨e.hh.trans e'.hh, (e.bb.trans e'.bb).trans (new_same nD), fun c u hc => ?_, fun c h1 h2 => ?_⟩ ⟨D, l, rfl, upd_same, fun p hp => (hl p hp).same (new_same nD), has⟩⟩
    · by_cases z : c = D
      · subst z
        rw [upd_same] at hc
        rw [← hc]
        exact atD
      · rw [upd_ne z] at hc
        exact e'.bh c u hc
    · have z : c ≠ D := fun z => by
        subst z
        cases o : H c with
        | none => exact h1 o
        | some u =>
          rw [e.hh c u o] at hD
          cases hD
      rw [upd_ne z]
      exact (e.trans e').nw c h1 h2
end
end Wv
namespace Wv
open PySem PySem.Spec PyProof.Rows L2 Wb
/-- a key, wherever it stands -/
def nkR (K : PySem.W.Frag) (k : NestedKey) : Rel := fun B v => ∃ b, v = .ref b ∧ NkAt K B k b
instance {K : PySem.W.Frag} {k : NestedKey} : Mo (nkR K k) := ⟨fun s ⟨b, e, h⟩ => ⟨b, e, h.same s⟩⟩
theorem dat_nk {K : PySem.W.Frag} {B : Hp} {v : V} {ks : List NestedKey} (h : dat K (NestedKey.tup ks).data B v) (d : (NestedKey.tup ks).depth ≤ 8) : nkR K (.tup ks) B v := by
  have h' := h
  unfold dat at h'
  rw [NestedKey.data] at h'
  cases h' with
  | tup hs hd => exact ⟨_, rfl, h, d⟩
theorem Rv.nIn {K : PySem.W.Frag} {P : Program} {w : World} {B : Hp} {k : NestedKey} {ks : List NestedKey} (neg : Bool) : Rv (rNIn K P w neg) B (nkR K k) (nsR K P w ks) (dat K (.bool (if neg = true then !decide (k ∈ ks) else decide (k ∈ ks)))) := fun x y B1 H _ s2 hx hy Q q => by
  obtain ⟨b, rfl, hb⟩ := hx
  obtain ⟨a, l, rfl, ha, hl, m⟩ := hy
  refine ⟨a, b, l, k, rfl, rfl, s2 a _ ha, fun p hp => (hl p hp).same s2, hb.same s2, ?_⟩
  rw [m]
  exact q _ B1 H (.refl s2) (.bl _)
end Wv
namespace Wb
open PySem PySem.Spec PyProof.Rows L2
theorem lt8 {n : Nat} (h : n + 64 < cLine) : n + 8 < cLine := by omega
theorem lt9 {A : Around} (h : A.units + 64 < cLine) : A.in1.units + 8 < cLine := by
  have : A.in1.units = A.units + 1 := rfl
  omega
section
variable {X : Cx} {kx vx tg iter : Expr} {ifs : List Expr} {scope : Scope} {own : List (Str × Nat)} {pos : Pos} {wi : TI} {g : TG} {tt : TT} {tk tv : TE}
theorem pe_dcM (calm : X.calm = true) (nd : X.N.Nodup) (hi : PI X tg iter wi) (ok : BlkOk X.N X.env.scope scope own)
    (pg : ∀ (u : Shared) (G : Hp) (C : Addr) (cl : List (Str × Addr)) (fp : List Addr), PG (X.blk u G scope (compEnvC scope cl C X.env) fp) tg g) (pt : ∀ (u : Shared) (G : Hp) (C : Addr) (cl : List (Str × Addr)) (fp : List Addr), PTs (X.blk u G scope (compEnvC scope cl C X.env) fp) ifs tt)
    (pk : ∀ (u : Shared) (G : Hp) (C : Addr) (cl : List (Str × Addr)) (fp : List Addr), PE (X.blk u G scope (compEnvC scope cl C X.env) fp) kx tk) (pv : ∀ (u : Shared) (G : Hp) (C : Addr) (cl : List (Str × Addr)) (fp : List Addr), PE (X.blk u G scope (compEnvC scope cl C X.env) fp) vx tv)
    (room : X.A.units + 64 < cLine) (fold : ∀ x, foldedSetIterable iter X.env x = pure x := by intro _; rfl) : PE X (.DictComp kx vx [⟨tg, iter, ifs, 0⟩] scope pos) (tDcN X.K X.prog X.w wi g tt tk tv (own.map (·.2))) :=
  pe_dcN calm (lt8 room) nd hi ok ⟨pg, pt, pk, pv⟩ fold
end
end Wb

set_option Elab.async false
set_option linter.all false
set_option maxRecDepth 100000
set_option maxHeartbeats 4000000
/-! Wn3: dicts keyed by tuples of any depth: made, read, written, sorted. -/
namespace Wb
open PySem PySem.Spec PyProof.Rows L2
section
variable {X : Cx} {pins : List (Addr × Obj)} {σ : L2.St} {H : Hp} {s : Shared} {a b : Addr} {l : List Nen} {k : NestedKey} {A : Around} {E : Value → Shared → Prop}
theorem n_isD (I : Inv X pins σ H s) (ha : H a = some (NdiO X.prog X.w a l)) : s.TypeIs (.ref a) "dict" ∧ (∀ b, Value.ref a = .ref b → ∃ ob, s.heap.get? b = some ob ∧ ob.dict = none) ∧ (a == sysModules) = false := by
  obtain ⟨z, y, us, r, o, es, ep, h1, h2, h3, h4, h5⟩ := (I.hok a _ ha).1
  refine ⟨⟨o, h1, h2.1⟩, fun b q => ?_, y⟩
  cases q
  exact ⟨o, h1, h2.2.1⟩
theorem n_getItem {v : V} {Q : Value → Shared → Prop} (hu : A.in1.units + 8 < cLine) (I : Inv X pins σ H s) (ha : H a = some (NdiO X.prog X.w a l)) (hk : NksAt X.K H l) (hb : NkAt X.K H k b) (e : atN l k = some v)
    (h : ∀ w' s', Inv X pins σ H s' → RelV v w' → Q w' s') : wpAny (model X.prog X.w) A (getItem (.ref a) (.ref b)) Q E s := by
  obtain ⟨z, hd, us, rel, dd⟩ := ndi_of I ha hk
  obtain ⟨w', hw, rw'⟩ := RelO.some_of (v := v) (o := (atKey us k).map (·.2)) (by rw [← e]; exact rel.at_ k)
  obtain ⟨p, hp, hp2⟩ := Option.map_eq_some_iff.mp hw
  refine wpAny_getItem_heap hu (nk_is I hb) dd hp ?_
  rw [hp2]
  exact h w' _ (I.tok _) rw'
theorem n_get2 {d : V} {r : Value} {Q : Value → Shared → Prop} (hu : A.in1.units + 8 < cLine) (I : Inv X pins σ H s) (ha : H a = some (NdiO X.prog X.w a l)) (hk : NksAt X.K H l) (hb : NkAt X.K H k b) (rd : RelV d r)
    (h : ∀ w' s', Inv X pins σ H s' → RelV ((atN l k).getD d) w' → Q w' s') : wpAny (model X.prog X.w) A (call (.builtin "dict.get") [.ref a, .ref b, r]) Q E s := by
  obtain ⟨z, hd, us, rel, dd⟩ := ndi_of I ha hk
  exact call_meetsIn PySem.F.slot_dict_get dd.typeIs PySem.F.entry_dict_get (PySem.F.args_dict_get_3 _ _ _) (meetsH_dict_get_default (NK X.prog X.w) a b hd r) ⟨hu, k, us, nk_is I hb, dd, h _ _ (I.tok _) ((rel.at_ k).getD rd)⟩
theorem n_setItem {v : V} {r : Value} {Q : Unit → Shared → Prop} (hu : A.in1.units + 8 < cLine) (I : Inv X pins σ H s) (ha : H a = some (NdiO X.prog X.w a l)) (hk : NksAt X.K H l) (hb : NkAt X.K H k b) (few : l.length < sizeLine) (rv : RelV v r)
    (h : ∀ s', Inv X pins σ (upd H a (NdiO X.prog X.w a (putN l k b v))) s' → Q () s') : wpAny (model X.prog X.w) A (setItem (.ref a) (.ref b) r) Q E s := by
  obtain ⟨z, hd, us, rel, dd⟩ := ndi_of I ha hk
  have hz : us.length ≤ sizeLine := by rw [← Paired.length rel]; exact z
  have hl : (putN l k b v).length ≤ sizeLine := by have := len_putN l k b v; omega
  refine wpAny_setItem_heap (hsz := hz) hu (nk_is I hb) dd fun h' dd' hs => h _ ?_
  obtain ⟨q, es, ep, hq, h2, h3, h4, _, h5⟩ := dd'
  exact d_write I (by rw [ha]; exact True.intro) hs ⟨q, hq⟩ (ndi_new ⟨hl, hd, _, rel.put k rv, q, es, ep, hq, h2, h3, h4, h5⟩)
theorem n_setdefault {v : V} {r : Value} {Q : Value → Shared → Prop} (hu : A.in1.units + 8 < cLine) (I : Inv X pins σ H s) (ha : H a = some (NdiO X.prog X.w a l)) (hk : NksAt X.K H l) (hb : NkAt X.K H k b) (few : l.length < sizeLine) (rv : RelV v r)
    (h1 : ∀ x, atN l k = some x → ∀ w' s', Inv X pins σ H s' → RelV x w' → Q w' s')
    (h2 : atN l k = none → ∀ s', Inv X pins σ (upd H a (NdiO X.prog X.w a (putN l k b v))) s' → Q r s') : wpAny (model X.prog X.w) A (call (.builtin "dict.setdefault") [.ref a, .ref b, r]) Q E s := by
  obtain ⟨z, hd, us, rel, dd⟩ := ndi_of I ha hk
  have hz : us.length ≤ sizeLine := by rw [← Paired.length rel]; exact z
  have hl : (putN l k b v).length ≤ sizeLine := by have := len_putN l k b v; omega
  have ro := rel.at_ k
  refine call_setdefault_heap (hsz := hz) hu (nk_is I hb) hd dd (fun p hp => ?_) fun hn h' dd' hs => ?_
  · rw [hp] at ro
    cases e : atN l k with
    | none =>
      rw [e] at ro
      exact ro.elim
    | some x =>
      rw [e] at ro
      exact h1 x e _ _ (I.tok _) ro
  · rw [hn] at ro
    cases e : atN l k with
    | some x =>
      rw [e] at ro
      exact ro.elim
    | none =>
      refine h2 e _ ?_
      obtain ⟨q, es, ep, hq, g2, g3, g4, _, g5⟩ := dd'
      exact d_write I (by rw [ha]; exact True.intro) hs ⟨q, hq⟩ (ndi_new ⟨hl, hd, _, rel.put k rv, q, es, ep, hq, g2, g3, g4, g5⟩)
end
/-! ### as rules -/
/-- {} -/
def tNNew (P : Program) (w : World) : TE := fun _ H Q => ∀ p, H p = none → Q (.ref p) (upd H p (NdiO P w p []))
/-- the dict at a, the key at b -/
structure NdAt (K : PySem.W.Frag) (P : Program) (w : World) (H : Hp) (a b : Addr) (l : List Nen) (k : NestedKey) : Prop where
  at_ : H a = some (NdiO P w a l)
  ks : NksAt K H l
  kb : NkAt K H k b
/-- d[k] -/
def tNGet (K : PySem.W.Frag) (P : Program) (w : World) (td ty : TE) : TE := fun σ H Q => td σ H fun x H1 => ty σ H1 fun y H2 => ∃ a b l k v, x = .ref a ∧ y = .ref b ∧ NdAt K P w H2 a b l k ∧ atN l k = some v ∧ Q v H2
/-- d.get(k, x) -/
def tNGet2 (K : PySem.W.Frag) (P : Program) (w : World) (td ty tx : TE) : TE := fun σ H Q => td σ H fun x H1 => ∃ a l0, x = .ref a ∧ H1 a = some (NdiO P w a l0) ∧ ty σ H1 fun y H2 => tx σ H2 fun z H3 => ∃ b l k, y = .ref b ∧ NdAt K P w H3 a b l k ∧ Q ((atN l k).getD z) H3
/-- d.setdefault(k, x) -/
def tNSetd (K : PySem.W.Frag) (P : Program) (w : World) (td ty tx : TE) : TE := fun σ H Q => td σ H fun x H1 => ∃ a l0, x = .ref a ∧ H1 a = some (NdiO P w a l0) ∧ ty σ H1 fun y H2 => tx σ H2 fun z H3 => ∃ b l k, y = .ref b ∧ NdAt K P w H3 a b l k ∧ l.length < sizeLine ∧
  (∀ v, atN l k = some v → Q v H3) ∧ (atN l k = none → Q z (upd H3 a (NdiO P w a (putN l k b z))))
/-- d[k] = v -/
def sNPut (K : PySem.W.Frag) (P : Program) (w : World) (td ty tv : TE) : TS := fun D σ H => tv σ H fun v H1 => td σ H1 fun x H2 => ty σ H2 fun y H3 => ∃ a b l k, x = .ref a ∧ y = .ref b ∧ NdAt K P w H3 a b l k ∧ l.length < sizeLine ∧ D.nx σ (upd H3 a (NdiO P w a (putN l k b v)))
section
variable {X : Cx} {o i e f value : Expr} {pos pos' apos cpos : Pos} {td ty tx tv : TE}
theorem pe_nnew : PE X (.Dict [] [] pos) (tNNew X.prog X.w) := ⟨fun pins s σ H Q I h =>
  wpAny_Dict_empty ⟨.ref s.heap.objs.size, _, I.laid (a := s.heap.objs.size) (o := NdiO X.prog X.w s.heap.objs.size []) (t' := s.toks) (fun _ _ q => Heap.get?_push_of_some _ q) (Nat.le_refl _) (ndi_empty s.heap I.big), rfl, h _ (I.hok.fresh (Nat.le_refl _))⟩⟩
theorem pe_nget (hu : X.A.in1.units + 8 < cLine) (ho : PE X o td) (hi : PE X i ty) (hs : NoSl i) : PE X (.Subscript o i pos) (tNGet X.K X.prog X.w td ty) := by
  refine ⟨fun pins s σ H Q I h => ?_⟩
  refine subD_of PySem.F.slot_dict_getitem.lookup hs (thn (ho.run pins s σ H _ I h) fun u s1 ⟨x, H1, I1, rx, q1⟩ => thn (hi.run pins s1 σ H1 _ I1 q1) fun iv s2 ⟨y, H2, I2, ry, a, b, l, k, v, ex, ey, g, e, q2⟩ => ?_)
  subst ex ey
  obtain rfl : u = Value.ref a := rx
  obtain rfl : iv = Value.ref b := ry
  exact ⟨(n_isD I2 g.at_).1, n_getItem hu I2 g.at_ g.ks g.kb e fun w' s3 I3 rw' => ⟨v, H2, I3, rw', q2⟩⟩
theorem pe_nget2 (hu : X.A.in1.units + 8 < cLine) (ho : PE X o td) (he : PE X e ty) (hf : PE X f tx) (m : M2 X o "get" apos e f cpos) : PE X (.Call (.Attribute o "get" apos) [e, f] [] cpos) (tNGet2 X.K X.prog X.w td ty tx) := by
  refine ⟨fun pins s σ H Q I h => ?_⟩
  refine wpAny_Call_method m.base m.few m.line PySem.F.plainAttrs_dict PySem.F.slot_dict_get PySem.F.type_dict_get (thn (ho.run pins s σ H _ I h) fun u s1 ⟨x, H1, I1, rx, a, l0, ex, d, q1⟩ => ?_)
  subst ex
  obtain rfl : u = Value.ref a := rx
  obtain ⟨t1, t2, _⟩ := n_isD I1 d
  refine ⟨t1, t2, ?_⟩
  rw [m.trees]
  refine Calls.callWith_builtin rfl (Calls.evalArgs_plain (Calls.spliced_cons (thn (he.run pins s1 σ H1 _ I1 q1) fun iv s2 ⟨y, H2, I2, ry, q2⟩ =>
    Calls.spliced_cons (thn (hf.run pins s2 σ H2 _ I2 q2) fun fv s3 ⟨z, H3, I3, rz, b, l, k, ey, g, q3⟩ => Calls.spliced_nil ?_))))
  subst ey
  obtain rfl : iv = Value.ref b := ry
  exact n_get2 hu I3 g.at_ g.ks g.kb rz fun w' s4 I4 rw' => ⟨_, H3, I4, rw', q3⟩
theorem pe_nsetd (hu : X.A.in1.units + 8 < cLine) (ho : PE X o td) (he : PE X e ty) (hf : PE X f tx) (m : M2 X o "setdefault" apos e f cpos) : PE X (.Call (.Attribute o "setdefault" apos) [e, f] [] cpos) (tNSetd X.K X.prog X.w td ty tx) := by
  refine ⟨fun pins s σ H Q I h => ?_⟩
  refine wpAny_Call_method m.base m.few m.line PySem.F.plainAttrs_dict PySem.F.slot_dict_setdefault PySem.F.type_dict_setdefault (thn (ho.run pins s σ H _ I h) fun u s1 ⟨x, H1, I1, rx, a, l0, ex, d, q1⟩ => ?_)
  subst ex
  obtain rfl : u = Value.ref a := rx
  obtain ⟨t1, t2, _⟩ := n_isD I1 d
  refine ⟨t1, t2, ?_⟩
  rw [m.trees]
  refine Calls.callWith_builtin rfl (Calls.evalArgs_plain (Calls.spliced_cons (thn (he.run pins s1 σ H1 _ I1 q1) fun iv s2 ⟨y, H2, I2, ry, q2⟩ =>
    Calls.spliced_cons (thn (hf.run pins s2 σ H2 _ I2 q2) fun fv s3 ⟨z, H3, I3, rz, b, l, k, ey, g, few, q3, q4⟩ => Calls.spliced_nil ?_))))
  subst ey
  obtain rfl : iv = Value.ref b := ry
  exact n_setdefault hu I3 g.at_ g.ks g.kb few rz (fun x e w' s4 I4 rw' => ⟨x, H3, I4, rw', q3 x e⟩) fun e s4 I4 => ⟨z, _, I4, rz, q4 e⟩
theorem ps_nput (hu : X.A.in1.units + 8 < cLine) (ho : PE X o td) (hi : PE X i ty) (hv : PE X value tv) (hs : swapsWith value (some (.Subscript o i pos')) pos.line X.env = pure false) :
    PS X (.Assign [.Subscript o i pos'] value pos) (sNPut X.K X.prog X.w td ty tv) := by
  refine ⟨fun pins s σ H D I h => ?_⟩
  refine wpAny_Assign_Subscript (thn (hv.run pins s σ H _ I h) fun r s1 ⟨v, H1, I1, rv, q1⟩ => thn (ho.run pins s1 σ H1 _ I1 q1) fun u s2 ⟨x, H2, I2, rx, q2⟩ => thn (hi.run pins s2 σ H2 _ I2 q2) fun iv s3 ⟨y, H3, I3, ry, a, b, l, k, ex, ey, g, few, q3⟩ => ?_) hs
  subst ex ey
  obtain rfl : u = Value.ref a := rx
  obtain rfl : iv = Value.ref b := ry
  exact n_setItem hu I3 g.at_ g.ks g.kb few rv fun s4 I4 => ⟨σ, _, I4, q3⟩
end
/-! ### sorted -/
def rSortedN (K : PySem.W.Frag) (P : Program) (w : World) : List V → Hp → VK → Prop := fun vs H Q => ∃ (d : Addr) (kvs : List Nen), vs = [.ref d] ∧ H d = some (NdiO P w d kvs) ∧ NksAt K H kvs ∧ (∀ e ∈ kvs, ∃ ks, e.1 = .tup ks) ∧ PySem.W.AllAlike (kvs.map fun kv => kv.1.data) ∧
  ∀ p, H p = none → Q (.ref p) (upd H p (.lst (sortV (kvs.map fun e => V.ref e.2.1) (kvs.map fun kv => kv.1.data))))
theorem nv_addrs {kvs : List Nen} {us : List (NestedKey × Addr × Value)} (r : NV kvs us) : us.map (fun x => x.2.1) = kvs.map fun e => e.2.1 := by
  unfold NV at r
  induction r with
  | nil => rfl
  | cons h t ih => rw [List.map_cons, List.map_cons, ih, h.2.1]
theorem dp_nens {K : PySem.W.Frag} {H : Hp} : ∀ {kvs : List Nen}, NksAt K H kvs → DpAll K H (kvs.map fun e => V.ref e.2.1) (kvs.map fun kv => kv.1.data)
  | [], _ => .nil
  | p :: kvs, h => .cons (h p List.mem_cons_self).1 (dp_nens fun q hq => h q (List.mem_cons_of_mem _ hq))
mutual
theorem depth_data : ∀ k : NestedKey, k.data.depth ≤ k.depth
  | .none => by simp [NestedKey.data, PyData.depth]
  | .num i => by simp [NestedKey.data, PyData.depth]
  | .text x => by simp [NestedKey.data, PyData.depth]
  | .tup ks => by
    have := depth_datas ks
    simp only [NestedKey.data, PyData.depth, NestedKey.depth]
    omega
theorem depth_datas : ∀ ks : List NestedKey, PyData.depthAll (NestedKey.datas ks) ≤ NestedKey.depthAll ks
  | [] => by simp [NestedKey.datas, PyData.depthAll]
  | k :: ks => by
    have := depth_data k
    have := depth_datas ks
    simp only [NestedKey.datas, PyData.depthAll, NestedKey.depthAll]
    omega
end
section
variable {X : Cx}
theorem cr_sortedN (hc : X.calm = true) (hu : X.A.units + 64 < cLine) : CallR X (.builtin "sorted") (rSortedN X.K X.prog X.w) := by
  intro pins s σ H xs us Q I r h
  obtain ⟨d, kvs, rfl, hd, hka, htu, hal, q⟩ := h
  obtain ⟨u, rfl, rx⟩ := r.one
  cases rx
  obtain ⟨z, hs, ks, pr, o, es, ep, ho, hx, hdt, he, hn⟩ := (I.hok d _ hd).1
  have l1 : es.size = ks.length := size_of_entries he
  have l2 : kvs.length = ks.length := Paired.length pr
  refine PySem.W.sorted_src (kdl_raw hs hx hdt) (I.ok.hd hc) ho (by omega) fun h' tk acc kp it => ?_
  have ea : acc.toList = ks.map fun x => Value.ref x.2.1 := by
    have hl : acc.toList.length = ks.length := by rw [Array.length_toList, it.1]; exact l1
    apply List.ext_getElem?
    intro j
    rw [List.getElem?_map]
    cases hj : acc.toList[j]? with
    | none =>
      have h1 := List.getElem?_eq_none_iff.mp hj
      rw [List.getElem?_eq_none (by omega)]
      all_goals rfl
    | some v =>
      obtain ⟨en, hen, hv⟩ := it.2 j v (by rw [← Array.getElem?_toList]; exact hj)
      have qe := entry_at he j
      rw [hen] at qe
      cases hb : ks[j]? with
      | none =>
        rw [hb] at qe
        exact nomatch (show some en = none from qe)
      | some b =>
        rw [hb] at qe
        have e2 : en = entryOfKey (NK X.prog X.w) b := Option.some.inj qe
        rw [hv, e2]
        all_goals rfl
  have eb : acc.toList = (ks.map fun x => x.2.1).map Value.ref := by rw [ea, List.map_map]; all_goals rfl
  have rv : Vals ((ks.map fun x => x.2.1).map V.ref) acc.toList := by rw [eb]; exact vals_refs _
  have ik : ks.map (fun x => x.2.1) = kvs.map fun e => e.2.1 := nv_addrs pr
  rw [ik] at eb rv
  generalize hbs : kvs.map (fun e => e.2.1) = bs at eb rv
  have hbs' : bs.map V.ref = kvs.map fun e => V.ref e.2.1 := by rw [← hbs, List.map_map]; rfl
  have hdp : DpAll X.K H (bs.map V.ref) (kvs.map fun kv => kv.1.data) := by rw [hbs']; exact dp_nens hka
  have len := dpAll_len hdp
  have em : ((bs.map V.ref).zip (kvs.map fun kv => kv.1.data)).map Prod.snd = kvs.map fun kv => kv.1.data := zip_snd len
  have I1 : Inv X pins σ H { s with heap := h', toks := tk } := I.kept kp
  have e := each_pairs I1 rv hdp
  have hoL : (h'.push (seqObj "list" acc.toList.toArray 0)).get? h'.objs.size = some (seqObj "list" acc.toList.toArray 0) := Heap.get?_push_size _ rfl
  have old : ∀ b u, h'.get? b = some u → (PySem.W.sortingHeap (h'.push (seqObj "list" acc.toList.toArray 0)) h'.objs.size acc.toList).get? b = some u := fun b u hb =>
    PySem.W.sortingHeap_old (Nat.ne_of_lt (Heap.lt_size hb)) (Heap.get?_push_of_some _ hb)
  have er : PySem.W.EachIs (fun (v : Value) (b : V × PyData) => ∃ as, Reads (PySem.W.sortingHeap (h'.push (seqObj "list" acc.toList.toArray 0)) h'.objs.size acc.toList) v b.2 as) acc.toList ((bs.map V.ref).zip (kvs.map fun kv => kv.1.data)) :=
    e.mono fun v b h => by
      obtain ⟨as, rr⟩ := Dp.reads I1 b.2 b.1 v h.2 h.1
      exact ⟨as, PyProof.Rows.Reads.keeps old rr⟩
  refine ⟨((bs.map V.ref).zip (kvs.map fun kv => kv.1.data)).map Prod.snd, PySem.W.SortsAt.ok (PySem.W.each_map (R := fun v d => ∃ as, Reads (PySem.W.sortingHeap (h'.push (seqObj "list" acc.toList.toArray 0)) h'.objs.size acc.toList) v d as) Prod.snd er) (by rw [em]; exact hal) (.inl ?_) (PySem.W.bound_map ?_), ?_⟩
  · intro d hd
    rw [em] at hd
    obtain ⟨kv, hm, rfl⟩ := List.mem_map.mp hd
    obtain ⟨ks, ek⟩ := htu kv hm
    rw [ek]
    exact ⟨_, rfl⟩
  · intro b hb
    have hb := (List.of_mem_zip hb).2
    obtain ⟨kv, hm, e⟩ := List.mem_map.mp hb
    have := depth_data kv.1
    have := (hka kv hm).2
    rw [← e]
    show X.A.units + 1 + 1 + (kv.1.data).depth < cLine
    omega
  · have eo := PySem.W.sortVals_data false e er (by rw [em]; exact hal)
    obtain ⟨o1, o2⟩ := pairs_out eo
    obtain ⟨c, hcc⟩ := PyProof.Rows.sortedHeap_at (vs := acc.toList) (out := (PySem.W.sortVals (PySem.W.dataKind (PySem.W.sortingHeap (h'.push (seqObj "list" acc.toList.toArray 0)) h'.objs.size acc.toList) (((bs.map V.ref).zip (kvs.map fun kv => kv.1.data)).map Prod.snd)) false acc.toList acc.toList).toArray) hoL
    have ln : (sortV (bs.map V.ref) (kvs.map fun kv : Nen => kv.1.data)).length ≤ sizeLine := by
      unfold sortV
      rw [List.length_map, List.length_mergeSort, List.length_zip, len, Nat.min_self, List.length_map]
      omega
    have o1 : Vals (sortV (bs.map V.ref) (kvs.map fun kv : Nen => kv.1.data)) _ := o1
    refine ⟨.ref h'.objs.size, upd H h'.objs.size (.lst (sortV (bs.map V.ref) (kvs.map fun kv : Nen => kv.1.data))), I1.laid (t' := tk) (fun b u e => ?_) (Nat.le_refl _) ⟨ln, _, c, o1, hcc⟩, rfl, hbs' ▸ q _ (I1.hok.fresh (Nat.le_refl _))⟩
    have hlt := Heap.lt_size e
    rw [PyProof.Rows.sortedHeap_old (Nat.ne_of_lt hlt) (by rw [size_push']; exact Nat.lt_succ_of_lt hlt)]
    exact Heap.get?_push_of_some _ e
end
end Wb

set_option Elab.async false
set_option linter.all false
set_option maxRecDepth 100000
set_option maxHeartbeats 4000000
/-! Wn4: lists heaped up by keys. -/
namespace Wv
open PySem PySem.Spec PyProof.Rows L2 Wb
/-! ### a dict that stays -/
def atHs {α : Type} (hs : List (NestedKey × α)) (k : NestedKey) : Option α := (hs.find? fun p => decide (p.1 = k)).map (·.2)
def EntR (K : PySem.W.Frag) (B : Hp) : List Nen → List (NestedKey × PyData) → Prop := Paired fun e h => e.1 = h.1 ∧ dat K h.2 B e.2.2
def hdR (K : PySem.W.Frag) (P : Program) (w : World) (hs : List (NestedKey × PyData)) : Rel := fun B v => ∃ a l, v = .ref a ∧ B a = some (NdiO P w a l) ∧ NksAt K B l ∧ EntR K B l hs
theorem EntR.mono {K : PySem.W.Frag} {B B' : Hp} {l : List Nen} {hs : List (NestedKey × PyData)} (h : EntR K B l hs) (s : Same B B') : EntR K B' l hs := by
  unfold EntR at *
  induction h with
  | nil => exact .nil
  | cons h t ih => exact .cons ⟨h.1, dpMono s _ _ h.2⟩ ih
theorem EntR.at_ {K : PySem.W.Frag} {B : Hp} {l : List Nen} {hs : List (NestedKey × PyData)} (h : EntR K B l hs) {k : NestedKey} {x : PyData} : atHs hs k = some x → ∃ v, atN l k = some v ∧ dat K x B v := by
  unfold EntR at h
  induction h with
  | nil => intro e; cases e
  | @cons p q ps qs h t ih =>
    intro e
    unfold atHs at e ih
    unfold atN at ih ⊢
    rw [List.find?_cons] at e ⊢
    by_cases g : q.1 = k
    · have g' : p.1 = k := h.1.trans g
      simp only [g, decide_true, Option.map_some, Option.some.injEq] at e
      simp only [g', decide_true, Option.map_some]
      exact ⟨_, rfl, e ▸ h.2⟩
    · have g' : ¬ p.1 = k := fun z => g (h.1.symm.trans z)
      simp only [g, decide_false] at e
      simp only [g', decide_false]
      exact ih e
theorem EntR.keys {K : PySem.W.Frag} {B : Hp} {l : List Nen} {hs : List (NestedKey × PyData)} (h : EntR K B l hs) : l.map (·.1) = hs.map (·.1) := by
  unfold EntR at h
  induction h with
  | nil => rfl
  | cons h t ih => rw [List.map_cons, List.map_cons, h.1, ih]
instance {K : PySem.W.Frag} {P : Program} {w : World} {hs : List (NestedKey × PyData)} : Mo (hdR K P w hs) := ⟨fun s ⟨a, l, e, h, g, m⟩ => ⟨a, l, e, s a _ h, fun p hp => (g p hp).same s, m.mono s⟩⟩
instance {K : PySem.W.Frag} {k : NestedKey} : Mo (nkR K k) := ⟨fun s ⟨b, e, h⟩ => ⟨b, e, h.same s⟩⟩
section
variable {K : PySem.W.Frag} {P : Program} {w : World} {σ : L2.St} {B : Hp} {ta tb tc : TE}
theorem De.nget {hs : List (NestedKey × PyData)} {k : NestedKey} {x : PyData} (hd : De ta σ B (hdR K P w hs)) (hk : De tb σ B (nkR K k)) (e : atHs hs k = some x) : De (tNGet K P w ta tb) σ B (dat K x) := fun B1 H s1 s2 Q q =>
  hd B1 H s1 s2 _ fun v B2 H2 e2 hv => hk B2 H2 (s1.trans e2.bb) e2.bh _ fun u B3 H3 e3 hu => by
    obtain ⟨a, l, rfl, ha, hks, hen⟩ := hv
    obtain ⟨b, rfl, hb⟩ := hu
    have hen := hen.mono e3.bb
    obtain ⟨y, hy, hx⟩ := hen.at_ e
    exact ⟨a, b, l, k, y, rfl, rfl, ⟨e3.bh _ _ (e3.bb _ _ ha), fun p hp => ((hks p hp).same e3.bb).same e3.bh, hb.same e3.bh⟩, hy, q y B3 H3 (e2.trans e3) hx⟩
theorem rc_sortedN {hs : List (NestedKey × PyData)} (tu : ∀ p ∈ hs, ∃ ks, p.1 = .tup ks) (al : PySem.W.AllAlike (hs.map fun p => p.1.data)) : Rc (rSortedN K P w) B [hdR K P w hs] (dat K (.list (sortD (hs.map fun p => p.1.data)))) := fun vs B1 H _ s2 hv Q q => by
  obtain ⟨v, r, rfl, ⟨a, l, rfl, ha, hks, hen⟩, h2⟩ := hv
  have h2 : r = [] := h2
  subst h2
  have ek : (l.map fun e => e.1.data) = hs.map fun p => p.1.data := by
    have := congrArg (List.map NestedKey.data) hen.keys
    rw [List.map_map, List.map_map] at this
    exact this
  refine ⟨a, l, rfl, s2 _ _ ha, fun p hp => (hks p hp).same s2, fun e he => ?_, by rw [ek]; exact al, fun p hn => ?_⟩
  · have : e.1 ∈ hs.map (·.1) := by rw [← hen.keys]; exact List.mem_map.mpr ⟨e, he, rfl⟩
    obtain ⟨p, hp, e2⟩ := List.mem_map.mp this
    rw [← e2]
    exact tu p hp
  · rw [← ek] at q
    exact q _ (upd B1 p _) _ (.new s2 hn) (.lst (SqL.of upd_same) (dpMonoAll (new_same (s2.free hn)) _ _ (dp_sort (dp_nens hks))))
end
/-! ### the same while it is heaped up -/
def addAt (hs : List (NestedKey × List PyData)) (k : NestedKey) (x : PyData) : List (NestedKey × List PyData) := if k ∈ hs.map (·.1) then hs.map (fun p => if p.1 = k then (p.1, p.2 ++ [x]) else p) else hs ++ [(k, [x])]
def heapsOf (ps : List (NestedKey × PyData)) : List (NestedKey × List PyData) := ps.foldl (fun hs p => addAt hs p.1 p.2) []
structure HEn (K : PySem.W.Frag) (H0 B H : Hp) (D : Addr) (e : Nen) (h : NestedKey × List PyData) (M : Addr) : Prop where
  key : e.1 = h.1
  val : e.2.2 = .ref M
  ne : M ≠ D
  off : H0 M = none
  hid : ∃ xs, Hid B H M (.lst xs) ∧ DpAll K B xs h.2
/-- the dict at D, its keys' lists at Ms, all hidden -/
inductive HEns (K : PySem.W.Frag) (H0 B H : Hp) (D : Addr) : List Nen → List (NestedKey × List PyData) → List Addr → Prop where
  | nil : HEns K H0 B H D [] [] []
  | cons {e h M es hs Ms} : HEn K H0 B H D e h M → HEns K H0 B H D es hs Ms → HEns K H0 B H D (e :: es) (h :: hs) (M :: Ms)
structure Hps (K : PySem.W.Frag) (P : Program) (w : World) (H0 B H : Hp) (D : Addr) (l : List Nen) (hs : List (NestedKey × List PyData)) (Ms : List Addr) : Prop where
  dic : Hid B H D (NdiO P w D l)
  off : H0 D = none
  keys : NksAt K B l
  ent : HEns K H0 B H D l hs Ms
  nd : Ms.Nodup
section
variable {K : PySem.W.Frag} {P : Program} {w : World} {H0 B H B' H' : Hp} {D M : Addr} {l : List Nen} {hs : List (NestedKey × List PyData)} {Ms : List Addr} {e : Nen} {h : NestedKey × List PyData}
theorem HEn.ext (m : HEn K H0 B H D e h M) (x : Ext B H B' H') : HEn K H0 B' H' D e h M := by
  obtain ⟨xs, h1, h2⟩ := m.hid
  exact ⟨m.key, m.val, m.ne, m.off, xs, h1.ext x, dpMonoAll x.bb _ _ h2⟩
theorem HEns.ext (m : HEns K H0 B H D l hs Ms) (x : Ext B H B' H') : HEns K H0 B' H' D l hs Ms := by
  induction m with
  | nil => exact .nil
  | cons h t ih => exact .cons (h.ext x) ih
theorem Hps.ext (m : Hps K P w H0 B H D l hs Ms) (x : Ext B H B' H') : Hps K P w H0 B' H' D l hs Ms := ⟨m.dic.ext x, m.off, fun p hp => (m.keys p hp).same x.bb, m.ent.ext x, m.nd⟩
/-- elsewhere something is written -/
theorem HEns.other {a : Addr} {o : HO} (m : HEns K H0 B H D l hs Ms) (n : a ∉ Ms) : HEns K H0 B (upd H a o) D l hs Ms := by
  induction m with
  | nil => exact .nil
  | @cons e h M es hs Ms h1 t ih =>
    obtain ⟨xs, g1, g2⟩ := h1.hid
    exact .cons ⟨h1.key, h1.val, h1.ne, h1.off, xs, g1.other fun q => n (by rw [q]; exact List.mem_cons_self), g2⟩ (ih fun q => n (List.mem_cons_of_mem _ q))
theorem HEns.keysEq (m : HEns K H0 B H D l hs Ms) : l.map (·.1) = hs.map (·.1) := by
  induction m with
  | nil => rfl
  | cons h t ih => rw [List.map_cons, List.map_cons, h.key, ih]
theorem HEns.noD (m : HEns K H0 B H D l hs Ms) : D ∉ Ms := by
  induction m with
  | nil => exact List.not_mem_nil
  | cons h t ih =>
    intro q
    rcases List.mem_cons.mp q with q | q
    · exact h.ne q.symm
    · exact ih q
theorem HEns.offs (m : HEns K H0 B H D l hs Ms) : ∀ a ∈ Ms, B a = none ∧ H0 a = none ∧ H a ≠ none := by
  induction m with
  | nil => exact fun a h => absurd h List.not_mem_nil
  | cons h t ih =>
    intro a ha
    rcases List.mem_cons.mp ha with rfl | ha
    · obtain ⟨xs, g, _⟩ := h.hid
      exact ⟨g.no, h.off, by rw [g.at_]; exact fun z => nomatch z⟩
    · exact ih a ha
/-- where a key's list stands -/
theorem HEns.find (m : HEns K H0 B H D l hs Ms) (nd : Ms.Nodup) (kd : (hs.map (·.1)).Nodup) {k : NestedKey} {v : V} (e : atN l k = some v) : ∃ M xs ys, v = .ref M ∧ M ∈ Ms ∧ M ≠ D ∧ H0 M = none ∧ Hid B H M (.lst xs) ∧ DpAll K B xs ys ∧ (k, ys) ∈ hs ∧
    ∀ (x : V) (d : PyData), dat K d B x → HEns K H0 B (upd H M (.lst (xs ++ [x]))) D l (hs.map fun p => if p.1 = k then (p.1, p.2 ++ [d]) else p) Ms := by
  induction m with
  | nil => cases e
  | @cons en h M es hs Ms h1 t ih =>
    rw [List.nodup_cons] at nd
    rw [List.map_cons, List.nodup_cons] at kd
    unfold atN at e ih
    rw [List.find?_cons] at e
    by_cases g : en.1 = k
    · simp only [g, decide_true, Option.map_some, Option.some.injEq] at e
      obtain ⟨xs, g1, g2⟩ := h1.hid
      have hk : h.1 = k := h1.key.symm.trans g
      refine ⟨M, xs, h.2, by rw [← e, h1.val], List.mem_cons_self, h1.ne, h1.off, g1, g2, by rw [← hk]; exact List.mem_cons_self, fun x d hx => ?_⟩
      rw [List.map_cons, if_pos hk]
      have same : (hs.map fun p => if p.1 = k then (p.1, p.2 ++ [d]) else p) = hs := by
        conv => rhs; rw [← List.map_id hs]
        refine List.map_congr_left fun p hp => ?_
        rw [if_neg fun z => kd.1 (by rw [hk, ← z]; exact List.mem_map.mpr ⟨p, hp, rfl⟩)]
        rfl
      rw [same]
      refine .cons ⟨h1.key, h1.val, h1.ne, h1.off, _, g1.set, ?_⟩ (t.other nd.1)
      exact dpAll_app g2 (.cons hx .nil)
    · simp only [g, decide_false] at e
      obtain ⟨M', xs, ys, q1, qm, q2, q3, q4, q5, q6, q7⟩ := ih nd.2 kd.2 e
      refine ⟨M', xs, ys, q1, List.mem_cons_of_mem _ qm, q2, q3, q4, q5, List.mem_cons_of_mem _ q6, fun x d hx => ?_⟩
      have hk : ¬ h.1 = k := fun z => g (h1.key.trans z)
      rw [List.map_cons, if_neg hk]
      obtain ⟨zs, g1, g2⟩ := h1.hid
      exact .cons ⟨h1.key, h1.val, h1.ne, h1.off, zs, g1.other fun q => nd.1 (by rw [q]; exact qm), g2⟩ (q7 x d hx)
theorem HEns.snoc (m : HEns K H0 B H D l hs Ms) (h1 : HEn K H0 B H D e h M) : HEns K H0 B H D (l ++ [e]) (hs ++ [h]) (Ms ++ [M]) := by
  induction m with
  | nil => exact .cons h1 .nil
  | cons h t ih => exact .cons h ih
theorem atN_none {k : NestedKey} (h : atN l k = none) : k ∉ l.map (·.1) := fun m => by
  obtain ⟨p, hp, e⟩ := List.mem_map.mp m
  unfold atN at h
  rw [Option.map_eq_none_iff, List.find?_eq_none] at h
  exact h p hp (by simpa using e)
/-- one more, of a key that is there -/
theorem Hps.old (m : Hps K P w H0 B H D l hs Ms) (kd : (hs.map (·.1)).Nodup) {k : NestedKey} {v : V} (e : atN l k = some v) : ∃ M xs ys, v = .ref M ∧ H M = some (.lst xs) ∧ Hid B H M (.lst xs) ∧ H0 M = none ∧ DpAll K B xs ys ∧ (k, ys) ∈ hs ∧
    ∀ (x : V) (d : PyData), dat K d B x → Hps K P w H0 B (upd H M (.lst (xs ++ [x]))) D l (addAt hs k d) Ms := by
  obtain ⟨M, xs, ys, q1, qm, q2, q3, q4, q5, q6, q7⟩ := m.ent.find m.nd kd e
  refine ⟨M, xs, ys, q1, q4.at_, q4, q3, q5, q6, fun x d hx => ?_⟩
  unfold addAt
  rw [if_pos (List.mem_map.mpr ⟨_, q6, rfl⟩)]
  exact ⟨m.dic.other fun q => q2 q.symm, m.off, m.keys, q7 x d hx, m.nd⟩
/-- the first of a key -/
theorem Hps.new (m : Hps K P w H0 B H D l hs Ms) {k : NestedKey} {b p : Addr} {x : V} {d : PyData} (hb : NkAt K B k b) (e : atN l k = none) (np : H p = none) (op : H0 p = none) (s : Same B H) (hx : dat K d B x) :
    Hps K P w H0 B (upd (upd H D (NdiO P w D (putN l k b (.ref p)))) p (.lst [x])) D (putN l k b (.ref p)) (addAt hs k d) (Ms ++ [p]) := by
  have kn : k ∉ hs.map (·.1) := by rw [← m.ent.keysEq]; exact atN_none e
  have pn : p ∉ Ms := fun q => (m.ent.offs p q).2.2 np
  have pD : p ≠ D := fun q => by rw [q, m.dic.at_] at np; cases np
  unfold addAt
  rw [if_neg kn]
  have ep : putN l k b (.ref p) = l ++ [(k, b, .ref p)] := by
    unfold putN
    rw [if_neg (by rw [e]; decide)]
  rw [ep]
  refine ⟨(m.dic.set).other pD.symm, m.off, fun q hq => ?_, ?_, ?_⟩
  · rcases List.mem_append.mp hq with hq | hq
    · exact m.keys q hq
    · rw [List.mem_singleton.mp hq]
      exact hb
  · refine ((m.ent.other m.ent.noD).other pn).snoc ⟨rfl, rfl, pD, op, [x], ⟨upd_same, none_of s np⟩, .cons hx .nil⟩
  · rw [List.nodup_append]
    refine ⟨m.nd, List.nodup_cons.mpr ⟨List.not_mem_nil, List.nodup_nil⟩, fun a ha c hc => ?_⟩
    rw [List.mem_singleton.mp hc]
    intro z
    exact pn (by rw [← z]; exact ha)
/-- laid open: a dict of lists that stays -/
theorem Hps.open (m : Hps K P w H0 B H D l hs Ms) : hdR K P w (hs.map fun p => (p.1, .list p.2)) (openH B H (D :: Ms)) (.ref D) ∧ ∀ a ∈ D :: Ms, B a = none ∧ H0 a = none := by
  have offs : ∀ a ∈ D :: Ms, B a = none ∧ H0 a = none := fun a ha => by
    rcases List.mem_cons.mp ha with rfl | ha
    · exact ⟨m.dic.no, m.off⟩
    · exact ⟨(m.ent.offs a ha).1, (m.ent.offs a ha).2.1⟩
  have sub : Same B (openH B H (D :: Ms)) := openH_sub fun a ha => (offs a ha).1
  refine ⟨⟨D, l, rfl, by rw [openH_at List.mem_cons_self]; exact m.dic.at_, fun p hp => (m.keys p hp).same sub, ?_⟩, offs⟩
  have go : ∀ {l : List Nen} {hs : List (NestedKey × List PyData)} {Ns : List Addr}, HEns K H0 B H D l hs Ns → (∀ a ∈ Ns, a ∈ D :: Ms) → EntR K (openH B H (D :: Ms)) l (hs.map fun p => (p.1, .list p.2)) := fun m => by
    induction m with
    | nil => exact fun _ => .nil
    | cons h t ih =>
      intro hN
      obtain ⟨xs, g1, g2⟩ := h.hid
      refine .cons ⟨h.key, ?_⟩ (ih fun a ha => hN a (List.mem_cons_of_mem _ ha))
      show dat K (.list _) _ _
      rw [h.val]
      refine .lst (SqL.of ?_) (dpMonoAll sub _ _ g2)
      rw [openH_at (hN _ List.mem_cons_self)]
      exact g1.at_
  exact go m.ent fun a ha => List.mem_cons_of_mem _ ha
end
/-! ### what comes of it -/
def valsAt (ps : List (NestedKey × PyData)) (k : NestedKey) : List PyData := (ps.filter fun q => decide (q.1 = k)).map (·.2)
theorem addAt_keys (hs : List (NestedKey × List PyData)) (k : NestedKey) (x : PyData) : (addAt hs k x).map (·.1) = if k ∈ hs.map (·.1) then hs.map (·.1) else hs.map (·.1) ++ [k] := by
  unfold addAt
  split
  · rw [List.map_map]
    refine List.map_congr_left fun p _ => ?_
    show (if p.1 = k then (p.1, p.2 ++ [x]) else p).1 = p.1
    split <;> rfl
  · rw [List.map_append]
    rfl
structure HOk (hs : List (NestedKey × List PyData)) (done : List (NestedKey × PyData)) : Prop where
  nd : (hs.map (·.1)).Nodup
  ks : ∀ k, k ∈ hs.map (·.1) ↔ k ∈ done.map (·.1)
  vs : ∀ p ∈ hs, p.2 = valsAt done p.1
theorem HOk.add {hs : List (NestedKey × List PyData)} {done : List (NestedKey × PyData)} (h : HOk hs done) (q : NestedKey × PyData) : HOk (addAt hs q.1 q.2) (done ++ [q]) := by
  have va : ∀ k, valsAt (done ++ [q]) k = valsAt done k ++ (if q.1 = k then [q.2] else []) := fun k => by
    unfold valsAt
    rw [List.filter_append, List.map_append]
    congr 1
    by_cases e : q.1 = k <;> simp [e]
  refine ⟨?_, fun k => ?_, fun p hp => ?_⟩
  · rw [addAt_keys]
    split
    · exact h.nd
    · rename_i n
      rw [List.nodup_append]
      refine ⟨h.nd, List.nodup_cons.mpr ⟨List.not_mem_nil, List.nodup_nil⟩, fun a ha c hc => ?_⟩
      rw [List.mem_singleton.mp hc]
      intro z
      exact n (by rw [← z]; exact ha)
  · rw [addAt_keys, List.map_append, List.mem_append, ← h.ks k]
    split
    · rename_i m
      constructor
      · exact .inl
      · rintro (z | z)
        · exact z
        · have z : k = q.1 := by simpa using z
          rw [z]
          exact m
    · rw [List.mem_append]
      rfl
  · rw [va]
    unfold addAt at hp
    split at hp
    · obtain ⟨r, hr, rfl⟩ := List.mem_map.mp hp
      have hv := h.vs r hr
      by_cases e : r.1 = q.1
      · rw [if_pos e, if_pos e.symm, hv]
      · rw [if_neg e, if_neg fun z => e z.symm, List.append_nil]
        exact hv
    · rename_i n
      rcases List.mem_append.mp hp with hp | hp
      · have ne : ¬ q.1 = p.1 := fun z => n (by rw [z]; exact List.mem_map.mpr ⟨p, hp, rfl⟩)
        rw [if_neg ne, List.append_nil]
        exact h.vs p hp
      · rw [List.mem_singleton.mp hp]
        have : valsAt done q.1 = [] := by
          unfold valsAt
          rw [List.map_eq_nil_iff, List.filter_eq_nil_iff]
          intro r hr z
          exact n ((h.ks q.1).mpr (List.mem_map.mpr ⟨r, hr, of_decide_eq_true z⟩))
        rw [this, if_pos rfl]
        rfl
theorem heaps_ok : ∀ (ps done : List (NestedKey × PyData)) (hs : List (NestedKey × List PyData)), HOk hs done → HOk (ps.foldl (fun hs p => addAt hs p.1 p.2) hs) (done ++ ps)
  | [], done, hs, h => by rw [List.append_nil]; exact h
  | p :: ps, done, hs, h => by
    have := heaps_ok ps (done ++ [p]) (addAt hs p.1 p.2) (h.add p)
    rw [List.append_assoc] at this
    exact this
theorem heapsOf_ok (ps : List (NestedKey × PyData)) : HOk (heapsOf ps) ps := heaps_ok ps [] [] ⟨List.nodup_nil, fun k => Iff.rfl, fun p h => absurd h List.not_mem_nil⟩
theorem heapsOf_snoc (ps : List (NestedKey × PyData)) (p : NestedKey × PyData) : heapsOf (ps ++ [p]) = addAt (heapsOf ps) p.1 p.2 := by
  unfold heapsOf
  rw [List.foldl_append]
  rfl
theorem at_heaps {hs : List (NestedKey × List PyData)} {k : NestedKey} {xs : List PyData} (nd : (hs.map (·.1)).Nodup) (h : (k, xs) ∈ hs) : atHs (hs.map fun p => (p.1, PyData.list p.2)) k = some (.list xs) := by
  induction hs with
  | nil => exact absurd h List.not_mem_nil
  | cons p hs ih =>
    rw [List.map_cons, List.nodup_cons] at nd
    unfold atHs at ih ⊢
    rw [List.map_cons, List.find?_cons]
    by_cases e : p.1 = k
    · simp only [e, decide_true, Option.map_some, Option.some.injEq, PyData.list.injEq]
      rcases List.mem_cons.mp h with h | h
      · rw [← h]
      · exact absurd (List.mem_map.mpr ⟨(k, xs), h, e.symm⟩) nd.1
    · simp only [e, decide_false]
      rcases List.mem_cons.mp h with h | h
      · exact absurd (by rw [← h]) e
      · exact ih nd.2 h
theorem addAt_len (hs : List (NestedKey × List PyData)) (k : NestedKey) (x : PyData) : (addAt hs k x).length ≤ hs.length + 1 := by
  unfold addAt
  split
  · rw [List.length_map]; omega
  · rw [List.length_append]; exact Nat.le_refl _
theorem heaps_len : ∀ (ps : List (NestedKey × PyData)) (hs : List (NestedKey × List PyData)), (ps.foldl (fun hs p => addAt hs p.1 p.2) hs).length ≤ hs.length + ps.length
  | [], hs => Nat.le_refl _
  | p :: ps, hs => by
    have a := heaps_len ps (addAt hs p.1 p.2)
    have b := addAt_len hs p.1 p.2
    rw [List.length_cons]
    show (ps.foldl _ (addAt hs p.1 p.2)).length ≤ _
    omega
theorem heapsOf_len (ps : List (NestedKey × PyData)) : (heapsOf ps).length ≤ ps.length := by
  have := heaps_len ps []
  unfold heapsOf
  rw [List.length_nil] at this
  omega
theorem upd_mid {H : Hp} {p D : Addr} {a b o : HO} (n : p ≠ D) : upd (upd (upd H p a) D o) p b = upd (upd H D o) p b := by
  funext q
  by_cases e : q = p
  · subst e
    rw [upd_same, upd_same]
  · rw [upd_ne e, upd_ne e]
    by_cases f : q = D
    · subst f
      rw [upd_same, upd_same]
    · rw [upd_ne f, upd_ne f, upd_ne e]
theorem HEns.len {K : PySem.W.Frag} {H0 B H : Hp} {D : Addr} {l : List Nen} {hs : List (NestedKey × List PyData)} {Ms : List Addr} (m : HEns K H0 B H D l hs Ms) : l.length = hs.length := by
  have := congrArg List.length m.keysEq
  rw [List.length_map, List.length_map] at this
  exact this
/-- d.setdefault(k, []).append(x) -/
theorem s_heap {K : PySem.W.Frag} {P : Program} {w : World} {σ : L2.St} {B0 H0 B H : Hp} {Dd : Addr} {l : List Nen} {hs : List (NestedKey × List PyData)} {Ms : List Addr} {td tk tx : TE} {D : Ends} {k : NestedKey} {b : Addr} {z : V} {d : PyData}
    (e0 : Ext B0 H0 B H) (hp : Hps K P w H0 B H Dd l hs Ms) (kd : (hs.map (·.1)).Nodup) (few : hs.length < sizeLine) (fewV : ∀ p ∈ hs, p.2.length < sizeLine) (htd : ∀ H Q, Q (.ref Dd) H → td σ H Q) (htk : ∀ H Q, Q (.ref b) H → tk σ H Q) (htx : ∀ H Q, Q z H → tx σ H Q) (hb : NkAt K B k b) (hz : dat K d B z)
    (kn : ∀ (l' : List Nen) (Ms' : List Addr) (H' : Hp), Ext B0 H0 B H' → Hps K P w H0 B H' Dd l' (addAt hs k d) Ms' → D.nx σ H') : tDrop (tBM K "list" rAppend (tNSetd K P w td tk (tLst tNil)) (tCons tx tNil)) D σ H := by
  refine htd _ _ ⟨Dd, l, rfl, hp.dic.at_, htk _ _ ⟨Nat.zero_le _, fun p0 np => ?_⟩⟩
  have pD : p0 ≠ Dd := fun q => by rw [q, hp.dic.at_] at np; cases np
  have eA := Ext.newH (o := .lst []) e0.bh np
  have hp2 := hp.ext eA
  refine ⟨b, l, k, rfl, ⟨hp2.dic.at_, fun q hq => (hp.keys q hq).same eA.bh, hb.same eA.bh⟩, by rw [hp.ent.len]; exact few, fun v hv => ?_, fun hn => ?_⟩
  · obtain ⟨M, xs, ys, rfl, hM, hid, off, hd, mem, up⟩ := hp2.old kd hv
    refine ⟨.inl ⟨rfl, _, SqL.of hM⟩, htx _ _ ⟨M, xs, z, rfl, rfl, hM, ?_, ?_⟩⟩
    · rw [dpAll_len hd]
      exact fewV _ mem
    · exact kn _ _ _ ((e0.trans eA).setH hid off) (up z d hz)
  · have op := Ext.oldH e0 np
    refine ⟨.inl ⟨rfl, [], SqL.of (by rw [upd_ne pD, upd_same])⟩, htx _ _ ⟨p0, [], z, rfl, rfl, by rw [upd_ne pD, upd_same], by rw [sizeLine_eq]; decide, ?_⟩⟩
    rw [upd_mid pD]
    have e1 : Ext B0 H0 B (upd H Dd (NdiO P w Dd (putN l k b (.ref p0)))) := e0.setH hp.dic hp.off
    have e2 : Ext B0 H0 B (upd (upd H Dd (NdiO P w Dd (putN l k b (.ref p0)))) p0 (.lst ([] ++ [z]))) := e1.trans (Ext.newH e1.bh (by rw [upd_ne pD]; exact np))
    exact kn _ _ _ e2 (hp.new hb hn np op e0.bh hz)
end Wv

set_option Elab.async false
set_option linter.all false
set_option maxRecDepth 100000
set_option maxHeartbeats 1000000
/-! Fs0: fractions added up by keys. -/
namespace Fq
open PySem PySem.Spec PyProof.Rows L2 Wb Wv Fm Wf
/-- keys and fractions -/
abbrev KF := NestedKey × Rat
def kfD (p : KF) : PyData := .tuple [p.1.data, frD p.2]
def sumAt (ps : List KF) (k : NestedKey) : Rat := sumR ((ps.filter fun q => decide (q.1 = k)).map (·.2))
def keysOf (ps : List KF) : List NestedKey := (heapsOf (ps.map fun p => (p.1, frD p.2))).map (·.1)
def sortK (ks : List NestedKey) : List NestedKey := ks.mergeSort fun a b => dle a.data b.data
def sumsOf (ps : List KF) : List KF := ((sortK (keysOf ps)).map fun k => (k, sumAt ps k)).filter fun p => decide (p.2 ≠ 0)
structure KFok (ps : List KF) : Prop where
  tup : ∀ p ∈ ps, ∃ ks, p.1 = .tup ks
  dep : ∀ p ∈ ps, p.1.depth ≤ 8
  al : ∀ p ∈ ps, ∀ q ∈ ps, PySem.W.alike p.1.data q.1.data = true
  sz : ∃ k, 1 ≤ k ∧ k ≤ 3000 ∧ ps.length * k ≤ 6000 ∧ ∀ p ∈ ps, Sz k p.2
abbrev spAddedD (K : PySem.W.Frag) : Sp := Pf (α := List KF) (fun ps => [dat K (.list (ps.map kfD))]) KFok (fun ps => dat K (.tuple ((sumsOf ps).map kfD)))
/-! ### by keys of any kind -/
section
variable {α β : Type} [DecidableEq α] [DecidableEq β]
def firsts (l : List α) : List α := l.foldl (fun acc a => if a ∈ acc then acc else acc ++ [a]) []
theorem firsts_map_acc {f : α → β} (inj : ∀ a b, f a = f b → a = b) : ∀ (l acc : List α), (l.map f).foldl (fun acc b => if b ∈ acc then acc else acc ++ [b]) (acc.map f) = (l.foldl (fun acc a => if a ∈ acc then acc else acc ++ [a]) acc).map f
  | [], acc => rfl
  | a :: l, acc => by
    rw [List.map_cons, List.foldl_cons, List.foldl_cons, ← firsts_map_acc inj l]
    congr 1
    have : f a ∈ acc.map f ↔ a ∈ acc := by
      constructor
      · intro h
        obtain ⟨b, hb, e⟩ := List.mem_map.mp h
        rw [← inj _ _ e]
        exact hb
      · exact fun h => List.mem_map.mpr ⟨a, h, rfl⟩
    by_cases h : a ∈ acc
    · rw [if_pos h, if_pos (this.mpr h)]
    · rw [if_neg h, if_neg (fun z => h (this.mp z)), List.map_append]
      rfl
theorem firsts_map {f : α → β} (inj : ∀ a b, f a = f b → a = b) (l : List α) : firsts (l.map f) = (firsts l).map f := firsts_map_acc inj l []
def sumG (ps : List (α × Rat)) (a : α) : Rat := sumR ((ps.filter fun q => decide (q.1 = a)).map (·.2))
def sumsG (dt : α → PyData) (ps : List (α × Rat)) : List (α × Rat) := (((firsts (ps.map (·.1))).mergeSort fun a b => dle (dt a) (dt b)).map fun a => (a, sumG ps a)).filter fun p => decide (p.2 ≠ 0)
theorem firsts_acc : ∀ (l acc : List α), acc.Nodup → (l.foldl (fun acc a => if a ∈ acc then acc else acc ++ [a]) acc).Nodup ∧ ∀ a, a ∈ l.foldl (fun acc a => if a ∈ acc then acc else acc ++ [a]) acc ↔ a ∈ acc ∨ a ∈ l
  | [], acc, nd => ⟨nd, fun a => by simp⟩
  | b :: l, acc, nd => by
    rw [List.foldl_cons]
    by_cases h : b ∈ acc
    · rw [if_pos h]
      obtain ⟨h1, h2⟩ := firsts_acc l acc nd
      refine ⟨h1, fun a => ?_⟩
      rw [h2 a, List.mem_cons]
      constructor
      · rintro (z | z)
        · exact .inl z
        · exact .inr (.inr z)
      · rintro (z | z | z)
        · exact .inl z
        · exact .inl (z ▸ h)
        · exact .inr z
    · rw [if_neg h]
      obtain ⟨h1, h2⟩ := firsts_acc l (acc ++ [b]) (by
        rw [List.nodup_append]
        refine ⟨nd, List.nodup_cons.mpr ⟨List.not_mem_nil, List.nodup_nil⟩, fun a ha c hc => ?_⟩
        rw [List.mem_singleton.mp hc]
        intro z
        exact h (z ▸ ha))
      refine ⟨h1, fun a => ?_⟩
      rw [h2 a, List.mem_append, List.mem_singleton, List.mem_cons, or_assoc]
theorem firsts_nodup (l : List α) : (firsts l).Nodup := (firsts_acc l [] List.nodup_nil).1
theorem firsts_mem (l : List α) (a : α) : a ∈ firsts l ↔ a ∈ l := by
  rw [show a ∈ firsts l ↔ _ from (firsts_acc l [] List.nodup_nil).2 a]
  simp
theorem firsts_len_acc : ∀ (l acc : List α), (l.foldl (fun acc a => if a ∈ acc then acc else acc ++ [a]) acc).length ≤ acc.length + l.length
  | [], acc => Nat.le_refl _
  | b :: l, acc => by
    rw [List.foldl_cons, List.length_cons]
    have := firsts_len_acc l (if b ∈ acc then acc else acc ++ [b])
    have : (if b ∈ acc then acc else acc ++ [b]).length ≤ acc.length + 1 := by
      split
      · omega
      · rw [List.length_append]; exact Nat.le_refl _
    omega
theorem firsts_len (l : List α) : (firsts l).length ≤ l.length := by
  have := firsts_len_acc l []
  rw [List.length_nil] at this
  unfold firsts
  omega
theorem sumsG_len (dt : α → PyData) (ps : List (α × Rat)) : (sumsG dt ps).length ≤ ps.length := by
  unfold sumsG
  refine Nat.le_trans (List.length_filter_le _ _) ?_
  rw [List.length_map, List.length_mergeSort]
  have := firsts_len (ps.map (·.1))
  rw [List.length_map] at this
  exact this
theorem heaps_firsts : ∀ (ps : List (NestedKey × PyData)) (hs : List (NestedKey × List PyData)), (ps.foldl (fun hs p => addAt hs p.1 p.2) hs).map (·.1) = (ps.map (·.1)).foldl (fun acc a => if a ∈ acc then acc else acc ++ [a]) (hs.map (·.1))
  | [], hs => rfl
  | p :: ps, hs => by
    rw [List.foldl_cons, heaps_firsts ps, List.map_cons, List.foldl_cons, addAt_keys]
theorem keysOf_firsts (ps : List KF) : keysOf ps = firsts (ps.map (·.1)) := by
  unfold keysOf heapsOf firsts
  rw [heaps_firsts, List.map_map]
  rfl
theorem sumsOf_G {κ : α → NestedKey} (inj : ∀ a b, κ a = κ b → a = b) (ps : List (α × Rat)) : sumsOf (ps.map fun p => (κ p.1, p.2)) = (sumsG (fun a => (κ a).data) ps).map fun p => (κ p.1, p.2) := by
  have e1 : keysOf (ps.map fun p => (κ p.1, p.2)) = (firsts (ps.map (·.1))).map κ := by
    rw [keysOf_firsts, List.map_map, ← firsts_map inj, List.map_map]
    rfl
  have e2 : ∀ a, sumAt (ps.map fun p => (κ p.1, p.2)) (κ a) = sumG ps a := fun a => by
    unfold sumAt sumG
    rw [List.filter_map, List.map_map]
    congr 1
    have : (ps.filter ((fun q : KF => decide (q.1 = κ a)) ∘ fun p => (κ p.1, p.2))) = ps.filter fun q => decide (q.1 = a) := List.filter_congr fun p _ => by
      show decide (κ p.1 = κ a) = decide (p.1 = a)
      exact decide_eq_decide.mpr ⟨inj _ _, fun h => by rw [h]⟩
    rw [this]
    rfl
  have e3 : sortK ((firsts (ps.map (·.1))).map κ) = ((firsts (ps.map (·.1))).mergeSort fun a b => dle (κ a).data (κ b).data).map κ := by
    unfold sortK
    exact (List.map_mergeSort (s := fun a b => dle a.data b.data) (f := κ) (r := fun a b => dle (κ a).data (κ b).data) (fun a _ b _ => rfl)).symm
  unfold sumsOf sumsG
  rw [e1, e3, List.map_map, List.filter_map, List.filter_map, List.map_map]
  have t2 : ((fun k => (k, sumAt (ps.map fun p => (κ p.1, p.2)) k)) ∘ κ) = fun a => (κ a, sumG ps a) := by
    funext a
    show (κ a, sumAt _ (κ a)) = _
    rw [e2]
  rw [t2]
  rfl
/-- added up, by keys of any kind -/
theorem De.added {K : PySem.W.Frag} {σ : L2.St} {B : Hp} {te : TE} {E : XK} {κ : α → NestedKey} {ps : List (α × Rat)} (inj : ∀ a b, κ a = κ b → a = b) (ok : KFok (ps.map fun p => (κ p.1, p.2))) (h : De te σ B (dat K (.list (ps.map fun p => .tuple [(κ p.1).data, frD p.2])))) :
    De (tCall (spAddedD K) [] E (tCons te tNil)) σ B (dat K (.tuple ((sumsG (fun a => (κ a).data) ps).map fun p => .tuple [(κ p.1).data, frD p.2]))) := by
  have := De.call (E := E) (args := fun ps : List KF => [dat K (.list (ps.map kfD))]) (res := fun ps => dat K (.tuple ((sumsOf ps).map kfD))) (ps.map fun p => (κ p.1, p.2)) (.one (De.eq h (by rw [List.map_map]; rfl))) ok
  refine De.eq this ?_
  rw [sumsOf_G inj, List.map_map]
  rfl
end
/-! ### keys of lots, of rows, of both -/
def lotK (l : List Str) : NestedKey := .tup (l.map .text)
def rowK (r : List Int) : NestedKey := .tup (r.map .num)
abbrev Ky := List Str × List Int
def pairK (k : Ky) : NestedKey := .tup [lotK k.1, rowK k.2]
theorem datas_text (l : List Str) : NestedKey.datas (l.map .text) = l.map .str := by
  induction l with
  | nil => simp [NestedKey.datas]
  | cons a l ih => simp [NestedKey.datas, NestedKey.data, ih]
theorem datas_num (l : List Int) : NestedKey.datas (l.map .num) = l.map .int := by
  induction l with
  | nil => simp [NestedKey.datas]
  | cons a l ih => simp [NestedKey.datas, NestedKey.data, ih]
theorem lotK_data (l : List Str) : (lotK l).data = lotD l := by
  show PyData.tuple (NestedKey.datas (l.map .text)) = _
  rw [datas_text]
  rfl
theorem rowK_data (r : List Int) : (rowK r).data = rowD r := by
  show PyData.tuple (NestedKey.datas (r.map .num)) = _
  rw [datas_num]
  rfl
theorem pairK_data (k : Ky) : (pairK k).data = .tuple [lotD k.1, rowD k.2] := by
  simp only [pairK, NestedKey.data, NestedKey.datas, lotK_data, rowK_data]
theorem lotK_inj (a b : List Str) (h : lotK a = lotK b) : a = b := by
  have h := congrArg NestedKey.data h
  rw [lotK_data, lotK_data] at h
  have h : a.map PyData.str = b.map PyData.str := PyData.tuple.inj h
  exact List.map_inj_right (fun x y e => PyData.str.inj e) |>.mp h
theorem rowK_inj (a b : List Int) (h : rowK a = rowK b) : a = b := by
  have h := congrArg NestedKey.data h
  rw [rowK_data, rowK_data] at h
  have h : a.map PyData.int = b.map PyData.int := PyData.tuple.inj h
  exact List.map_inj_right (fun x y e => PyData.int.inj e) |>.mp h
theorem pairK_inj (a b : Ky) (h : pairK a = pairK b) : a = b := by
  unfold pairK at h
  injection h with h
  injection h with h1 h2
  injection h2 with h2 _
  exact Prod.ext (lotK_inj _ _ h1) (rowK_inj _ _ h2)
theorem dep_texts (l : List Str) : NestedKey.depthAll (l.map .text) = 0 := by
  induction l with
  | nil => simp [NestedKey.depthAll]
  | cons a l ih => simp [NestedKey.depthAll, NestedKey.depth, ih]
theorem dep_nums (l : List Int) : NestedKey.depthAll (l.map .num) = 0 := by
  induction l with
  | nil => simp [NestedKey.depthAll]
  | cons a l ih => simp [NestedKey.depthAll, NestedKey.depth, ih]
theorem lotK_dep (l : List Str) : (lotK l).depth ≤ 8 := by
  simp [lotK, NestedKey.depth, dep_texts]
theorem rowK_dep (l : List Int) : (rowK l).depth ≤ 8 := by
  simp [rowK, NestedKey.depth, dep_nums]
theorem pairK_dep (k : Ky) : (pairK k).depth ≤ 8 := by
  simp [pairK, lotK, rowK, NestedKey.depth, NestedKey.depthAll, dep_texts, dep_nums]
theorem alike_nums : ∀ a b : List Int, PySem.W.alikeAll (a.map .int) (b.map .int) = true
  | [], _ => by simp [PySem.W.alikeAll]
  | _ :: _, [] => by simp [PySem.W.alikeAll]
  | x :: a, y :: b => by
    simp only [List.map_cons, PySem.W.alikeAll, PySem.W.alike, Bool.true_and]
    exact alike_nums a b
theorem alike_lotD (a b : List Str) : PySem.W.alike (lotD a) (lotD b) = true := by
  show PySem.W.alike (.tuple (a.map .str)) (.tuple (b.map .str)) = true
  simp only [PySem.W.alike]
  exact alike_strs a b
theorem alike_rowD (a b : List Int) : PySem.W.alike (rowD a) (rowD b) = true := by
  show PySem.W.alike (.tuple (a.map .int)) (.tuple (b.map .int)) = true
  simp only [PySem.W.alike]
  exact alike_nums a b
theorem alike_pair (a b : Ky) : PySem.W.alike (.tuple [lotD a.1, rowD a.2]) (.tuple [lotD b.1, rowD b.2]) = true := by
  simp only [PySem.W.alike, PySem.W.alikeAll, alike_lotD, alike_rowD, Bool.true_and, Bool.and_self]
abbrev Szs (n : Nat) (qs : List Rat) : Prop := ∃ k, 1 ≤ k ∧ k ≤ 3000 ∧ n * k ≤ 6000 ∧ ∀ q ∈ qs, Sz k q
theorem kf_lot {ps : List (List Str × Rat)} (sz : Szs ps.length (ps.map (·.2))) : KFok (ps.map fun p => (lotK p.1, p.2)) := by
  obtain ⟨k, k1, k2, k3, k4⟩ := sz
  refine ⟨fun p hp => ?_, fun p hp => ?_, fun p hp q hq => ?_, k, k1, k2, by rw [List.length_map]; exact k3, fun p hp => ?_⟩
  all_goals obtain ⟨r, hr, rfl⟩ := List.mem_map.mp hp
  · exact ⟨_, rfl⟩
  · exact lotK_dep _
  · obtain ⟨t, ht, rfl⟩ := List.mem_map.mp hq
    show PySem.W.alike (lotK r.1).data (lotK t.1).data = true
    rw [lotK_data, lotK_data]
    exact alike_lotD _ _
  · exact k4 _ (List.mem_map.mpr ⟨r, hr, rfl⟩)
theorem kf_row {ps : List (List Int × Rat)} (sz : Szs ps.length (ps.map (·.2))) : KFok (ps.map fun p => (rowK p.1, p.2)) := by
  obtain ⟨k, k1, k2, k3, k4⟩ := sz
  refine ⟨fun p hp => ?_, fun p hp => ?_, fun p hp q hq => ?_, k, k1, k2, by rw [List.length_map]; exact k3, fun p hp => ?_⟩
  all_goals obtain ⟨r, hr, rfl⟩ := List.mem_map.mp hp
  · exact ⟨_, rfl⟩
  · exact rowK_dep _
  · obtain ⟨t, ht, rfl⟩ := List.mem_map.mp hq
    show PySem.W.alike (rowK r.1).data (rowK t.1).data = true
    rw [rowK_data, rowK_data]
    exact alike_rowD _ _
  · exact k4 _ (List.mem_map.mpr ⟨r, hr, rfl⟩)
theorem kf_pair {ps : List (Ky × Rat)} (sz : Szs ps.length (ps.map (·.2))) : KFok (ps.map fun p => (pairK p.1, p.2)) := by
  obtain ⟨k, k1, k2, k3, k4⟩ := sz
  refine ⟨fun p hp => ?_, fun p hp => ?_, fun p hp q hq => ?_, k, k1, k2, by rw [List.length_map]; exact k3, fun p hp => ?_⟩
  all_goals obtain ⟨r, hr, rfl⟩ := List.mem_map.mp hp
  · exact ⟨_, rfl⟩
  · exact pairK_dep _
  · obtain ⟨t, ht, rfl⟩ := List.mem_map.mp hq
    show PySem.W.alike (pairK r.1).data (pairK t.1).data = true
    rw [pairK_data, pairK_data]
    exact alike_pair _ _
  · exact k4 _ (List.mem_map.mpr ⟨r, hr, rfl⟩)
end Fq

set_option Elab.async false
set_option linter.all false
set_option maxRecDepth 100000
set_option maxHeartbeats 1000000
/-! Od0: data in their order; sums by keys that ascend. -/
namespace Fq
open PySem PySem.Spec PyProof.Rows L2 Wb Wv Fm Wf
def Asc {α : Type} (dt : α → PyData) (l : List α) : Prop := l.Pairwise fun a b => PySem.W.dataLt (dt a) (dt b) = true
theorem dle_trans {a b c : PyData} (h1 : dle a b = true) (h2 : dle b c = true) : dle a c = true := by
  have h1 : (!PySem.W.dataLt b a) = true := h1
  have h2 : (!PySem.W.dataLt c b) = true := h2
  show (!PySem.W.dataLt c a) = true
  rw [Bool.not_eq_true'] at h1 h2 ⊢
  cases h : PySem.W.dataLt c a with
  | false => rfl
  | true =>
    rcases lex_negTrans (O := itemOrd) _ (PySem.W.keyToks b) _ h with g | g
    · rw [show PySem.W.dataLt c b = true from g] at h2; cases h2
    · rw [show PySem.W.dataLt b a = true from g] at h1; cases h1
theorem lt_asymm {a b : PyData} (h : PySem.W.dataLt a b = true) : PySem.W.dataLt b a = false := by
  cases g : PySem.W.dataLt b a with
  | false => rfl
  | true =>
    have := lex_trans (O := itemOrd) _ _ _ h g
    rw [lex_irrefl] at this
    cases this
theorem dle_total (a b : PyData) : (dle a b || dle b a) = true := by
  show ((!PySem.W.dataLt b a) || (!PySem.W.dataLt a b)) = true
  cases h : PySem.W.dataLt b a with
  | false => rfl
  | true => rw [lt_asymm h]; rfl
section
variable {α : Type} {dt : α → PyData}
theorem asc_nodup {l : List α} (h : Asc dt l) : l.Nodup := h.imp fun {a b} z e => by
  subst e
  rw [PySem.W.dataLt_self] at z
  cases z
theorem asc_le {l : List α} (h : Asc dt l) : l.Pairwise fun a b => dle (dt a) (dt b) = true := h.imp fun {a b} z => by
  show (!PySem.W.dataLt _ _) = true
  rw [lt_asymm z]
  rfl
theorem asc_two {l : List α} (h : Asc dt l) : ∀ {a b}, a ∈ l → b ∈ l → dle (dt a) (dt b) = true → dle (dt b) (dt a) = true → a = b := by
  induction l with
  | nil => exact fun z => absurd z List.not_mem_nil
  | cons x l ih =>
    intro a b ha hb h1 h2
    obtain ⟨hx, hl⟩ := List.pairwise_cons.mp h
    have h1 : (!PySem.W.dataLt (dt b) (dt a)) = true := h1
    have h2 : (!PySem.W.dataLt (dt a) (dt b)) = true := h2
    rcases List.mem_cons.mp ha with rfl | ha' <;> rcases List.mem_cons.mp hb with rfl | hb'
    · rfl
    · rw [hx b hb'] at h2; cases h2
    · rw [hx a ha'] at h1; cases h1
    · exact ih hl ha' hb' h1 h2
theorem asc_sort {l l' : List α} (h : Asc dt l) (p : l'.Perm l) : l'.mergeSort (fun a b => dle (dt a) (dt b)) = l := by
  refine List.Perm.eq_of_pairwise (le := fun a b => dle (dt a) (dt b) = true) (fun a b ha hb h1 h2 => asc_two h ((List.mergeSort_perm _ _).trans p |>.mem_iff.mp ha) hb h1 h2) ?_ (asc_le h) ((List.mergeSort_perm _ _).trans p)
  exact List.pairwise_mergeSort (le := fun a b => dle (dt a) (dt b)) (fun a b c => dle_trans) (fun a b => dle_total _ _) l'
variable [DecidableEq α]
theorem sumsG_eq {ts tt : List (α × Rat)} (asc : Asc dt (ts.map (·.1))) (keys : ∀ a, a ∈ tt.map (·.1) ↔ a ∈ ts.map (·.1)) (sums : ∀ t ∈ ts, sumG tt t.1 = t.2) (nz : ∀ t ∈ ts, t.2 ≠ 0) : sumsG dt tt = ts := by
  unfold sumsG
  rw [asc_sort asc ((List.perm_ext_iff_of_nodup (firsts_nodup _) (asc_nodup asc)).mpr fun a => (firsts_mem _ a).trans (keys a)), List.map_map]
  have e : ts.map ((fun a => (a, sumG tt a)) ∘ fun t => t.1) = ts := by
    refine (List.map_congr_left (g := id) fun t ht => ?_).trans (List.map_id _)
    show (t.1, sumG tt t.1) = t
    rw [sums t ht]
  rw [e]
  exact List.filter_eq_self.mpr fun t ht => decide_eq_true (nz t ht)
theorem sumR_perm {l l' : List Rat} (h : l.Perm l') : sumR l = sumR l' := by
  induction h with
  | nil => rfl
  | cons x _ ih => show x + sumR _ = x + sumR _; rw [ih]
  | swap x y l => show y + (x + sumR l) = x + (y + sumR l); rw [← Rat.add_assoc, ← Rat.add_assoc, Rat.add_comm y x]
  | trans _ _ h1 h2 => exact h1.trans h2
theorem sumR_nz : ∀ l : List (α × Rat), sumR ((l.filter fun p => decide (p.2 ≠ 0)).map (·.2)) = sumR (l.map (·.2))
  | [] => rfl
  | p :: l => by
    by_cases h : p.2 = 0
    · rw [List.filter_cons, if_neg (by simpa using h), sumR_nz l, List.map_cons]
      show _ = p.2 + sumR _
      rw [h, Rat.zero_add]
    · rw [List.filter_cons, if_pos (decide_eq_true h), List.map_cons, List.map_cons]
      show p.2 + sumR _ = p.2 + sumR _
      rw [sumR_nz l]
theorem sumG_cons (p : α × Rat) (ps : List (α × Rat)) (a : α) : sumG (p :: ps) a = (if p.1 = a then p.2 else 0) + sumG ps a := by
  unfold sumG
  by_cases h : p.1 = a
  · rw [List.filter_cons, if_pos (decide_eq_true h), if_pos h]
    rfl
  · rw [List.filter_cons, if_neg (by simpa using h), if_neg h, Rat.zero_add]
theorem sum_ite0 {a : α} (q : Rat) : ∀ {ks : List α}, a ∉ ks → sumR (ks.map fun b => if a = b then q else 0) = 0
  | [], _ => rfl
  | b :: ks, h => by
    rw [List.map_cons]
    show (if a = b then q else 0) + sumR _ = 0
    rw [if_neg (fun e : a = b => h (by rw [e]; exact List.mem_cons_self)), sum_ite0 q (fun z => h (List.mem_cons_of_mem _ z)), Rat.zero_add]
theorem sum_ite {a : α} (q : Rat) : ∀ {ks : List α}, ks.Nodup → a ∈ ks → sumR (ks.map fun b => if a = b then q else 0) = q
  | b :: ks, nd, h => by
    obtain ⟨n1, n2⟩ := List.nodup_cons.mp nd
    rw [List.map_cons]
    show (if a = b then q else 0) + sumR _ = q
    by_cases e : a = b
    · rw [if_pos e, sum_ite0 q (e ▸ n1), Rat.add_zero]
    · rw [if_neg e, sum_ite q n2 ((List.mem_cons.mp h).resolve_left e), Rat.zero_add]
theorem sum_add (f g : α → Rat) : ∀ ks : List α, sumR (ks.map fun a => f a + g a) = sumR (ks.map f) + sumR (ks.map g)
  | [] => by show (0 : Rat) = 0 + 0; rw [Rat.zero_add]
  | a :: ks => by
    rw [List.map_cons, List.map_cons, List.map_cons]
    show f a + g a + sumR _ = (f a + sumR _) + (g a + sumR _)
    rw [sum_add f g ks, Rat.add_assoc, Rat.add_assoc, ← Rat.add_assoc (g a), Rat.add_comm (g a), Rat.add_assoc]
theorem sum_keys {ks : List α} (nd : ks.Nodup) : ∀ {ps : List (α × Rat)}, (∀ p ∈ ps, p.1 ∈ ks) → sumR (ks.map (sumG ps)) = sumR (ps.map (·.2))
  | [], _ => by
    have : ∀ ks : List α, sumR (ks.map (sumG ([] : List (α × Rat)))) = 0 := fun ks => by
      induction ks with
      | nil => rfl
      | cons a ks ih => rw [List.map_cons]; show (0 : Rat) + sumR _ = 0; rw [ih, Rat.zero_add]
    exact this ks
  | p :: ps, h => by
    have : ks.map (sumG (p :: ps)) = ks.map fun a => (if p.1 = a then p.2 else 0) + sumG ps a := List.map_congr_left fun a _ => sumG_cons p ps a
    rw [this, sum_add (fun a => if p.1 = a then p.2 else 0) (sumG ps), sum_ite p.2 nd (h p List.mem_cons_self), sum_keys nd fun q hq => h q (List.mem_cons_of_mem _ hq)]
    rfl
theorem sum_sumsG (dt : α → PyData) (ps : List (α × Rat)) : sumR ((sumsG dt ps).map (·.2)) = sumR (ps.map (·.2)) := by
  unfold sumsG
  rw [sumR_nz, List.map_map]
  have pm : ((firsts (ps.map (·.1))).mergeSort fun a b => dle (dt a) (dt b)).Perm (firsts (ps.map (·.1))) := List.mergeSort_perm _ _
  refine (sumR_perm (pm.map _)).trans ?_
  exact sum_keys (firsts_nodup _) fun p hp => (firsts_mem _ _).mpr (List.mem_map.mpr ⟨p, hp, rfl⟩)
end
end Fq

set_option Elab.async false
set_option linter.all false
set_option maxRecDepth 100000
set_option maxHeartbeats 1000000
/-! Od1: sums of sums; fractions over one bottom. -/
namespace Fq
open PySem PySem.Spec PyProof.Rows L2 Wb Wv Fm Wf
theorem eqv_of_two {x y : PyData} (al : PySem.W.alike x y = true) (h1 : PySem.W.dataLt x y = false) (h2 : PySem.W.dataLt y x = false) : PyData.eqv x y = true := by
  cases h : PyData.eqv x y with
  | true => rfl
  | false =>
    have t := lex_total (O := itemOrd) _ _ h1 h2
    have := (PySem.W.toks_eqv x y al).2 h [] [.inl 0]
    rw [t, PySem.W.lex_pre, lex_irrefl] at this
    cases this
theorem asc_of_sort {α : Type} {dt : α → PyData} (al : ∀ a b, PySem.W.alike (dt a) (dt b) = true) (inj : ∀ a b, PyData.eqv (dt a) (dt b) = true → a = b) {l : List α} (nd : l.Nodup) : Asc dt (l.mergeSort fun a b => dle (dt a) (dt b)) := by
  have p := List.pairwise_mergeSort (le := fun a b => dle (dt a) (dt b)) (fun a b c => dle_trans) (fun a b => dle_total _ _) l
  have n : (l.mergeSort fun a b => dle (dt a) (dt b)).Nodup := (List.mergeSort_perm _ _).nodup_iff.mpr nd
  refine (List.Pairwise.and p n).imp fun {a b} ⟨h1, h2⟩ => ?_
  cases h : PySem.W.dataLt (dt a) (dt b) with
  | true => rfl
  | false =>
    have h1 : (!PySem.W.dataLt (dt b) (dt a)) = true := h1
    exact absurd (inj a b (eqv_of_two (al a b) h (by simpa using h1))) h2
theorem sumR_app : ∀ a b : List Rat, sumR (a ++ b) = sumR a + sumR b
  | [], b => by show sumR b = 0 + sumR b; rw [Rat.zero_add]
  | x :: a, b => by show x + sumR (a ++ b) = x + sumR a + sumR b; rw [sumR_app a b, Rat.add_assoc]
theorem div_add {a b S : Int} (h : S ≠ 0) : Rat.divInt a S + Rat.divInt b S = Rat.divInt (a + b) S := by
  rw [Rat.divInt_add_divInt _ _ h h, ← Int.add_mul, Rat.divInt_mul_right h]
/-- a fraction over one bottom -/
def Dv (D : Int) (q : Rat) : Prop := ∃ n : Int, q = Rat.divInt n D
theorem Dv.add {D : Int} (h : D ≠ 0) {p q : Rat} (a : Dv D p) (b : Dv D q) : Dv D (p + q) := by
  obtain ⟨n, rfl⟩ := a
  obtain ⟨m, rfl⟩ := b
  exact ⟨n + m, div_add h⟩
theorem Dv.zero (D : Int) : Dv D 0 := ⟨0, (Rat.zero_divInt _).symm⟩
theorem Dv.sum {D : Int} (h : D ≠ 0) : ∀ {l : List Rat}, (∀ q ∈ l, Dv D q) → Dv D (sumR l)
  | [], _ => Dv.zero D
  | q :: l, hl => Dv.add h (hl q List.mem_cons_self) (Dv.sum h fun r hr => hl r (List.mem_cons_of_mem _ hr))
theorem Dv.mul {D D' : Int} {p q : Rat} (a : Dv D p) (b : Dv D' q) : Dv (D * D') (p * q) := by
  obtain ⟨n, rfl⟩ := a
  obtain ⟨m, rfl⟩ := b
  exact ⟨n * m, Rat.divInt_mul_divInt _ _⟩
theorem Dv.more {D D' : Int} (h : D' ≠ 0) {p : Rat} (a : Dv D p) : Dv (D * D') p := by
  obtain ⟨n, rfl⟩ := a
  exact ⟨n * D', (Rat.divInt_mul_right h).symm⟩
theorem Dv.more' {D D' : Int} (h : D' ≠ 0) {p : Rat} (a : Dv D p) : Dv (D' * D) p := by
  rw [Int.mul_comm]
  exact a.more h
theorem Dv.sub {D : Int} (h : D ≠ 0) {p q : Rat} (a : Dv D p) (b : Dv D q) : Dv D (p - q) := by
  obtain ⟨n, rfl⟩ := a
  obtain ⟨m, rfl⟩ := b
  refine ⟨n - m, ?_⟩
  have e : Rat.divInt n D = Rat.divInt (n - m) D + Rat.divInt m D := by
    rw [div_add h]
    congr 1
    omega
  rw [e]
  grind
theorem Dv.sz {D : Int} {k : Nat} {q : Rat} (h : Dv D q) (D0 : 0 < D) (Dk : D.natAbs < 2 ^ k) (q0 : 0 ≤ q) (q1 : q ≤ 1) : Sz k q := by
  obtain ⟨n, rfl⟩ := h
  have n0 : 0 ≤ n := (Rat.divInt_nonneg_iff_of_pos_right D0).mp q0
  have n1 : n ≤ D := by
    have e : Rat.divInt D D = 1 := by
      have := Rat.divInt_mul_right (n := 1) (d := 1) (show D ≠ 0 by omega)
      rw [Int.one_mul] at this
      rw [this]
      rfl
    have a := div_add (a := n) (b := D - n) (S := D) (by omega)
    rw [show n + (D - n) = D by omega, e] at a
    have : 0 ≤ Rat.divInt (D - n) D := by grind
    have := (Rat.divInt_nonneg_iff_of_pos_right D0).mp this
    omega
  exact sz_divInt (by omega) (by omega) Dk
section
variable {α β : Type} {dt : α → PyData} {dt2 : β → PyData}
theorem asc_ext {l l' : List α} (h : Asc dt l) (h' : Asc dt l') (m : ∀ a, a ∈ l ↔ a ∈ l') : l = l' := by
  have p : l.Perm l' := (List.perm_ext_iff_of_nodup (asc_nodup h) (asc_nodup h')).mpr m
  exact List.Perm.eq_of_pairwise (le := fun a b => dle (dt a) (dt b) = true) (fun a b ha hb h1 h2 => asc_two h ha ((m b).mpr hb) h1 h2) (asc_le h) (asc_le h') p
variable [DecidableEq α] [DecidableEq β]
theorem sumG_out {ps : List (α × Rat)} {a : α} (h : a ∉ ps.map (·.1)) : sumG ps a = 0 := by
  unfold sumG
  rw [List.filter_eq_nil_iff.mpr fun p hp => by simpa using fun e : p.1 = a => h (List.mem_map.mpr ⟨p, hp, e⟩)]
  rfl
theorem sumsG_val {ps : List (α × Rat)} {p : α × Rat} (h : p ∈ sumsG dt ps) : p.2 = sumG ps p.1 ∧ p.2 ≠ 0 ∧ p.1 ∈ ps.map (·.1) := by
  unfold sumsG at h
  obtain ⟨h1, h2⟩ := List.mem_filter.mp h
  obtain ⟨a, ha, rfl⟩ := List.mem_map.mp h1
  exact ⟨rfl, of_decide_eq_true h2, (firsts_mem _ _).mp ((List.mergeSort_perm _ _).mem_iff.mp ha)⟩
theorem sumsG_mem {ps : List (α × Rat)} {a : α} : a ∈ (sumsG dt ps).map (·.1) ↔ sumG ps a ≠ 0 := by
  constructor
  · intro h
    obtain ⟨p, hp, rfl⟩ := List.mem_map.mp h
    obtain ⟨e, n, _⟩ := sumsG_val hp
    rw [← e]
    exact n
  · intro h
    have k : a ∈ ps.map (·.1) := Classical.byContradiction fun z => h (sumG_out z)
    refine List.mem_map.mpr ⟨(a, sumG ps a), ?_, rfl⟩
    unfold sumsG
    exact List.mem_filter.mpr ⟨List.mem_map.mpr ⟨a, (List.mergeSort_perm _ _).mem_iff.mpr ((firsts_mem _ _).mpr k), rfl⟩, decide_eq_true h⟩
theorem sumsG_asc (al : ∀ a b, PySem.W.alike (dt a) (dt b) = true) (inj : ∀ a b, PyData.eqv (dt a) (dt b) = true → a = b) (ps : List (α × Rat)) : Asc dt ((sumsG dt ps).map (·.1)) := by
  have := asc_of_sort (dt := dt) al inj (firsts_nodup (ps.map (·.1)))
  refine List.Pairwise.sublist ?_ this
  unfold sumsG
  have e : (((firsts (ps.map (·.1))).mergeSort fun a b => dle (dt a) (dt b)).map fun a => (a, sumG ps a)).map (·.1) = (firsts (ps.map (·.1))).mergeSort fun a b => dle (dt a) (dt b) := by
    rw [List.map_map]
    exact List.map_id _
  have s := (List.filter_sublist (p := fun p : α × Rat => decide (p.2 ≠ 0)) (l := ((firsts (ps.map (·.1))).mergeSort fun a b => dle (dt a) (dt b)).map fun a => (a, sumG ps a))).map (·.1)
  rw [e] at s
  exact s
theorem sumsG_form (ps : List (α × Rat)) : sumsG dt ps = ((sumsG dt ps).map (·.1)).map fun a => (a, sumG ps a) := by
  rw [List.map_map]
  exact (List.map_id _).symm.trans (List.map_congr_left fun p hp => Prod.ext rfl (sumsG_val hp).1)
theorem sumsG_ext (al : ∀ a b, PySem.W.alike (dt a) (dt b) = true) (inj : ∀ a b, PyData.eqv (dt a) (dt b) = true → a = b) {ps qs : List (α × Rat)} (h : ∀ a, sumG ps a = sumG qs a) : sumsG dt ps = sumsG dt qs := by
  rw [sumsG_form ps, sumsG_form qs, asc_ext (sumsG_asc al inj ps) (sumsG_asc al inj qs) fun a => by rw [sumsG_mem, sumsG_mem, h a]]
  exact List.map_congr_left fun a _ => by rw [h a]
theorem sumG_app (a b : List (α × Rat)) (k : α) : sumG (a ++ b) k = sumG a k + sumG b k := by
  unfold sumG
  rw [List.filter_append, List.map_append, sumR_app]
theorem sumG_perm {a b : List (α × Rat)} (h : a.Perm b) (k : α) : sumG a k = sumG b k := sumR_perm ((h.filter _).map _)
theorem sumG_mulW (w : α → Rat) (a : α) : ∀ ps : List (α × Rat), sumG (ps.map fun p => (p.1, w p.1 * p.2)) a = w a * sumG ps a
  | [] => by show (0 : Rat) = w a * 0; rw [Rat.mul_zero]
  | p :: ps => by
    rw [List.map_cons, sumG_cons, sumG_cons, sumG_mulW w a ps]
    show (if p.1 = a then w p.1 * p.2 else 0) + _ = _
    by_cases e : p.1 = a
    · rw [if_pos e, if_pos e, e, Rat.mul_add]
    · rw [if_neg e, if_neg e, Rat.mul_add, Rat.mul_zero]
theorem sumG_scale (r : Rat) (ps : List (α × Rat)) (a : α) : sumG (ps.map fun p => (p.1, p.2 * r)) a = sumG ps a * r := by
  have e : (ps.map fun p => (p.1, p.2 * r)) = ps.map fun p => (p.1, (fun _ => r) p.1 * p.2) := List.map_congr_left fun p _ => by rw [Rat.mul_comm]
  rw [e]
  exact (sumG_mulW (fun _ => r) a ps).trans (Rat.mul_comm _ _)
/-- weighed sums of what is summed by keys -/
theorem sum_w (w : α → Rat) (ps : List (α × Rat)) : sumR ((sumsG dt ps).map fun p => w p.1 * p.2) = sumR (ps.map fun p => w p.1 * p.2) := by
  have nz : ∀ l : List (α × Rat), sumR ((l.filter fun p => decide (p.2 ≠ 0)).map fun p => w p.1 * p.2) = sumR (l.map fun p => w p.1 * p.2) := fun l => by
    induction l with
    | nil => rfl
    | cons p l ih =>
      rw [List.map_cons]
      show _ = w p.1 * p.2 + sumR _
      rw [← ih]
      by_cases e : p.2 = 0
      · rw [List.filter_cons, if_neg (by simpa using e), e, Rat.mul_zero, Rat.zero_add]
      · rw [List.filter_cons, if_pos (decide_eq_true e)]
        rfl
  have pm : ((firsts (ps.map (·.1))).mergeSort fun a b => dle (dt a) (dt b)).Perm (firsts (ps.map (·.1))) := List.mergeSort_perm _ _
  unfold sumsG
  rw [nz, List.map_map]
  refine (sumR_perm (pm.map _)).trans ?_
  have e1 : (firsts (ps.map (·.1))).map ((fun p : α × Rat => w p.1 * p.2) ∘ fun a => (a, sumG ps a)) = (firsts (ps.map (·.1))).map (sumG (ps.map fun p => (p.1, w p.1 * p.2))) := List.map_congr_left fun a _ => (sumG_mulW w a ps).symm
  rw [e1]
  have := sum_keys (firsts_nodup (ps.map (·.1))) (ps := ps.map fun p => (p.1, w p.1 * p.2)) fun p hp => by
    obtain ⟨q, hq, rfl⟩ := List.mem_map.mp hp
    exact (firsts_mem _ _).mpr (List.mem_map.mpr ⟨q, hq, rfl⟩)
  rw [this, List.map_map]
  rfl
theorem sumG_w (f : α → β) (b : β) : ∀ ps : List (α × Rat), sumG (ps.map fun p => (f p.1, p.2)) b = sumR (ps.map fun p => (if f p.1 = b then (1 : Rat) else 0) * p.2)
  | [] => rfl
  | p :: ps => by
    rw [List.map_cons, sumG_cons, sumG_w f b ps]
    show _ = _ + sumR _
    congr 1
    show (if f p.1 = b then p.2 else 0) = (if f p.1 = b then (1 : Rat) else 0) * p.2
    by_cases e : f p.1 = b
    · rw [if_pos e, if_pos e, Rat.one_mul]
    · rw [if_neg e, if_neg e, Rat.zero_mul]
theorem sumG_sums (f : α → β) (b : β) (ps : List (α × Rat)) : sumG ((sumsG dt ps).map fun p => (f p.1, p.2)) b = sumG (ps.map fun p => (f p.1, p.2)) b := by
  rw [sumG_w, sumG_w]
  exact sum_w (fun a => if f a = b then (1 : Rat) else 0) ps
theorem sumG_idem (a : α) (ps : List (α × Rat)) : sumG (sumsG dt ps) a = sumG ps a := by
  have := sumG_sums (dt := dt) (fun a : α => a) a ps
  rwa [show (fun p : α × Rat => (p.1, p.2)) = id from rfl, List.map_id, List.map_id] at this
theorem sums_sums (al : ∀ a b, PySem.W.alike (dt2 a) (dt2 b) = true) (inj : ∀ a b, PyData.eqv (dt2 a) (dt2 b) = true → a = b) (f : α → β) (ps : List (α × Rat)) : sumsG dt2 ((sumsG dt ps).map fun p => (f p.1, p.2)) = sumsG dt2 (ps.map fun p => (f p.1, p.2)) :=
  sumsG_ext al inj fun b => sumG_sums f b ps
theorem sumR_nonneg : ∀ {l : List Rat}, (∀ q ∈ l, 0 ≤ q) → 0 ≤ sumR l
  | [], _ => Rat.le_refl
  | q :: l, h => by
    have a := h q List.mem_cons_self
    have b := sumR_nonneg fun r hr => h r (List.mem_cons_of_mem _ hr)
    show 0 ≤ q + sumR l
    grind
theorem sumR_sub_le : ∀ {l l' : List Rat}, l.Sublist l' → (∀ q ∈ l', 0 ≤ q) → sumR l ≤ sumR l' := by
  intro l l' h
  induction h with
  | slnil => exact fun _ => Rat.le_refl
  | @cons l1 l2 a _ ih =>
    intro hn
    have := ih fun q hq => hn q (List.mem_cons_of_mem _ hq)
    have := hn a List.mem_cons_self
    show _ ≤ a + sumR _
    grind
  | @cons_cons l1 l2 a _ ih =>
    intro hn
    have := ih fun q hq => hn q (List.mem_cons_of_mem _ hq)
    show a + sumR _ ≤ a + sumR _
    grind
/-- what sums by keys are -/
structure Part (D : Int) (q : Rat) : Prop where
  dv : Dv D q
  pos : 0 < q
  le : q ≤ 1
theorem Part.sz {D : Int} {k : Nat} {q : Rat} (h : Part D q) (D0 : 0 < D) (Dk : D.natAbs < 2 ^ k) : Sz k q := h.dv.sz D0 Dk (by have := h.pos; grind) h.le
theorem sumG_part {ps : List (α × Rat)} {D : Int} (D0 : D ≠ 0) (dv : ∀ p ∈ ps, Dv D p.2) (nn : ∀ p ∈ ps, 0 ≤ p.2) (le : sumR (ps.map (·.2)) ≤ 1) (a : α) : Dv D (sumG ps a) ∧ 0 ≤ sumG ps a ∧ sumG ps a ≤ 1 := by
  have mem : ∀ q ∈ (ps.filter fun q => decide (q.1 = a)).map (·.2), ∃ p ∈ ps, p.2 = q := fun q hq => by
    obtain ⟨p, hp, rfl⟩ := List.mem_map.mp hq
    exact ⟨p, (List.mem_filter.mp hp).1, rfl⟩
  refine ⟨Dv.sum D0 fun q hq => ?_, sumR_nonneg fun q hq => ?_, ?_⟩
  · obtain ⟨p, hp, rfl⟩ := mem q hq
    exact dv p hp
  · obtain ⟨p, hp, rfl⟩ := mem q hq
    exact nn p hp
  · have := sumR_sub_le ((List.filter_sublist (p := fun q : α × Rat => decide (q.1 = a)) (l := ps)).map (·.2)) fun q hq => by
      obtain ⟨p, hp, rfl⟩ := List.mem_map.mp hq
      exact nn p hp
    unfold sumG
    grind
theorem sumsG_part {ps : List (α × Rat)} {D : Int} (D0 : D ≠ 0) (dv : ∀ p ∈ ps, Dv D p.2) (nn : ∀ p ∈ ps, 0 ≤ p.2) (le : sumR (ps.map (·.2)) ≤ 1) : ∀ p ∈ sumsG dt ps, Part D p.2 := fun p hp => by
  obtain ⟨e, n, _⟩ := sumsG_val hp
  obtain ⟨h1, h2, h3⟩ := sumG_part D0 dv nn le p.1
  rw [← e] at h1 h2 h3
  refine ⟨h1, ?_, h3⟩
  grind
end
end Fq

set_option Elab.async false
set_option linter.all false
set_option maxRecDepth 100000
set_option maxHeartbeats 1000000
/-! Od2: shares over one bottom that are together the whole. -/
namespace Fq
open PySem PySem.Spec PyProof.Rows L2 Wb Wv Fm Wf
section
variable {α β : Type} {D : Int} {k : Nat}
structure Wh (D : Int) (k : Nat) (rs : List (α × Rat)) : Prop where
  D0 : 0 < D
  Dk : D.natAbs < 2 ^ k
  dv : ∀ p ∈ rs, Dv D p.2
  nn : ∀ p ∈ rs, 0 ≤ p.2
  sum : sumR (rs.map (·.2)) = 1
theorem le_sum : ∀ {l : List Rat}, (∀ q ∈ l, 0 ≤ q) → ∀ q ∈ l, q ≤ sumR l
  | [], _, q, h => absurd h List.not_mem_nil
  | r :: l, hn, q, h => by
    have a := hn r List.mem_cons_self
    have b := sumR_nonneg fun r hr => hn r (List.mem_cons_of_mem _ hr)
    show q ≤ r + sumR l
    rcases List.mem_cons.mp h with rfl | h
    · grind
    · have := le_sum (fun r hr => hn r (List.mem_cons_of_mem _ hr)) q h
      grind
theorem Wh.le {rs : List (α × Rat)} (h : Wh D k rs) : ∀ p ∈ rs, p.2 ≤ 1 := fun p hp => by
  have := le_sum (l := rs.map (·.2)) (fun q hq => by obtain ⟨r, hr, rfl⟩ := List.mem_map.mp hq; exact h.nn r hr) p.2 (List.mem_map.mpr ⟨p, hp, rfl⟩)
  rw [h.sum] at this
  exact this
theorem Wh.sz {rs : List (α × Rat)} (h : Wh D k rs) : ∀ p ∈ rs, Sz k p.2 := fun p hp => (h.dv p hp).sz h.D0 h.Dk (h.nn p hp) (h.le p hp)
theorem szs_of {rs : List (α × Rat)} {n : Nat} (h : ∀ t ∈ rs, Sz k t.2) (hl : rs.length ≤ n) (k1 : 1 ≤ k := by decide) (k3 : k ≤ 3000 := by decide) (hn : n * k ≤ 6000 := by decide) : Szs rs.length (rs.map (·.2)) :=
  ⟨k, k1, k3, Nat.le_trans (Nat.mul_le_mul_right _ hl) hn, fun q hq => by obtain ⟨t, ht, rfl⟩ := List.mem_map.mp hq; exact h t ht⟩
theorem Wh.szs {rs : List (α × Rat)} {n : Nat} (h : Wh D k rs) (hl : rs.length ≤ n) (k1 : 1 ≤ k := by decide) (k3 : k ≤ 3000 := by decide) (hn : n * k ≤ 6000 := by decide) : Szs rs.length (rs.map (·.2)) := szs_of h.sz hl k1 k3 hn
theorem Wh.map {rs : List (α × Rat)} (h : Wh D k rs) (f : α → β) : Wh D k (rs.map fun p => (f p.1, p.2)) where
  D0 := h.D0
  Dk := h.Dk
  dv := fun p hp => by obtain ⟨q, hq, rfl⟩ := List.mem_map.mp hp; exact h.dv q hq
  nn := fun p hp => by obtain ⟨q, hq, rfl⟩ := List.mem_map.mp hp; exact h.nn q hq
  sum := by rw [List.map_map]; exact h.sum
variable [DecidableEq α] {dt : α → PyData}
theorem Wh.part {rs : List (α × Rat)} (h : Wh D k rs) : ∀ p ∈ sumsG dt rs, Part D p.2 := sumsG_part (by have := h.D0; omega) h.dv h.nn (by rw [h.sum]; exact Rat.le_refl)
theorem Wh.sums {rs : List (α × Rat)} (h : Wh D k rs) : Wh D k (sumsG dt rs) where
  D0 := h.D0
  Dk := h.Dk
  dv := fun p hp => (h.part p hp).dv
  nn := fun p hp => by have := (h.part p hp).pos; grind
  sum := by rw [sum_sumsG]; exact h.sum
theorem Wh.ne {rs : List (α × Rat)} (h : Wh D k rs) : 1 ≤ rs.length := by
  cases rs with
  | nil => exact absurd (show (0 : Rat) = 1 from h.sum) (by decide)
  | cons p l => exact Nat.le_add_left _ _
theorem Wh.mix {E : Int} {a b : List (α × Rat)} {r : Rat} (ha : Wh D 40 a) (hb : Wh E 40 b) (dr : Dv 14 r) (r0 : 0 ≤ r) (r1 : r ≤ 1) : Wh (D * E * 14) 84 (a.map (fun t => (t.1, t.2 * (1 - r))) ++ b.map fun t => (t.1, t.2 * r)) where
  D0 := Int.mul_pos (Int.mul_pos ha.D0 hb.D0) (by decide)
  Dk := by
    rw [Int.natAbs_mul, Int.natAbs_mul]
    have h1 := Nat.mul_lt_mul'' ha.Dk hb.Dk
    have h2 := Nat.mul_lt_mul'' h1 (show (14 : Int).natAbs < 2 ^ 4 by decide)
    have e : (2 : Nat) ^ 40 * 2 ^ 40 * 2 ^ 4 = 2 ^ 84 := by rw [← Nat.pow_add, ← Nat.pow_add]
    rw [e] at h2
    exact h2
  dv := fun p hp => by
    have d1 : Dv 14 (1 : Rat) := ⟨14, by decide +kernel⟩
    rcases List.mem_append.mp hp with h | h
    · obtain ⟨q, hq, rfl⟩ := List.mem_map.mp h
      exact ((ha.dv q hq).more (by have := hb.D0; omega)).mul (d1.sub (by decide) dr)
    · obtain ⟨q, hq, rfl⟩ := List.mem_map.mp h
      exact ((hb.dv q hq).more' (by have := ha.D0; omega)).mul dr
  nn := fun p hp => by
    rcases List.mem_append.mp hp with h | h
    · obtain ⟨q, hq, rfl⟩ := List.mem_map.mp h
      exact Rat.mul_nonneg (ha.nn q hq) (by grind)
    · obtain ⟨q, hq, rfl⟩ := List.mem_map.mp h
      exact Rat.mul_nonneg (hb.nn q hq) r0
  sum := by
    have sc : ∀ (l : List (α × Rat)) (f : Rat), sumR ((l.map fun t => (t.1, t.2 * f)).map (·.2)) = sumR (l.map (·.2)) * f := fun l f => by
      induction l with
      | nil => show (0 : Rat) = 0 * f; rw [Rat.zero_mul]
      | cons p l ih =>
        rw [List.map_cons, List.map_cons, List.map_cons]
        show p.2 * f + sumR _ = (p.2 + sumR _) * f
        rw [ih, Rat.add_mul]
    rw [List.map_append, sumR_app, sc, sc, ha.sum, hb.sum]
    grind
end
end Fq

set_option Elab.async false
set_option linter.all false
set_option maxRecDepth 100000
set_option maxHeartbeats 1000000
/-! Od3: means of whole worths by shares over one bottom. -/
namespace Fq
open PySem PySem.Spec PyProof.Rows L2 Wb Wv Fm Wf
theorem div_one {S : Int} (h : S ≠ 0) : Rat.divInt S S = 1 := by
  have := Rat.divInt_mul_right (n := 1) (d := 1) h
  rw [Int.one_mul] at this
  rw [this]
  rfl
theorem int_div (i : Int) : (i : Rat) = Rat.divInt i 1 := by
  have := Rat.num_divInt_den (i : Rat)
  rw [Rat.num_intCast, Rat.den_intCast] at this
  exact this.symm
theorem len_pos {α : Type} {l : List α} (h : l ≠ []) : 0 < l.length := by
  cases l with
  | nil => exact absurd rfl h
  | cons a l => exact Nat.succ_pos _
theorem divInt_inj {D m n : Int} (h : D ≠ 0) (e : Rat.divInt m D = Rat.divInt n D) : m = n := by
  have := (Rat.divInt_eq_divInt_iff h h).mp e
  exact Int.eq_of_mul_eq_mul_right h this
abbrev denM (ps : List (Rat × Int)) : Rat := sumR (ps.map (·.1))
abbrev topM (ps : List (Rat × Int)) : Rat := sumR (ps.map fun p => p.1 * (p.2 : Rat))
/-- shares over D, above 0; worths of fewer than k bits -/
structure Mn (D : Int) (k : Nat) (ps : List (Rat × Int)) : Prop where
  D0 : 0 < D
  Dk : D.natAbs < 2 ^ 12
  few : ps.length ≤ 216
  each : ∀ p ∈ ps, ∃ n : Int, p.1 = Rat.divInt n D ∧ 0 < n ∧ n ≤ D
  val : ∀ p ∈ ps, p.2.natAbs < 2 ^ k
theorem Mn.sub {D : Int} {k : Nat} {ps qs : List (Rat × Int)} (h : Mn D k ps) (s : qs.Sublist ps) : Mn D k qs where
  D0 := h.D0
  Dk := h.Dk
  few := Nat.le_trans s.length_le h.few
  each := fun p hp => h.each p (s.subset hp)
  val := fun p hp => h.val p (s.subset hp)
theorem Mn.of {α : Type} {D : Int} {k : Nat} {ts : List (α × Rat)} (w : Wh D 12 ts) (pos : ∀ t ∈ ts, 0 < t.2) (few : ts.length ≤ 216) (p : α → Bool) (f : α → Int) (hf : ∀ t ∈ ts, (f t.1).natAbs < 2 ^ k) : Mn D k ((ts.filter fun t => p t.1).map fun t => (t.2, f t.1)) where
  D0 := w.D0
  Dk := w.Dk
  few := by
    rw [List.length_map]
    exact Nat.le_trans (List.length_filter_le _ _) few
  each := fun q hq => by
    obtain ⟨t, ht, rfl⟩ := List.mem_map.mp hq
    have ht := (List.mem_filter.mp ht).1
    obtain ⟨n, hn⟩ := w.dv t ht
    have D0 := w.D0
    have p0 := pos t ht
    have le := w.le t ht
    refine ⟨n, hn, ?_, ?_⟩
    · rw [hn] at p0
      have n0 : 0 ≤ n := (Rat.divInt_nonneg_iff_of_pos_right D0).mp (by grind)
      rcases Int.lt_or_eq_of_le n0 with z | z
      · exact z
      · rw [← z, Rat.zero_divInt] at p0
        exact absurd p0 (Rat.not_lt.mpr Rat.le_refl)
    · have a := div_add (a := n) (b := D - n) (S := D) (by omega)
      rw [show n + (D - n) = D by omega, div_one (by omega), ← hn] at a
      have : 0 ≤ Rat.divInt (D - n) D := by grind
      have := (Rat.divInt_nonneg_iff_of_pos_right D0).mp this
      omega
  val := fun q hq => by
    obtain ⟨t, ht, rfl⟩ := List.mem_map.mp hq
    exact hf t (List.mem_filter.mp ht).1
section
variable {D : Int} {k : Nat} {ps : List (Rat × Int)}
theorem Mn.dens (h : Mn D k ps) : ∃ M : Int, denM ps = Rat.divInt M D ∧ (ps.length : Int) ≤ M ∧ M ≤ ps.length * D := by
  induction ps with
  | nil => exact ⟨0, by show (0 : Rat) = _; rw [Rat.zero_divInt], Int.le_refl _, by simp⟩
  | cons p l ih =>
    obtain ⟨M, e, m1, m2⟩ := ih (h.sub (List.sublist_cons_self _ _))
    obtain ⟨n, hn, n0, nD⟩ := h.each p List.mem_cons_self
    have D0 := h.D0
    refine ⟨n + M, ?_, ?_, ?_⟩
    · rw [← div_add (by omega), ← e, ← hn]
      rfl
    · rw [List.length_cons]; omega
    · rw [List.length_cons, Int.natCast_add, Int.add_mul]
      omega
theorem Mn.tops (h : Mn D k ps) : ∃ N : Int, topM ps = Rat.divInt N D ∧ N.natAbs ≤ ps.length * (2 ^ (12 + k)) := by
  induction ps with
  | nil => exact ⟨0, by show (0 : Rat) = _; rw [Rat.zero_divInt], by simp⟩
  | cons p l ih =>
    obtain ⟨N, e, m1⟩ := ih (h.sub (List.sublist_cons_self _ _))
    obtain ⟨n, hn, n0, nD⟩ := h.each p List.mem_cons_self
    have D0 := h.D0
    have Dk := h.Dk
    refine ⟨n * p.2 + N, ?_, ?_⟩
    · rw [← div_add (by omega), ← e]
      show p.1 * (p.2 : Rat) + _ = _
      congr 1
      rw [hn]
      have : ((p.2 : Int) : Rat) = Rat.divInt p.2 1 := int_div _
      rw [this, Rat.divInt_mul_divInt, Int.mul_one]
    · have a := Int.natAbs_add_le (n * p.2) N
      have b : (n * p.2).natAbs < 2 ^ (12 + k) := by
        rw [Int.natAbs_mul]
        exact lt_mul (by omega) (h.val p List.mem_cons_self)
      rw [List.length_cons, Nat.add_mul]
      omega
theorem Mn.den_pos (h : Mn D k ps) (ne : ps ≠ []) : 0 < denM ps := by
  obtain ⟨M, e, m1, _⟩ := h.dens
  have : 0 < ps.length := len_pos ne
  rw [e]
  have D0 := h.D0
  have := (Rat.divInt_nonneg_iff_of_pos_right (a := M) D0).mpr (by omega)
  have z : Rat.divInt M D ≠ 0 := fun z => by
    rw [← Rat.zero_divInt D] at z
    have := divInt_inj (by omega) z
    omega
  exact Rat.lt_of_le_of_ne this (Ne.symm z)
theorem Mn.den_zero (h : Mn D k ps) : denM ps = 0 ↔ ps = [] :=
  ⟨fun e => Classical.byContradiction fun ne => absurd (h.den_pos ne) (by rw [e]; exact Rat.not_lt.mpr Rat.le_refl), fun e => by rw [e]; rfl⟩
theorem pow_up {a b : Nat} (h : a ≤ b) : 2 ^ a ≤ 2 ^ b := Nat.pow_le_pow_right (by decide) h
theorem Mn.szd (h : Mn D k ps) : Sz 20 (denM ps) := by
  obtain ⟨M, e, m1, m2⟩ := h.dens
  have D0 := h.D0
  have Dk := h.Dk
  have few := h.few
  rw [e]
  refine sz_divInt (by omega) ?_ (by have := pow_up (show 12 ≤ 20 by decide); omega)
  have : (ps.length : Int) * D ≤ 216 * D := Int.mul_le_mul_of_nonneg_right (by omega) (by omega)
  omega
theorem Mn.top_lt (h : Mn D k ps) : ∃ N : Int, topM ps = Rat.divInt N D ∧ N.natAbs < 2 ^ (20 + k) := by
  obtain ⟨N, e, m1⟩ := h.tops
  refine ⟨N, e, ?_⟩
  have a : ps.length * 2 ^ (12 + k) ≤ 216 * 2 ^ (12 + k) := Nat.mul_le_mul_right _ h.few
  have b : 2 ^ (20 + k) = 256 * 2 ^ (12 + k) := by rw [show 20 + k = 8 + (12 + k) by omega, Nat.pow_add]
  have c : 0 < 2 ^ (12 + k) := Nat.pow_pos (by decide)
  omega
theorem Mn.szt (h : Mn D k ps) : Sz (20 + k) (topM ps) := by
  obtain ⟨N, e, m1⟩ := h.top_lt
  have D0 := h.D0
  have Dk := h.Dk
  rw [e]
  exact sz_divInt (by omega) m1 (by have := pow_up (show 12 ≤ 20 + k by omega); omega)
theorem Mn.szm (h : Mn D k ps) (ne : ps ≠ []) : Sz (20 + k) (topM ps / denM ps) := by
  obtain ⟨N, e, m1⟩ := h.top_lt
  obtain ⟨M, e2, m2, m3⟩ := h.dens
  have l : 0 < ps.length := len_pos ne
  have D0 := h.D0
  have Dk := h.Dk
  have few := h.few
  have W0 : denM ps ≠ 0 := fun z => by
    have := h.den_pos ne
    rw [z] at this
    exact absurd this (Rat.not_lt.mpr Rat.le_refl)
  have q : topM ps / denM ps = Rat.divInt N M := by
    have h : Rat.divInt N M * denM ps = topM ps := by
      rw [e, e2, Rat.divInt_mul_divInt, Int.mul_comm N M, Int.mul_comm M D, Int.mul_comm M N, Rat.divInt_mul_right (by omega)]
    rw [← h, Rat.mul_div_cancel W0]
  rw [q]
  refine sz_divInt (by omega) m1 ?_
  have : (ps.length : Int) * D ≤ 216 * D := Int.mul_le_mul_of_nonneg_right (by omega) (by omega)
  have := pow_up (show 20 ≤ 20 + k by omega)
  omega
theorem Mn.sz1 (h : Mn D k ps) : ∀ p ∈ ps, Sz 12 p.1 := fun p hp => by
  obtain ⟨n, hn, n0, nD⟩ := h.each p hp
  have D0 := h.D0
  have Dk := h.Dk
  rw [hn]
  exact sz_divInt (by omega) (by omega) Dk
theorem sz_int {k : Nat} (i : Int) (h : i.natAbs < 2 ^ k) (k1 : 1 ≤ k) : Sz k (i : Rat) := ⟨by rw [Rat.num_intCast]; exact h, by rw [Rat.den_intCast]; exact Nat.lt_of_lt_of_le (by decide : 1 < 2 ^ 1) (pow_up k1)⟩
theorem Mn.sz2 (h : Mn D k ps) (k1 : 1 ≤ k) : ∀ p ∈ ps, Sz k ((p.2 : Int) : Rat) := fun p hp => sz_int _ (h.val p hp) k1
theorem Mn.dv1 (h : Mn D k ps) : ∀ q ∈ ps.map (·.1), Dv D q := fun q hq => by
  obtain ⟨p, hp, rfl⟩ := List.mem_map.mp hq
  obtain ⟨n, hn, _⟩ := h.each p hp
  exact ⟨n, hn⟩
theorem Mn.dv2 (h : Mn D k ps) : ∀ q ∈ ps.map (fun p => p.1 * (p.2 : Rat)), Dv D q := fun q hq => by
  obtain ⟨p, hp, rfl⟩ := List.mem_map.mp hq
  obtain ⟨n, hn, _⟩ := h.each p hp
  refine ⟨n * p.2, ?_⟩
  have : ((p.2 : Int) : Rat) = Rat.divInt p.2 1 := int_div _
  show p.1 * (p.2 : Rat) = _
  rw [hn, this, Rat.divInt_mul_divInt, Int.mul_one]
/-- sums of shares times worths, over two worths -/
theorem topM_add {α : Type} (f g : α → Int) : ∀ ts : List (α × Rat), topM (ts.map fun t => (t.2, f t.1 + g t.1)) = topM (ts.map fun t => (t.2, f t.1)) + topM (ts.map fun t => (t.2, g t.1))
  | [] => by show (0 : Rat) = 0 + 0; rw [Rat.add_zero]
  | t :: l => by
    have ih := topM_add f g l
    show t.2 * ((f t.1 + g t.1 : Int) : Rat) + topM _ = (t.2 * (f t.1 : Rat) + topM _) + (t.2 * (g t.1 : Rat) + topM _)
    rw [ih, Rat.intCast_add, Rat.mul_add]
    grind
/-- a worth of 1 where a test holds, 0 elsewhere -/
theorem topM_if {α : Type} (p : α → Bool) : ∀ ts : List (α × Rat), topM (ts.map fun t => (t.2, if p t.1 = true then (1 : Int) else 0)) = sumR ((ts.filter fun t => p t.1).map (·.2))
  | [] => rfl
  | t :: l => by
    have ih := topM_if p l
    rw [List.map_cons, List.filter_cons]
    show t.2 * ((if p t.1 = true then (1 : Int) else 0 : Int) : Rat) + topM _ = _
    rw [ih]
    split
    · rw [List.map_cons]
      show t.2 * ((1 : Int) : Rat) + _ = t.2 + _
      rw [show ((1 : Int) : Rat) = 1 from rfl, Rat.mul_one]
    · show t.2 * ((0 : Int) : Rat) + _ = _
      rw [show ((0 : Int) : Rat) = 0 from rfl, Rat.mul_zero, Rat.zero_add]
/-- a sum over those where a test holds, and the others -/
theorem sumR_split {α : Type} (p : α → Bool) (f : α → Rat) : ∀ l : List α, sumR (l.map f) = sumR ((l.filter p).map f) + sumR ((l.filter fun a => !p a).map f)
  | [] => by show (0 : Rat) = 0 + 0; rw [Rat.add_zero]
  | a :: l => by
    have ih := sumR_split p f l
    rw [List.map_cons, List.filter_cons, List.filter_cons]
    show f a + _ = _
    rw [ih]
    cases p a with
    | true =>
      simp only [if_true, Bool.not_true, Bool.false_eq_true, if_false, List.map_cons]
      show _ = (f a + _) + _
      grind
    | false =>
      simp only [Bool.false_eq_true, if_false, Bool.not_false, if_true, List.map_cons]
      show _ = _ + (f a + _)
      grind
end
end Fq

set_option Elab.async false
set_option linter.all false
set_option maxRecDepth 100000
set_option maxHeartbeats 4000000
/-! Wn5: sorted(d.keys()), d a dict whose keys are tuples of any depth. -/
namespace Wb
open PySem PySem.Spec PyProof.Rows L2
section
variable {X : Cx} {pins : List (Addr × Obj)} {σ : L2.St} {H : Hp} {s : Shared}
theorem meets_keysT {prog : Program} {w : World} (d : Addr) (hd : (d == sysModules) = false) :
    MeetsIn prog w (Builtin.«dict.keys» ⟨[.ref d], []⟩) (fun _ R s => s.TypeIs (.ref d) "dict" ∧
      R (.ok (.ret (.ref s.heap.objs.size))) { s with heap := s.heap.push { cls := .type "dict_keys", data := .fields #[.ref d] } }) :=
  .of_wp fun A R s ⟨ht, h⟩ => by
    refine wpAny_bind ?_
    unfold Builtin.Dict.noArgs
    refine wpAny_bind (wpAny_notOrdered_dict ht ?_)
    show wpAny _ _ (pure d) _ _ s
    refine wpAny_pure ?_
    show wpAny _ _ (Builtin.Dict.showsAll d >>= _) _ _ s
    unfold Builtin.Dict.showsAll
    rw [if_neg (by rw [hd]; exact Bool.false_ne_true)]
    refine wpAny_bind (wpAny_pure ?_)
    exact wpAny_bind (wpAny_newObj_type (wpAny_pure ⟨_, rfl, h⟩))
theorem sorted_keysN {d r : Addr} {kvs : List Nen} {Q : VK} (hc : X.calm = true) (hu : X.A.units + 64 < cLine) (I : Inv X pins σ H s) (hd : H d = some (NdiO X.prog X.w d kvs)) (hka : NksAt X.K H kvs) (htu : ∀ e ∈ kvs, ∃ ks, e.1 = .tup ks) (hal : PySem.W.AllAlike (kvs.map fun kv => kv.1.data))
    (hv : PySem.W.KdlKeysView s.heap r d) (q : ∀ p, H p = none → Q (.ref p) (upd H p (.lst (sortV (kvs.map fun e => V.ref e.2.1) (kvs.map fun kv => kv.1.data))))) :
    wpAny (model X.prog X.w) X.A (call (.builtin "sorted") [.ref r]) (EP X pins σ Q) X.xe s := by
  obtain ⟨z, hs, ks, pr, o, es, ep, ho, hx, hdt, he, hn⟩ := (I.hok d _ hd).1
  have l1 : es.size = ks.length := size_of_entries he
  have l2 : kvs.length = ks.length := Paired.length pr
  refine PySem.W.sorted_src (PySem.KdlSrc.rawKeys (r := r) (d := d) (es := es) (ep := ep)) (I.ok.hd hc) ⟨hv, o, ho, hx, hdt⟩ (by omega) fun h' tk acc kp it => ?_
  have ea : acc.toList = ks.map fun x => Value.ref x.2.1 := by
    have hl : acc.toList.length = ks.length := by rw [Array.length_toList, it.1]; exact l1
    apply List.ext_getElem?
    intro j
    rw [List.getElem?_map]
    cases hj : acc.toList[j]? with
    | none =>
      have h1 := List.getElem?_eq_none_iff.mp hj
      rw [List.getElem?_eq_none (by omega)]
      all_goals rfl
    | some v =>
      obtain ⟨hi, hv⟩ := it.2 j v (by rw [← Array.getElem?_toList]; exact hj)
      have hen : es[j]? = some es[j] := Array.getElem?_eq_getElem hi
      generalize es[j] = en at hen hv
      have qe := entry_at he j
      rw [hen] at qe
      cases hb : ks[j]? with
      | none =>
        rw [hb] at qe
        exact nomatch (show some en = none from qe)
      | some b =>
        rw [hb] at qe
        have e2 : en = entryOfKey (NK X.prog X.w) b := Option.some.inj qe
        rw [hv, e2]
        all_goals rfl
  have eb : acc.toList = (ks.map fun x => x.2.1).map Value.ref := by rw [ea, List.map_map]; all_goals rfl
  have rv : Vals ((ks.map fun x => x.2.1).map V.ref) acc.toList := by rw [eb]; exact vals_refs _
  have ik : ks.map (fun x => x.2.1) = kvs.map fun e => e.2.1 := nv_addrs pr
  rw [ik] at eb rv
  generalize hbs : kvs.map (fun e => e.2.1) = bs at eb rv
  have hbs' : bs.map V.ref = kvs.map fun e => V.ref e.2.1 := by rw [← hbs, List.map_map]; rfl
  have hdp : DpAll X.K H (bs.map V.ref) (kvs.map fun kv => kv.1.data) := by rw [hbs']; exact dp_nens hka
  have len := dpAll_len hdp
  have em : ((bs.map V.ref).zip (kvs.map fun kv => kv.1.data)).map Prod.snd = kvs.map fun kv => kv.1.data := zip_snd len
  have I1 : Inv X pins σ H { s with heap := h', toks := tk } := I.kept kp
  have e := each_pairs I1 rv hdp
  have hoL : (h'.push (seqObj "list" acc.toList.toArray 0)).get? h'.objs.size = some (seqObj "list" acc.toList.toArray 0) := Heap.get?_push_size _ rfl
  have old : ∀ b u, h'.get? b = some u → (PySem.W.sortingHeap (h'.push (seqObj "list" acc.toList.toArray 0)) h'.objs.size acc.toList).get? b = some u := fun b u hb =>
    PySem.W.sortingHeap_old (Nat.ne_of_lt (Heap.lt_size hb)) (Heap.get?_push_of_some _ hb)
  have er : PySem.W.EachIs (fun (v : Value) (b : V × PyData) => ∃ as, Reads (PySem.W.sortingHeap (h'.push (seqObj "list" acc.toList.toArray 0)) h'.objs.size acc.toList) v b.2 as) acc.toList ((bs.map V.ref).zip (kvs.map fun kv => kv.1.data)) :=
    e.mono fun v b h => by
      obtain ⟨as, rr⟩ := Dp.reads I1 b.2 b.1 v h.2 h.1
      exact ⟨as, PyProof.Rows.Reads.keeps old rr⟩
  refine ⟨((bs.map V.ref).zip (kvs.map fun kv => kv.1.data)).map Prod.snd, PySem.W.SortsAt.ok (PySem.W.each_map (R := fun v d => ∃ as, Reads (PySem.W.sortingHeap (h'.push (seqObj "list" acc.toList.toArray 0)) h'.objs.size acc.toList) v d as) Prod.snd er) (by rw [em]; exact hal) (.inl ?_) (PySem.W.bound_map ?_), ?_⟩
  · intro d hd
    rw [em] at hd
    obtain ⟨kv, hm, rfl⟩ := List.mem_map.mp hd
    obtain ⟨ks, ek⟩ := htu kv hm
    rw [ek]
    exact ⟨_, rfl⟩
  · intro b hb
    have hb := (List.of_mem_zip hb).2
    obtain ⟨kv, hm, e⟩ := List.mem_map.mp hb
    have := depth_data kv.1
    have := (hka kv hm).2
    rw [← e]
    show X.A.units + 1 + 1 + (kv.1.data).depth < cLine
    omega
  · have eo := PySem.W.sortVals_data false e er (by rw [em]; exact hal)
    obtain ⟨o1, o2⟩ := pairs_out eo
    obtain ⟨c, hcc⟩ := PyProof.Rows.sortedHeap_at (vs := acc.toList) (out := (PySem.W.sortVals (PySem.W.dataKind (PySem.W.sortingHeap (h'.push (seqObj "list" acc.toList.toArray 0)) h'.objs.size acc.toList) (((bs.map V.ref).zip (kvs.map fun kv => kv.1.data)).map Prod.snd)) false acc.toList acc.toList).toArray) hoL
    have ln : (sortV (bs.map V.ref) (kvs.map fun kv : Nen => kv.1.data)).length ≤ sizeLine := by
      unfold sortV
      rw [List.length_map, List.length_mergeSort, List.length_zip, len, Nat.min_self, List.length_map]
      omega
    have o1 : Vals (sortV (bs.map V.ref) (kvs.map fun kv : Nen => kv.1.data)) _ := o1
    refine ⟨.ref h'.objs.size, upd H h'.objs.size (.lst (sortV (bs.map V.ref) (kvs.map fun kv : Nen => kv.1.data))), I1.laid (t' := tk) (fun b u e => ?_) (Nat.le_refl _) ⟨ln, _, c, o1, hcc⟩, rfl, hbs' ▸ q _ (I1.hok.fresh (Nat.le_refl _))⟩
    have hlt := Heap.lt_size e
    rw [PyProof.Rows.sortedHeap_old (Nat.ne_of_lt hlt) (by rw [size_push']; exact Nat.lt_succ_of_lt hlt)]
    exact Heap.get?_push_of_some _ e
theorem pe_sortedK {x : Str} {o : Expr} {p cpos pos apos : Pos} {td : TE} (hc : X.calm = true) (hu : X.A.units + 64 < cLine) (hg : Gl X x) (hm : X.mg x = none) (hv : bootBuiltins x = some (.builtin "sorted")) (ho : PE X o td) (hn : x ≠ "__name__" := by decide) (hdb : (x == ("__debug__" : Str)) = false := by decide)
    (hbase : attributeBase o "keys" X.env (eval o X.env) = eval o X.env := by rfl) (hline : (apos.endLine == cpos.line) = true := by rfl)
    (he : starEach [.Call (.Attribute o "keys" apos) [] [] cpos] X.env = (false, eval (.Call (.Attribute o "keys" apos) [] [] cpos) X.env) :: starEach [] X.env := by rfl) (hpl : (backTo pos (starEach [] X.env)).any (·.1) = false := by rfl) :
    PE X (.Call (.Name x p) [.Call (.Attribute o "keys" apos) [] [] cpos] [] pos) (tCB (rSortedN X.K X.prog X.w) (tCons td tNil)) := by
  refine ⟨fun pins s σ H Q I h => ?_⟩
  refine wpAny_Call_Name_kw (ld_blt I hg hm hv ?_ hn hdb)
  refine PyProof.Rows.callWith_builtin1 ?_ he hpl
  rw [he]
  show wpAny _ _ (spliced ((false, eval _ X.env) :: backTo pos (starEach [] X.env))) _ _ s
  refine Calls.spliced_cons ?_
  refine wpAny_Call_method (T := "dict") (id := "dict.keys") hbase rfl hline F.plainAttrs_dict F.slot_dict_keys F.type_dict_keys (thn (ho.run pins s σ H _ I h) fun u s1 ⟨v, H1, I1, rx, d, kvs, ev, hd, hka, htu, hal, q⟩ => ?_)
  obtain rfl : v = V.ref d := by injection ev
  obtain rfl : u = Value.ref d := rx
  obtain ⟨t1, t2, t3⟩ := n_isD I1 hd
  refine ⟨t1, t2, ?_⟩
  have I2 : Inv X pins σ H1 { s1 with heap := s1.heap.push { cls := .type "dict_keys", data := .fields #[.ref d] } } := I1.kept (t' := s1.toks) fun b ob q => Heap.get?_push_of_some _ q
  show wpAny _ _ (callWith cpos (.builtin "dict.keys") [.ref d] [] []) _ X.xe s1
  exact method_meetsIn F.slot_dict_keys F.entry_dict_keys rfl (PySem.evalArgs_none ⟨rfl, t1, F.args_dict_keys_1 _, _, meets_keysT d t3, t1, Calls.spliced_nil (sorted_keysN hc hu I2 hd hka htu hal ⟨_, Heap.get?_push_size _ rfl, rfl, rfl⟩ q)⟩)
end
end Wb

set_option Elab.async false
set_option linter.all false
set_option maxRecDepth 100000
set_option maxHeartbeats 4000000
/-! Wn6: fractions summed in a dict by keys of any depth. -/
namespace Wv
open PySem PySem.Spec PyProof.Rows L2 Wb Fq Wf
def putH (hs : List (NestedKey × PyData)) (k : NestedKey) (x : PyData) : List (NestedKey × PyData) := if k ∈ hs.map (·.1) then hs.map (fun p => if p.1 = k then (p.1, x) else p) else hs ++ [(k, x)]
theorem atN_isSome (k : NestedKey) : ∀ l : List Nen, (atN l k).isSome = decide (k ∈ l.map (·.1))
  | [] => rfl
  | p :: l => by
    have ih := atN_isSome k l
    unfold atN at ih ⊢
    rw [List.find?_cons]
    by_cases g : p.1 = k
    · simp [g]
    · have g' : ¬ k = p.1 := fun z => g z.symm
      simp only [g, decide_false, List.map_cons, List.mem_cons, g', false_or]
      exact ih
theorem EntR.snoc {K : PySem.W.Frag} {B : Hp} {l : List Nen} {hs : List (NestedKey × PyData)} (h : EntR K B l hs) {e : Nen} {p : NestedKey × PyData} (he : e.1 = p.1 ∧ dat K p.2 B e.2.2) : EntR K B (l ++ [e]) (hs ++ [p]) := by
  unfold EntR at *
  induction h with
  | nil => exact .cons he .nil
  | cons h t ih => exact .cons h ih
theorem EntR.put {K : PySem.W.Frag} {B : Hp} {l : List Nen} {hs : List (NestedKey × PyData)} (h : EntR K B l hs) {k : NestedKey} {b : Addr} {v : V} {x : PyData} (hx : dat K x B v) : EntR K B (putN l k b v) (putH hs k x) := by
  unfold putN putH
  rw [atN_isSome, h.keys]
  by_cases m : k ∈ hs.map (·.1)
  · rw [if_pos (decide_eq_true m), if_pos m]
    clear m
    unfold EntR at *
    induction h with
    | nil => exact .nil
    | @cons p q ps qs h t ih =>
      rw [List.map_cons, List.map_cons]
      refine .cons ?_ ih
      by_cases g : q.1 = k
      · have g' : p.1 = k := h.1.trans g
        rw [if_pos g, if_pos g']
        exact ⟨h.1, hx⟩
      · have g' : ¬ p.1 = k := fun z => g (h.1.symm.trans z)
        rw [if_neg g, if_neg g']
        exact h
  · rw [if_neg (by simpa using m), if_neg m]
    exact h.snoc ⟨rfl, hx⟩
theorem EntR.none_ {K : PySem.W.Frag} {B : Hp} {l : List Nen} {hs : List (NestedKey × PyData)} (h : EntR K B l hs) {k : NestedKey} (m : k ∉ hs.map (·.1)) : atN l k = none := by
  have := atN_isSome k l
  rw [h.keys, decide_eq_false m] at this
  cases q : atN l k with
  | none => rfl
  | some x => rw [q] at this; cases this
/-- the sums by keys -/
def sdict (ps : List KF) : List (NestedKey × PyData) := (firsts (ps.map (·.1))).map fun k => (k, frD (sumG ps k))
theorem sdict_keys (ps : List KF) : (sdict ps).map (·.1) = firsts (ps.map (·.1)) := by
  unfold sdict
  rw [List.map_map]
  exact List.map_id _
theorem firsts_snoc' {α : Type} [DecidableEq α] (l : List α) (a : α) : firsts (l ++ [a]) = if a ∈ firsts l then firsts l else firsts l ++ [a] := by
  unfold firsts
  rw [List.foldl_append]
  rfl
theorem sumG_snoc (ps : List KF) (p : KF) (k : NestedKey) : sumG (ps ++ [p]) k = sumG ps k + if p.1 = k then p.2 else 0 := by
  rw [sumG_app, sumG_cons]
  show _ + (_ + 0) = _
  rw [Rat.add_zero]
theorem sdict_put (ps : List KF) (k : NestedKey) (q : Rat) : putH (sdict ps) k (frD (sumG ps k + q)) = sdict (ps ++ [(k, q)]) := by
  unfold putH
  rw [sdict_keys]
  unfold sdict
  rw [List.map_append, List.map_cons, List.map_nil, firsts_snoc']
  by_cases m : k ∈ firsts (ps.map (·.1))
  · rw [if_pos m, if_pos m, List.map_map]
    refine List.map_congr_left fun a _ => ?_
    show (if a = k then (a, frD (sumG ps k + q)) else (a, frD (sumG ps a))) = (a, frD (sumG (ps ++ [(k, q)]) a))
    rw [sumG_snoc]
    by_cases g : a = k
    · subst g
      rw [if_pos rfl, if_pos rfl]
    · rw [if_neg g, if_neg (fun z : k = a => g z.symm), Rat.add_zero]
  · rw [if_neg m, if_neg m, List.map_append]
    congr 1
    · refine List.map_congr_left fun a ha => ?_
      rw [sumG_snoc, if_neg (fun z : k = a => m (z ▸ ha)), Rat.add_zero]
    · rw [List.map_cons, List.map_nil, sumG_snoc, if_pos rfl]
theorem sdict_at {ps : List KF} {k : NestedKey} (h : k ∈ firsts (ps.map (·.1))) : atHs (sdict ps) k = some (frD (sumG ps k)) := by
  unfold sdict
  generalize firsts (ps.map (·.1)) = l at h
  induction l with
  | nil => exact absurd h List.not_mem_nil
  | cons a l ih =>
    unfold atHs at ih ⊢
    rw [List.map_cons, List.find?_cons]
    by_cases g : a = k
    · simp [g]
    · simp only [g, decide_false]
      exact ih ((List.mem_cons.mp h).resolve_left fun z => g z.symm)
theorem sdict_len (ps : List KF) : (sdict ps).length ≤ ps.length := by
  unfold sdict
  rw [List.length_map]
  have := firsts_len (ps.map (·.1))
  rw [List.length_map] at this
  exact this
theorem EntR.len {K : PySem.W.Frag} {B : Hp} {l : List Nen} {hs : List (NestedKey × PyData)} (h : EntR K B l hs) : l.length = hs.length := by
  have := congrArg List.length h.keys
  rwa [List.length_map, List.length_map] at this
/-- d[k] = plus(d.get(k, (0, 1)), q) -/
theorem s_nsum {K : PySem.W.Frag} {P : Program} {w : World} {σ : L2.St} {B H : Hp} {Dd b : Addr} {l : List Nen} {ps : List KF} {D : Ends} {k : NestedKey} {z : V} {q : Rat} {i j m : Nat} {E : XK} {pre : Rat × Rat → Prop}
    (s : Same B H) (md : Hid B H Dd (NdiO P w Dd l)) (hk : NksAt K B l) (en : EntR K B l (sdict ps)) (hi : σ[i]? = some (some (.ref Dd))) (hj : σ[j]? = some (some (.ref b))) (hb : NkAt K B k b) (hm : σ[m]? = some (some z)) (hz : dat K (frD q) B z) (few : l.length < sizeLine) (hp : pre (sumG ps k, q))
    (kn : ∀ l' B' H', Ext B H B' H' → Hid B' H' Dd (NdiO P w Dd l) → NksAt K B' l' → EntR K B' l' (sdict (ps ++ [(k, q)])) → D.nx σ (upd H' Dd (NdiO P w Dd l'))) :
    sNPut K P w (tVar i) (tVar j) (tCall (Pf (fun a : Rat × Rat => [dat K (frD a.1), dat K (frD a.2)]) pre (fun a => dat K (frD (a.1 + a.2)))) [] E (tCons (tNGet2 K P w (tVar i) (tVar j) (tTup (tCons (tC (.int 0)) (tCons (tC (.int 1)) tNil)))) (tCons (tVar m) tNil))) D σ H := by
  refine ⟨.ref Dd, hi, Dd, l, rfl, md.at_, .ref b, hj, ?_⟩
  refine De.tupI (K := K) (i := 0) (j := 1) (.cons .int (.cons .int .nil)) B H (Same.refl _) s _ fun z0 B1 H1 e1 hz0 => ?_
  have hz0 : dat K (frD 0) B1 z0 := hz0
  have g1 : NdAt K P w H1 Dd b l k := ⟨(md.ext e1).at_, fun p hp => ((hk p hp).same e1.bb).same e1.bh, (hb.same e1.bb).same e1.bh⟩
  refine ⟨b, l, k, rfl, g1, z, hm, ?_⟩
  have en1 := en.mono e1.bb
  have hget : dat K (frD (sumG ps k)) B1 ((atN l k).getD z0) := by
    by_cases mk : k ∈ firsts (ps.map (·.1))
    · obtain ⟨x, hx, hd⟩ := en1.at_ (sdict_at mk)
      rw [hx]
      exact hd
    · rw [en1.none_ (by rw [sdict_keys]; exact mk)]
      have : sumG ps k = 0 := sumG_out fun h => mk ((firsts_mem _ _).mpr h)
      rw [this]
      exact hz0
  show Pf (fun a : Rat × Rat => [dat K (frD a.1), dat K (frD a.2)]) pre (fun a => dat K (frD (a.1 + a.2))) ([(atN l k).getD z0, z] ++ []) H1 _ E
  refine ⟨B1, (sumG ps k, q), e1.bh, ⟨_, _, rfl, hget, _, _, rfl, Mo.mo e1.bb hz, rfl⟩, hp, fun v B2 H2 e2 hv => ?_⟩
  have e12 := e1.trans e2
  have hv : dat K (frD (sumG ps k + q)) B2 v := hv
  refine ⟨.ref Dd, hi, .ref b, hj, Dd, b, l, k, rfl, rfl, ⟨(md.ext e12).at_, fun p hp => ((hk p hp).same e12.bb).same e12.bh, (hb.same e12.bb).same e12.bh⟩, few, ?_⟩
  have hk2 : NksAt K B2 l := fun p hp => (hk p hp).same e12.bb
  refine kn _ B2 H2 e12 (md.ext e12) (Wv.NksAt.put hk2 (hb.same e12.bb)) ?_
  rw [← sdict_put]
  exact (en.mono e12.bb).put hv
end Wv

set_option Elab.async false
set_option linter.all false
set_option maxRecDepth 100000
set_option maxHeartbeats 4000000
/-! We7: < and <= of data that are alike. -/
namespace Wv
open PySem PySem.Spec PyProof.Rows L2 Wb
def rLtA (K : PySem.W.Frag) : R2 := fun x y H Q => ∃ d e, Dp K H x d ∧ Dp K H y e ∧ PySem.W.alike d e = true ∧ d ≠ .none ∧ d.depth ≤ 60 ∧ Q (.bl (PySem.W.dataLt d e)) H
def rLeA (K : PySem.W.Frag) : R2 := fun x y H Q => ∃ d e, Dp K H x d ∧ Dp K H y e ∧ PySem.W.alike d e = true ∧ d ≠ .none ∧ d.depth ≤ 60 ∧ Q (.bl (!PySem.W.dataLt e d)) H
section
variable {X : Cx}
theorem op_ltA (hu : X.A.units + 64 < cLine) : OpR X (compareOp .Lt) (rLtA X.K) := by
  intro pins s σ H x y v u Q I rx ry h
  obtain ⟨d, e, hx, hy, al, nn, dep, q⟩ := h
  obtain ⟨as, ra⟩ := Dp.reads I d x v hx rx
  obtain ⟨bs, rb⟩ := Dp.reads I e y u hy ry
  exact PySem.W.lt_data ra rb al nn (by have := Nat.min_le_left d.depth e.depth; omega) ⟨.bl _, H, I, rfl, q⟩
theorem op_leA (hu : X.A.units + 64 < cLine) : OpR X (compareOp .LtE) (rLeA X.K) := by
  intro pins s σ H x y v u Q I rx ry h
  obtain ⟨d, e, hx, hy, al, nn, dep, q⟩ := h
  obtain ⟨as, ra⟩ := Dp.reads I d x v hx rx
  obtain ⟨bs, rb⟩ := Dp.reads I e y u hy ry
  exact PySem.W.le_data ra rb al nn (by have := Nat.min_le_left d.depth e.depth; omega) ⟨.bl _, H, I, rfl, q⟩
end
section
variable {K : PySem.W.Frag} {B : Hp} {d e : PyData}
theorem Rv.ltA (al : PySem.W.alike d e = true) (nn : d ≠ .none) (dep : d.depth ≤ 60) : Rv (rLtA K) B (dat K d) (dat K e) (dat K (.bool (PySem.W.dataLt d e))) := fun x y B1 H _ s2 hx hy Q q =>
  ⟨d, e, dpMono s2 _ _ hx, dpMono s2 _ _ hy, al, nn, dep, q _ B1 H (.refl s2) (Dp.bl _)⟩
theorem Rv.leA (al : PySem.W.alike d e = true) (nn : d ≠ .none) (dep : d.depth ≤ 60) : Rv (rLeA K) B (dat K d) (dat K e) (dat K (.bool (!PySem.W.dataLt e d))) := fun x y B1 H _ s2 hx hy Q q =>
  ⟨d, e, dpMono s2 _ _ hx, dpMono s2 _ _ hy, al, nn, dep, q _ B1 H (.refl s2) (Dp.bl _)⟩
end
end Wv

set_option Elab.async false
set_option linter.all false
set_option maxRecDepth 100000
set_option maxHeartbeats 1000000
/-! Fs1: fractions added up by keys, out of a list or a tuple. -/
namespace Fq
open PySem PySem.Spec PyProof.Rows L2 Wb Wv Fm Wf
def seqD : Bool → List PyData → PyData
  | true, ds => .tuple ds
  | false, ds => .list ds
theorem Di.seqM {α : Type} {K : PySem.W.Frag} {σ : L2.St} {B : Hp} {tl : TE} {way : Bool} {as : List α} {f : α → PyData} (h : De tl σ B (dat K (seqD way (as.map f)))) : Di (iSeq K tl) σ B (as.map fun a => dat K (f a)) := by
  cases way with
  | true =>
    have := Di.seqT (K := K) (σ := σ) (tl := tl) (show De tl σ B (dat K (.tuple (as.map f))) from h)
    rw [List.map_map] at this
    exact this
  | false =>
    have := Di.seqL (K := K) (σ := σ) (tl := tl) (show De tl σ B (dat K (.list (as.map f))) from h)
    rw [List.map_map] at this
    exact this
abbrev spAddedQ (K : PySem.W.Frag) : Sp := Pf (α := List KF × Bool) (fun a => [dat K (seqD a.2 (a.1.map kfD))]) (fun a => KFok a.1) (fun a => dat K (.tuple ((sumsOf a.1).map kfD)))
section
variable {α : Type} [DecidableEq α]
theorem De.addedQ {K : PySem.W.Frag} {σ : L2.St} {B : Hp} {te : TE} {E : XK} {κ : α → NestedKey} {ps : List (α × Rat)} (way : Bool) (inj : ∀ a b, κ a = κ b → a = b) (ok : KFok (ps.map fun p => (κ p.1, p.2))) (h : De te σ B (dat K (seqD way (ps.map fun p => .tuple [(κ p.1).data, frD p.2])))) :
    De (tCall (spAddedQ K) [] E (tCons te tNil)) σ B (dat K (.tuple ((sumsG (fun a => (κ a).data) ps).map fun p => .tuple [(κ p.1).data, frD p.2]))) := by
  have := De.call (E := E) (pre := fun a : List KF × Bool => KFok a.1) (args := fun a : List KF × Bool => [dat K (seqD a.2 (a.1.map kfD))]) (res := fun a => dat K (.tuple ((sumsOf a.1).map kfD))) ((ps.map fun p => (κ p.1, p.2)), way) (.one (De.eq h (by rw [List.map_map]; rfl))) ok
  refine De.eq this ?_
  show PyData.tuple ((sumsOf (ps.map fun p => (κ p.1, p.2))).map kfD) = _
  rw [sumsOf_G inj, List.map_map]
  rfl
end
end Fq

set_option Elab.async false
set_option linter.all false
set_option maxRecDepth 100000
set_option maxHeartbeats 4000000
/-! We2: str of what is no list; written lists of drawn things, raw; hidden lists looked at while a deal is drawn from. -/
namespace Wv
open PySem PySem.Spec PyProof.Rows L2 Wb
section
variable {X : Cx}
abbrev rStrA : List V → Hp → VK → Prop := fun xs H Q => (∃ a, xs = [.str a] ∧ Q (.str a) H) ∨ (∃ i, xs = [.int i] ∧ i.natAbs.log2 < 1920 ∧ Q (.str (toString i)) H) ∨ (∃ b : Bool, xs = [.bl b] ∧ Q (.str (if b then "True" else "False")) H) ∨ (xs = [.non] ∧ Q (.str "None") H)
theorem call_strA : CallR X (.type "str") rStrA := by
  intro pins s σ H xs us Q I r h
  rcases h with ⟨a, rfl, q⟩ | ⟨i, rfl, hz, q⟩ | ⟨b, rfl, q⟩ | ⟨rfl, q⟩
  · obtain ⟨u, rfl, t, rfl⟩ := vals1 r
    exact PySem.P.str_of_str ⟨.str a, H, I, ⟨t, rfl⟩, q⟩
  · exact call_str_int pins s σ H _ us Q I r ⟨i, rfl, hz, q⟩
  · obtain ⟨u, rfl, r1⟩ := vals1 r
    cases r1
    exact PySem.P.str_of_bool ⟨.str _, H, I.tok _, ⟨_, rfl⟩, q⟩
  · obtain ⟨u, rfl, r1⟩ := vals1 r
    cases r1
    exact PySem.P.str_of_none ⟨.str _, H, I.tok _, ⟨_, rfl⟩, q⟩
end
section
variable {K : PySem.W.Frag} {σ : L2.St} {d c M : Addr} {B H : Hp} {te tr : TE} {ta : TA} {S : Rel} {E : XK} {i j n : Nat} {Q : VK} {P : PyData → Prop} {xs : List V}
theorem all_ds : ∀ {xs : List V}, (∀ v ∈ xs, datP K P B v) → ∃ ds : List PyData, AllR (ds.map (dat K)) B xs ∧ ds.length = xs.length ∧ ∀ x ∈ ds, P x
  | [], _ => ⟨[], rfl, rfl, fun x h => nomatch h⟩
  | x :: xs, h => by
    obtain ⟨d, hp, hd⟩ := h x List.mem_cons_self
    obtain ⟨ds, h1, h2, h3⟩ := all_ds fun v hv => h v (List.mem_cons_of_mem _ hv)
    refine ⟨d :: ds, ⟨x, xs, rfl, hd, h1⟩, by simp [h2], fun y hy => ?_⟩
    rcases List.mem_cons.mp hy with rfl | hy
    · exact hp
    · exact h3 y hy
theorem ds_all : ∀ {ds : List PyData} {xs : List V}, AllR (ds.map (dat K)) B xs → (∀ x ∈ ds, P x) → ∀ v ∈ xs, datP K P B v
  | [], _, h, _, v, hv => by
    have h : _ = [] := h
    subst h
    cases hv
  | d :: ds, _, ⟨x, r, e, h1, h2⟩, hp, v, hv => by
    subst e
    rcases List.mem_cons.mp hv with rfl | hv
    · exact ⟨d, hp d List.mem_cons_self, h1⟩
    · exact ds_all h2 (fun x hx => hp x (List.mem_cons_of_mem _ hx)) v hv
/-- some of a written list, whose items were evaluated one by one -/
theorem fin_pick {vs : List V} {B1 H1 : Hp} (L : Dl B1 H1 d c) (l0 : 0 < vs.length) (l1 : vs.length ≤ 1000) (hs : ∀ v ∈ vs, S B1 v) (k : ∀ v B' H', ExtD d c B1 H1 B' H' → S B1 v → Q v H') :
    vs.length ≤ sizeLine ∧ ∀ p, H1 p = none → spOf K ([.ref d, .ref p] ++ []) (upd H1 p (.lst vs)) Q E := by
  refine ⟨by rw [sizeLine_eq]; omega, fun p hp => ?_⟩
  have e : ExtD d c B1 H1 (upd B1 p (.lst vs)) (upd H1 p (.lst vs)) := .of L (Ext.new L.bh hp)
  refine ⟨d, c, .ref p, rfl, e.deal, .inl ⟨p, vs, rfl, e.sub.seq (SqL.of upd_same), fun z => by rw [z] at l0; simp at l0, l1, fun v H3 hv D3 S3 => ?_⟩⟩
  exact k v _ H3 (.trans L e (.draw e.dl D3 S3)) (hs v hv)
theorem ixNn {n r : Nat} (h : r < n) : ixN n (r : Int) = some r := by
  unfold ixN
  rw [if_pos (by omega), if_pos (by omega)]
  simp
theorem atIn {xs : List V} {r : Nat} {v : V} (h : xs[r]? = some v) : atI xs (r : Int) = some v := by
  unfold atI
  rw [ixNn (List.getElem?_eq_some_iff.mp h).1]
  exact h
/-- a def of the deal and of an item of a hidden list -/
theorem c_defAt {α : Type} {args : α → List Rel} {pre : α → Prop} {res : α → Rel} {r : Nat} {v : V} (a : α) (L : Dl B H d c) (hd : σ[i]? = some (some (.ref d))) (hm : σ[j]? = some (some (.ref M))) (hn : σ[n]? = some (some (.int (r : Int)))) (m : Ml d c B H M xs) (hx : xs[r]? = some v)
    (ha : AllR (args a) B [v]) (hp : pre a) (k : ∀ u B' H', ExtD d c B H B' H' → res a B' u → Q u H') : tCall (DPf args pre res) [] E (tCons (tVar i) (tCons (tOp (rIxL K) (tVar j) (tVar n)) tNil)) σ H Q :=
  ⟨.ref d, hd, .ref M, hm, .int r, hn, M, xs, r, v, rfl, rfl, SqL.of m.at_, atIn hx, d, c, B, a, [v], rfl, L, ha, hp, k⟩
/-- .. an item of it drawn -/
theorem c_ixAny {xs : List V} (L : Dl B H d c) (hd : σ[i]? = some (some (.ref d))) (hm : σ[j]? = some (some (.ref M))) (m : Ml d c B H M xs) (pos : 0 < xs.length) (few : xs.length ≤ 1000) (k : ∀ (r : Nat) (v : V) H', xs[r]? = some v → ExtD d c B H B H' → Q v H') :
    tOp (rIxL K) (tVar j) (tCall spAny [] E (tCons (tVar i) (tCons (tCB (rLen K) (tCons (tVar j) tNil)) tNil))) σ H Q :=
  ⟨.ref M, hm, c_anyLen (K := K) L hd hm m pos few fun r H' hr e => by
    have m' := m.ext e
    have hx : xs[r]? = some xs[r] := List.getElem?_eq_getElem hr
    exact ⟨M, xs, r, xs[r], rfl, rfl, SqL.of m'.at_, atIn hx, k r _ H' hx e⟩⟩
theorem c_lcL {g : TG} {tt : TT} {vs : List Nat} (h : te σ H fun x H1 => ∃ a, x = .ref a ∧ (∃ xs, SqL K H1 a xs) ∧ tLc (fun _ H R => R (Itl K a) H) g tt tr vs σ H1 Q) : tLc (iList K te) g tt tr vs σ H Q := h
theorem s_ifB {tt : TT} {t rest : TS} {D : Ends} {b : Bool} (Post : L2.St → Hp → Prop) (h : Dt tt σ B b) (hB : Same B H) (k1 : b = true → ∀ B' H', Ext B H B' H' → ∀ Z : L2.St → Hp → Prop, (∀ σ2 H2, Post σ2 H2 → Z σ2 H2) → t { D with nx := Z } σ H')
    (k2 : b = false → ∀ B' H', Ext B H B' H' → Post σ H') (k : ∀ σ2 H2, Post σ2 H2 → rest D σ2 H2) : tSeq (tIfS tt t tNext) rest D σ H := s_ifS h hB (fun t B' H' e => k1 t B' H' e (rest D) k) fun f B' H' e => k _ _ (k2 f B' H' e)
theorem De.strI {m : Int} (h : De te σ B (dat K (.int m))) (b : m.natAbs.log2 < 1920) : De (tCB (fun xs H Q => ∃ i, xs = [.int i] ∧ i.natAbs.log2 < 1920 ∧ Q (.str (toString i)) H) (tCons te tNil)) σ B (dat K (.str (Str.ofString (toString m)))) := fun B1 H s1 s2 Q q => h B1 H s1 s2 _ fun v B2 H2 e hv => by
  have hv := dat_int hv
  subst hv
  exact ⟨m, rfl, b, q _ B2 H2 e (Dp.str _)⟩
theorem Dl.look (L : Dl B H d c) (m : Ml d c B H M xs) : Dl (upd B M (.lst xs)) H d c := ⟨L.deal, fun b o h => by
  by_cases n : b = M
  · subst n
    rw [upd_same] at h
    rw [off_at m.nd m.nc, m.at_]
    exact h
  · rw [upd_ne n] at h
    exact L.sub _ _ h⟩
theorem Ml.lookedD {B2 H2 : Hp} (L : Dl B H d c) (e : ExtD d c (upd B M (.lst xs)) H B2 H2) : ExtD d c B H B H2 := ⟨e.deal, e.oo, Same.refl _, L.sub.trans e.oo, fun _ _ h => h⟩
def leafD (d : PyData) : Bool := match d with
  | .none => true
  | .bool _ => true
  | .int _ => true
  | .str _ => true
  | _ => false
theorem dat_leaf {d : PyData} {B B' : Hp} {v : V} (h : leafD d = true) (hv : dat K d B v) : dat K d B' v := by
  cases hv with
  | non => exact Dp.non
  | bl b => exact Dp.bl b
  | int i => exact Dp.int i
  | str z => exact Dp.str z
  | lst _ _ => cases h
  | tup _ _ => cases h
theorem s_forR {g : TG} {ts rest : TS} {D : Ends} (h : te σ H fun v H1 => ∃ k : Int, [v] = [.int k] ∧ -(2 ^ 62) ≤ k ∧ k < 2 ^ 62 ∧ tSeq (tFor (fun _ H R => R (Itr 0 k.toNat) H) g ts) rest D σ H1) : tSeq (tFor (iRng1 (tCons te tNil)) g ts) rest D σ H := h
theorem c_insW {P : V → Hp → Prop} (L : Dl B H d c) (hd : σ[i]? = some (some (.ref d))) (hm : σ[j]? = some (some (.ref M))) (m : Ml d c B H M xs) (few : xs.length ≤ 1000)
    (h : ∀ (r : Int) H1, 0 ≤ r → r < 1002 → ExtD d c B H B H1 → Ml d c B H1 M xs → te σ H1 fun v H2 => rIns (.ref M) [.int r, v] H2 Q) :
    tBM K "list" rIns (tVar j) (tCons (tCall spAny [] E (tCons (tVar i) (tCons (tOp (rI0 fun i j => V.int (i + j)) (tCB (rLen K) (tCons (tVar j) tNil)) (tC (.int 1))) tNil))) (tCons te tNil)) σ H Q :=
  ⟨.ref M, hm, .inl ⟨rfl, xs, SqL.of m.at_⟩, .ref d, hd, .ref M, hm, .ref M, xs.length, rfl, .inl ⟨xs, SqL.of m.at_, rfl⟩, _, _, rfl, rfl, d, c, (xs.length : Int) + 1, rfl, L.deal, by omega, by omega, fun r H2 r0 r1 D2 S2 => by
    have e : ExtD d c B H B H2 := .draw L D2 S2
    exact h r H2 r0 (by omega) e (m.ext e)⟩
theorem s_un2 {rest : TS} {D : Ends} {R S : Rel} (h : De te σ B (tupR K [R, S])) (hB : Same B H) (k : ∀ x y B' H', Ext B H B' H' → R B' x → S B' y → rest D ((σ.set i (some x)).set j (some y)) H') : tSeq (tAsg te (gTup K 2 (gCons (gName i) (gCons (gName j) gNil)))) rest D σ H :=
  h B H (Same.refl _) hB _ fun v B' H' e hv => by
    obtain ⟨x, y, hx, hy, go⟩ := gTup2 (σ1 := σ) (i := i) (j := j) e.bh hv
    exact go _ (k x y B' H' e hx hy)
theorem s_un2E {D : Ends} {R S : Rel} (h : De te σ B (tupR K [R, S])) (hB : Same B H) (k : ∀ x y B' H', Ext B H B' H' → R B' x → S B' y → D.nx ((σ.set i (some x)).set j (some y)) H') : tAsg te (gTup K 2 (gCons (gName i) (gCons (gName j) gNil))) D σ H :=
  h B H (Same.refl _) hB _ fun v B' H' e hv => by
    obtain ⟨x, y, hx, hy, go⟩ := gTup2 (σ1 := σ) (i := i) (j := j) e.bh hv
    exact go _ (k x y B' H' e hx hy)
theorem s_ifW0 {tt : TT} {t rest : TS} {D : Ends} (Post : L2.St → Hp → Prop) (L : Dl B H d c) (h : Dtw tt σ d c B) (k1 : ∀ B' H', ExtD d c B H B' H' → ∀ Z : L2.St → Hp → Prop, (∀ σ2 H2, Post σ2 H2 → Z σ2 H2) → t { D with nx := Z } σ H')
    (k2 : ∀ B' H', ExtD d c B H B' H' → Post σ H') (k : ∀ σ2 H2, Post σ2 H2 → rest D σ2 H2) : tSeq (tIfS tt t tNext) rest D σ H := s_ifW L h (fun B' H' e => k1 B' H' e (rest D) k) fun B' H' e => k _ _ (k2 B' H' e)
end
end Wv

set_option Elab.async false
set_option linter.all false
set_option maxRecDepth 100000
set_option maxHeartbeats 1000000
/-! We3: < of tuples of ints. -/
namespace Wv
open PySem PySem.Spec PyProof.Rows L2 Wb
theorem lexLt_eq : ∀ a b : List Int, HT.lexLt a b = decide (a < b)
  | [], [] => by simp [HT.lexLt]
  | [], y :: b => by simp [HT.lexLt]
  | x :: a, [] => by simp [HT.lexLt]
  | x :: a, y :: b => by
    have ih := lexLt_eq a b
    simp only [HT.lexLt, ih]
    rw [Bool.eq_iff_iff, decide_eq_true_eq, List.cons_lt_cons_iff]
    by_cases h : x = y
    · subst h
      simp
    · simp [h]
section
variable {K : PySem.W.Frag} {B : Hp}
theorem Rv.ltT {a b : List Int} : Rv (rLtT K) B (dat K (.tuple (a.map .int))) (dat K (.tuple (b.map .int))) (dat K (.bool (decide (a < b)))) := fun x y B1 H _ s2 hx hy Q q => by
  cases hx with
  | tup hs hd =>
    cases hy with
    | tup hs2 hd2 =>
      refine ⟨_, _, a, b, rfl, rfl, ints_vals hd ▸ seqT s2 hs, ints_vals hd2 ▸ seqT s2 hs2, ?_⟩
      rw [lexLt_eq]
      exact q _ B1 H (.refl s2) (.bl _)
end
end Wv

set_option Elab.async false
set_option linter.all false
set_option maxRecDepth 100000
set_option maxHeartbeats 1000000
/-! We4: t[::-1] of a tuple. -/
namespace Wv
open PySem PySem.Spec PySem.Calls PyProof.Rows L2 Wb
open HT in
theorem adj_rev (n : Nat) : Builtin.Slice.sliceAdjust none none (-1) (n : Int) = ((n : Int) - 1, -1) := by
  unfold Builtin.Slice.sliceAdjust
  rfl
theorem plc_rev (n : Nat) : Builtin.Slice.slicePlaces ((n : Int) - 1) (-1) (-1) = n := by
  unfold Builtin.Slice.slicePlaces
  have h : ¬ ((-1 : Int) > 0) := by omega
  rw [if_neg h]
  by_cases z : (n : Int) - 1 > -1
  · rw [if_pos z, show (-(-1 : Int)) = 1 by decide, Int.ediv_one]
    omega
  · rw [if_neg z]
    omega
theorem fm_congr {α β : Type} {f g : α → Option β} : ∀ {l : List α}, (∀ x ∈ l, f x = g x) → l.filterMap f = l.filterMap g
  | [], _ => rfl
  | x :: l, h => by
    rw [List.filterMap_cons, List.filterMap_cons, h x List.mem_cons_self, fm_congr fun y hy => h y (List.mem_cons_of_mem _ hy)]
theorem pick_rev (xs : Array Value) : ((List.range xs.size).filterMap fun (m : Nat) => xs[(((xs.size : Int) - 1) + (m : Int) * (-1)).toNat]?).toArray = xs.toList.reverse.toArray := by
  congr 1
  have e : (List.range xs.size).filterMap (fun (m : Nat) => xs[(((xs.size : Int) - 1) + (m : Int) * (-1)).toNat]?) = (List.range xs.size).filterMap (fun m => xs.toList.reverse[m]?) := by
    refine fm_congr fun m hm => ?_
    have hm := List.mem_range.mp hm
    have i : (((xs.size : Int) - 1) + (m : Int) * (-1)).toNat = xs.size - 1 - m := by omega
    rw [i, List.getElem?_reverse (by rw [Array.length_toList]; exact hm), Array.length_toList, Array.getElem?_toList]
  rw [e]
  have l : xs.size = xs.toList.reverse.length := by rw [List.length_reverse, Array.length_toList]
  rw [l]
  generalize xs.toList.reverse = ys
  apply List.ext_getElem?
  intro i
  have : (List.range ys.length).filterMap (fun m => ys[m]?) = ys := by
    induction ys with
    | nil => rfl
    | cons y ys ih =>
      rw [List.length_cons, List.range_succ_eq_map, List.filterMap_cons]
      simp only [List.getElem?_cons_zero, List.filterMap_map]
      congr 1
  rw [this]
section
variable {prog : Program} {w : World} {A : Around} {E : Value → Shared → Prop} {s : Shared}
theorem app_rev {sl : Addr} {vl vu vs : Value} {n : Nat} {Q : Int × Int × Nat → Shared → Prop} (hs : s.heap.IsSliceOf sl vl vu vs) (pl : IsPart vl none) (pu : IsPart vu none) (ps : IsPart vs (some (-1))) (h : Q ((n : Int) - 1, -1, n) s) :
    wpAny (model prog w) A (Builtin.Slice.sliceApplied (.ref sl) (pure (n : Int))) Q E s := by
  obtain ⟨os, hos, _, hds⟩ := id hs
  unfold Builtin.Slice.sliceApplied
  unfold Builtin.Slice.sliceFields
  refine wpAny_bind (wpAny_bind (wpAny_field hos hds (x := vl) rfl ?_))
  refine wpAny_bind (wpAny_field hos hds (x := vu) rfl ?_)
  refine wpAny_bind (wpAny_field hos hds (x := vs) rfl ?_)
  refine wpAny_pure (wpAny_bind (HT.slicePart_ ps ?_))
  show wpAny _ _ (if ((-1 : Int) == 0) = true then _ else _) _ _ s
  rw [if_neg (by decide)]
  refine wpAny_bind (HT.slicePart_ pl ?_)
  refine wpAny_bind (HT.slicePart_ pu (wpAny_bind (wpAny_pure ?_)))
  show wpAny _ _ (match Builtin.Slice.sliceAdjust none none (-1) (n : Int) with | (lo, hi) => pure (lo, (-1 : Int), Builtin.Slice.slicePlaces lo hi (-1))) _ _ s
  rw [adj_rev n]
  show wpAny _ _ (pure ((n : Int) - 1, (-1 : Int), Builtin.Slice.slicePlaces ((n : Int) - 1) (-1) (-1))) _ _ s
  rw [plc_rev]
  exact wpAny_pure h
theorem item_rev {t sl : Addr} {items : Array Value} {vl vu vs : Value} {Q : Value → Shared → Prop} (ht : IsTup s.heap t items) (hs : s.heap.IsSliceOf sl vl vu vs) (pl : IsPart vl none) (pu : IsPart vu none) (ps : IsPart vs (some (-1)))
    (h : Q (.ref s.heap.objs.size) { s with heap := s.heap.push { cls := .type "tuple", data := .seq items.toList.reverse.toArray } }) (hsz : items.size ≤ sizeLine) : wpAny (model prog w) A (getItem (.ref t) (.ref sl)) Q E s := by
  have fit : sizeOk (.seq items.toList.reverse.toArray) := by
    show items.toList.reverse.toArray.size ≤ sizeLine
    rw [List.size_toArray, List.length_reverse, Array.length_toList]
    exact hsz
  obtain ⟨os, hos, hcs, _⟩ := id hs
  have hTs : s.TypeIs (.ref sl) "slice" := ⟨os, hos, hcs⟩
  unfold getItem
  (try with_reducible refine wpAny_holding ?_)
  (first | refine wpAny_bind (wpAny_pure ?_) | skip)
  refine (wpAny_bind (wpAny_sequenceKey ht.typeIs (by decide) ?_))
  refine wpAny_bind (wpAny_callSpecial?_slot (name := Str.ofString "__getitem__") ht.typeIs PyProof.Rows.slot_tuple_getitem (wpAny_call_entry PyProof.Rows.slot_tuple_getitem ht.typeIs entry_tuple_getitem ?_ (args_tuple_getitem _ _)))
  show wpAny _ _ (Builtin.Tuple.tupleItemsOf (Value.ref t) >>= _) _ _ _
  refine wpAny_bind (tupleItemsOf_ ht (wpAny_bind (wpAny_typeOf hTs ?_)))
  rw [if_pos (by decide)]
  refine wpAny_bind (app_rev hs pl pu ps ?_)
  have no : ¬ ((((items.size : Int) - 1) == 0 && (-1 : Int) == 1 && items.size == items.size) = true) := by simp
  show wpAny _ _ (if ((((items.size : Int) - 1) == 0 && (-1 : Int) == 1 && items.size == items.size) = true) then _ else _) _ _ s
  rw [if_neg no, pick_rev]
  first
    | exact (wpAny_bind (m := Builtin.Tuple.tupleExact _) (wpAny_newObj_type (wpAny_pure ⟨_, rfl, wpAny_pure h⟩) fit))
    | exact (wpAny_bind (m := Builtin.Tuple.tupleExact _) (wpAny_newObj_type (wpAny_bind (wpAny_pure (wpAny_pure ⟨_, rfl, wpAny_pure h⟩))) fit))
end
def tRevT (K : PySem.W.Frag) (te : TE) : TE := fun σ H Q => te σ H fun x H1 => ∃ a xs, x = .ref a ∧ SqT K H1 a xs ∧ ∀ p, H1 p = none → Q (.ref p) (upd H1 p (.tup xs.reverse))
section
variable {X : Cx}
theorem pe_revT {e : Expr} {te : TE} {k : Nat} {p1 p2 p3 pos : Pos} (he : PE X e te) : PE X (.Subscript e (.Slice none none (some (.UnaryOp .USub (.Constant (.int 1) k p1) p2)) p3) pos) (tRevT X.K te) := by
  refine ⟨fun pins s σ H Q I h => ?_⟩
  refine Subscript_ (thn (he.run pins s σ H _ I h) fun v s1 ⟨x, H1, I1, r1, a, xs, ex, hx, q⟩ => ?_)
  subst ex
  cases r1
  have st : PO X (some (.UnaryOp .USub (.Constant (.int 1) k p1) p2)) (tPart (tUn (rU fun i => .int (-i)) (tC (.int 1)))) := (po_some (pe_un un_neg pe_int))
  refine wpAny_Slice (thn (po_none.run pins s1 σ H1 (fun o H2 => o = none ∧ H2 = H1) I1 ⟨rfl, rfl⟩) fun vl s2 z2 => ?_)
  obtain ⟨l, H2, I2, pl, el, e2⟩ := z2
  subst el e2
  refine thn (po_none.run pins s2 σ H2 (fun o H3 => o = none ∧ H3 = H2) I2 ⟨rfl, rfl⟩) fun vu s3 z3 => ?_
  obtain ⟨u, H3, I3, pu, eu, e3⟩ := z3
  subst eu e3
  refine thn (st.run pins s3 σ H3 (fun o H4 => o = some (-1) ∧ H4 = H3) I3 ⟨1, rfl, -1, rfl, rfl, rfl⟩) fun vs s4 z4 => ?_
  obtain ⟨o, H4, I4, ps, eo, e4⟩ := z4
  subst eo e4
  have I5 : Inv X pins σ H4 { s4 with heap := s4.heap.push { cls := .type "slice", data := .fields #[vl, vu, vs] } } := (I4.kept (t' := s4.toks) fun b ob q => Heap.get?_push_of_some _ q)
  obtain ⟨its, r, ht, hz⟩ := I5.tuple hx
  have hl := r.length
  show (wpAny (model X.prog X.w) X.A (subscriptTail e (.Slice none none (some (.UnaryOp .USub (.Constant (.int 1) k p1) p2)) p3) (.ref a) (.ref s4.heap.objs.size)) (EP X pins σ Q) X.xe { s4 with heap := s4.heap.push { cls := .type "slice", data := .fields #[vl, vu, vs] } })
  refine tail_any (ops := [.ref a, .ref s4.heap.objs.size]) ht.typeIs (PyProof.Rows.slot_tuple_getitem.lookup) ?_ (by with_unfolding_all rfl)
  refine item_rev ht (Heap.IsSliceOf.new _ vl vu vs) pl pu ps ?_ (by rw [List.size_toArray]; omega)
  refine ⟨.ref _, _, I5.laid (t' := s4.toks) (o := .tup xs.reverse) (fun b ob q => Heap.get?_push_of_some _ q) (Nat.le_refl _) ?_, rfl, (q _ (I5.hok.fresh (Nat.le_refl _)))⟩
  exact ⟨by rw [List.length_reverse]; exact hz, _, r.reverse, IsTup.new _ _⟩
end
section
variable {K : PySem.W.Frag} {σ : L2.St} {B : Hp} {te : TE}
theorem De.revT {ds : List PyData} (h : De te σ B (dat K (.tuple ds))) : De (tRevT K te) σ B (dat K (.tuple ds.reverse)) := fun B1 H s1 s2 Q q => h B1 H s1 s2 _ fun v B2 H2 e hv => by
  have hv' := hv
  obtain ⟨a, xs, rfl, hs, hR⟩ := dat_tupR hv'
  refine ⟨a, xs, rfl, seqT e.bh hs, fun p hp => q _ (upd B2 p (.tup xs.reverse)) _ (e.trans (Ext.new e.bh hp)) ?_⟩
  have rv : ∀ {ds : List PyData} {xs : List V}, DpAll K B2 xs ds → DpAll K B2 xs.reverse ds.reverse := fun h => by
    induction h using DpAll.rec (motive_1 := fun _ _ _ => True) with
    | non => trivial
    | bl => trivial
    | int => trivial
    | str => trivial
    | lst => trivial
    | tup => trivial
    | nil => exact .nil
    | cons h t _ ih =>
      rw [List.reverse_cons, List.reverse_cons]
      exact dpAll_app ih (.cons h .nil)
  exact .tup (SqT.of upd_same) (dpMonoAll (new_same (e.bh.free hp)) _ _ (rv (allR_dp hR)))
end
end Wv

set_option Elab.async false
set_option linter.all false
set_option maxRecDepth 100000
set_option maxHeartbeats 4000000
/-! We1: an own == asked of what is no instance; instances made by keywords alone. -/
namespace Wv
open PySem PySem.Spec PyProof.Rows L2 Wb
section
variable {X : Cx} {n : Nat} {C : Addr} {S : Sp}
def rEqX (K : PySem.W.Frag) (C : Addr) (S : Sp) : R2 := fun x y H Q => ∃ a b dx fs tb, x = .ref a ∧ y = .ref b ∧ H a = some (.ins C dx fs) ∧ TyX K H y tb ∧ PySem.W.notFirst K C tb = true ∧ S [x, y] H (fun v H' => ∃ t, v = .bl t ∧ Q (.bl t) H') E0
theorem op_eqX (c : CalE X.prog X.w X.K X.mg X.base n C S) (hr : Room n X.A) : OpR X (compareOp .Eq) (rEqX X.K C S) := by
  intro pins s σ H x y v u Q I rx ry hq
  obtain ⟨a, b, dx, fs, tb, rfl, rfl, ha, hT, nf, hS⟩ := hq
  obtain ⟨f, fd, F, hs, hf, hb⟩ := c
  cases rx
  obtain ⟨Pq, Z, pq, _⟩ := kit_of I ry hT
  cases ry
  obtain ⟨mA, J, _⟩ := ins_get I.hok ha
  obtain ⟨od, J, _⟩ := J.look
  obtain ⟨m, hF⟩ := I.fr
  show wpAny (model X.prog X.w) X.A (richCompare .Eq (.ref a) (.ref b)) (EP X pins σ Q) X.xe s
  refine PySem.W.cmp_K (op := .Eq) (tb := tb) hr.units0 hF I.ok.mod.kin J (Z.ty _ _ I.kIn pq) nf hs hf ?_
  exact eq_runs F hb hr rfl I hS fun t H' s' g I' => ⟨.bl t, H', I', rfl, g⟩
end
theorem notFirst_tuple {K : PySem.W.Frag} {C : Addr} : PySem.W.notFirst K C (.type "tuple") = true := by
  unfold PySem.W.notFirst PySem.W.subIn
  rfl
section
variable {C : Addr} {B : Hp} {R : Rel} {α : Type} {args : α → List Rel} {pre : α → Prop} {res : α → Rel} {K : PySem.W.Frag} {ds : List PyData}
theorem Rv.eqTup [i : IsIns C R] {t : Bool} (a : α) (hp : pre a) (ha : ∀ B x y, R B x → dat K (.tuple ds) B y → AllR (args a) B [x, y]) (hr : res a = dat K (.bool t)) : Rv (rEqX K C (Pf args pre res)) B R (dat K (.tuple ds)) (dat K (.bool t)) := fun x y B1 H s1 s2 hx hy Q q => by
  obtain ⟨b, dx, fs, rfl, hb⟩ := i.ins hx
  have ty : TyX K H y (.type "tuple") := ty_dat (d := .tuple ds) (dpMono s2 _ _ hy)
  have hy' := hy
  obtain ⟨c, rfl⟩ : ∃ c, y = .ref c := by cases hy'; exact ⟨_, rfl⟩
  refine ⟨b, c, dx, fs, _, rfl, rfl, s2 _ _ hb, ty, notFirst_tuple, B1, a, s2, ha _ _ _ hx hy, hp, fun v B' H' e hv => ?_⟩
  rw [hr] at hv
  have : v = .bl t := dat_bl hv
  exact ⟨t, this, q _ B' H' e (this ▸ hv)⟩
end
section
variable (P : Program) (w : World) (K : PySem.W.Frag) (mg : Str → Option Value) (base : Heap)
/-- .. made by keywords alone, in their order -/
structure CalCK (x : Str) (C : Addr) (fs : List Str) : Prop where
  g : mg x = some (.ref C)
  ini : ∃ (f : Addr) (fd : FuncData), Mk K C f ∧ FnOk P w K mg base CX0 1 f fd ("self" :: fs) (spIns C fs) ∧ KBn K fd ("self" :: fs) 1 fs (fun us ws => us ++ ws) (fun vs zs => vs ++ zs)
end
theorem vals_app : ∀ {vs : List V} {us : List Value} {zs : List V} {ws : List Value}, Vals vs us → Vals zs ws → Vals (vs ++ zs) (us ++ ws)
  | _, _, _, _, .nil, h => h
  | _, _, _, _, .cons r t, h => .cons r (vals_app t h)
theorem kbn_of {K : PySem.W.Frag} {x qual : Str} {st : Stmt} {f : Addr} {fd : FuncData} {ps ks : List Str} (F : Fun K x qual st f fd)
    (h : ∀ (kV doc pm : Value) (an : Option Addr) (cdv ct : Value) (us ws : List Value), us.length = 1 → ws.length = ks.length → bindArgs (PySem.W.fnOf x qual (defArgs st) (defBody st) (defScope st) .none kV doc pm an cdv ct) ⟨us, ks.zip ws⟩ = pure (ps.zip (us ++ ws))) :
    KBn K fd ps 1 ks (fun us ws => us ++ ws) (fun vs zs => vs ++ zs) := by
  obtain ⟨oc, od, kV, doc, pm, an, cdv, ct, osl, rfl, lk, hcd⟩ := F.ex
  exact ⟨fun s us ws _ l1 l2 => .of_eq (h kV doc pm an cdv ct us ws l1 l2), fun r1 r2 => vals_app r1 r2⟩
section
variable {X : Cx} {x : Str} {C : Addr} {fs : List Str} {k : Nat} {p pos : Pos} {kws : List Keyword} {tk : TA}
theorem pe_calCK (c : CalCK X.prog X.w X.K X.mg X.base x C fs) (hr : Room k X.A) (hk : 2 ≤ k) (hg : Gl X x) (hkw : PK X kws tk)
    (hall : (backToKw pos (keywordEach kws X.env)).all (·.1.isSome) = true := by rfl) (hks : (backToKw pos (keywordEach kws X.env)).filterMap (·.1) = fs := by rfl) (hdb : (x == ("__debug__" : Str)) = false := by decide)
    (hpl : ((backTo pos (starEach [] X.env)).any (·.1) || (backToKw pos (keywordEach kws X.env)).any (·.1.isNone)) = false := by rfl) :
    PE X (.Call (.Name x p) [] kws pos) (tMakeK C 0 fs.length (spIns C fs) (fun vs zs => vs ++ zs) E0 tNil tk) := by
  obtain ⟨f, fd, M, F, b⟩ := c.ini
  exact pe_makeK0 M F (hr.mono hk) hg c.g b pass0 hkw hall hks hdb hpl
end
section
variable {σ : L2.St} {B : Hp} {Rs : List Rel}
theorem De.makeK {C : Addr} {fs : List Str} {n : Nat} {ta : TA} [m : MoA Rs] (ha : Da ta σ B Rs) (hl : fs.length = Rs.length) (hn : n = fs.length) : De (tMakeK C 0 n (spIns C fs) (fun vs zs => vs ++ zs) E0 tNil ta) σ B (insR C (fs.zip Rs)) := fun B1 H s1 s2 Q q =>
  ha B1 H s1 s2 _ fun vs B2 H2 e hv => by
    have len := allR_len hv
    refine ⟨rfl, by omega, fun x dx hx hd ne => ?_⟩
    refine ⟨x, dx, vs, rfl, by omega, upd_same, rfl, ?_⟩
    rw [upd_over]
    have e1 : Ext B2 H2 B2 (upd H2 dx (.own x)) := .own e.bh hd
    have hx1 : upd H2 dx (.own x) x = none := by
      rw [upd_ne ne.symm]
      exact hx
    have e2 := Ext.new (o := .ins C dx (fs.zip vs)) e1.bh hx1
    exact q _ _ _ ((e.trans e1).trans e2) ⟨x, dx, _, rfl, upd_same, allF_zip hl (m.mo (new_same (e.bh.free hx)) hv)⟩
end
end Wv

set_option Elab.async false
set_option linter.all false
set_option maxRecDepth 100000
set_option maxHeartbeats 1000000
/-! We5: an own == asked of any data; of an instance or of data; two fields by keywords, turned round. -/
namespace Wv
open PySem PySem.Spec PyProof.Rows L2 Wb
section
variable {X : Cx} {n : Nat} {C : Addr} {S : Sp}
theorem eq_runsY {A : Around} {pins : List (Addr × Obj)} {σ : L2.St} {H : Hp} {s : Shared} {a f : Addr} {y : V} {u : Value} {fd : FuncData} {G : Bool → Hp → Prop} {R : Value → Shared → Prop} (F : FnOk X.prog X.w X.K X.mg X.base CX0 n f fd ["self", "other"] S) (hb : Binds X.K fd ["self", "other"] []) (hr : Room n A) (hfr : A.frames = X.A.frames) (I : Inv X pins σ H s) (ry : RelV y u)
    (hs : S [.ref a, y] H (fun v H' => ∃ t, v = .bl t ∧ G t H') E0) (k : ∀ t H' s', G t H' → Inv X pins σ H' s' → R (.bool t) s') : wpAny (model X.prog X.w) A (call (.ref f) [.ref a, u]) R X.xe s := by
  have e0 : Env0 X.prog X.w X.K X.mg X.base A X.stack s H := by
    have e := I.env0
    exact ⟨by rw [hfr]; exact e.frames, e.mod, e.bs, e.bsz, e.funs, e.frf, e.hok, e.bare⟩
  have hl := F.len _ _ _ _ hs
  have r2 : Vals [V.ref a, y] [Value.ref a, u] := .cons rfl (.cons ry .nil)
  refine wpAny_call (codeAny_mono (F.run A X.stack s H ⟨[.ref a, u], []⟩ [.ref a, u] [.ref a, y] _ E0 hr e0 (by
    have := hb s [.ref a, u] I.kIn (by simpa using hl)
    simpa using this) r2 hs) fun r s' hq => ?_)
  cases r with
  | error e => exact pass0 (X := X) pins σ H s e s' I hq
  | ok fl =>
    cases fl with
    | ret w =>
      obtain ⟨z, H', I', rz, t, ez, g⟩ := I.after hq
      subst ez
      cases rz
      exact k t H' s' g I'
    | next => exact False.elim hq
    | brk => exact False.elim hq
    | cont => exact False.elim hq
def rEqY (K : PySem.W.Frag) (C : Addr) (S : Sp) : R2 := fun x y H Q => ∃ a dx fs tb, x = .ref a ∧ H a = some (.ins C dx fs) ∧ TyX K H y tb ∧ PySem.W.notFirst K C tb = true ∧ S [x, y] H (fun v H' => ∃ t, v = .bl t ∧ Q (.bl t) H') E0
theorem op_eqY (c : CalE X.prog X.w X.K X.mg X.base n C S) (hr : Room n X.A) : OpR X (compareOp .Eq) (rEqY X.K C S) := by
  intro pins s σ H x y v u Q I rx ry hq
  obtain ⟨a, dx, fs, tb, rfl, ha, hT, nf, hS⟩ := hq
  obtain ⟨f, fd, F, hs, hf, hb⟩ := c
  cases rx
  obtain ⟨Pq, Z, pq, _⟩ := kit_of I ry hT
  obtain ⟨mA, J, _⟩ := ins_get I.hok ha
  obtain ⟨od, J, _⟩ := J.look
  obtain ⟨m, hF⟩ := I.fr
  show wpAny (model X.prog X.w) X.A (richCompare .Eq (.ref a) u) (EP X pins σ Q) X.xe s
  refine PySem.W.cmp_K (op := .Eq) (tb := tb) hr.units0 hF I.ok.mod.kin J (Z.ty _ _ I.kIn pq) nf hs hf ?_
  exact eq_runsY F hb hr rfl I ry hS fun t H' s' g I' => ⟨.bl t, H', I', rfl, g⟩
/-- of an instance, or of data -/
def rEqM (K : PySem.W.Frag) (C : Addr) (S : Sp) : R2 := fun x y H Q => rEqI C S x y H Q ∨ rEqY K C S x y H Q ∨ rEqD K x y H Q
theorem op_eqM (c : CalE X.prog X.w X.K X.mg X.base n C S) (hr : Room n X.A) (hu : X.A.units + 64 < cLine) : OpR X (compareOp .Eq) (rEqM X.K C S) := by
  intro pins s σ H x y v u Q I rx ry hq
  rcases hq with h | h | h
  · exact op_eqC c hr pins s σ H x y v u Q I rx ry h
  · exact op_eqY c hr pins s σ H x y v u Q I rx ry h
  · exact op_eqD hu pins s σ H x y v u Q I rx ry h
end
theorem notFirst_data {K : PySem.W.Frag} {C : Addr} : ∀ t ∈ ["NoneType", "bool", "int", "str", "list", "tuple", "dict"], PySem.W.notFirst K C (.type t) = true := by
  intro t ht
  unfold PySem.W.notFirst PySem.W.subIn
  simp only [List.mem_cons, List.not_mem_nil, or_false] at ht
  rcases ht with rfl | rfl | rfl | rfl | rfl | rfl | rfl <;> rfl
section
variable {C : Addr} {B : Hp} {R R' : Rel} {α : Type} {args : α → List Rel} {pre : α → Prop} {res : α → Rel} {K : PySem.W.Frag} {d : PyData}
theorem Rv.eqDatY [i : IsIns C R] {t : Bool} (a : α) (hp : pre a) (ha : ∀ B x y, R B x → dat K d B y → AllR (args a) B [x, y]) (hr : res a = dat K (.bool t)) : Rv (rEqY K C (Pf args pre res)) B R (dat K d) (dat K (.bool t)) := fun x y B1 H s1 s2 hx hy Q q => by
  obtain ⟨b, dx, fs, rfl, hb⟩ := i.ins hx
  have ty : TyX K H y (.type (tyN d)) := ty_dat (dpMono s2 _ _ hy)
  refine ⟨b, dx, fs, _, rfl, s2 _ _ hb, ty, notFirst_data _ (tyN_mem d), B1, a, s2, ha _ _ _ hx hy, hp, fun v B' H' e hv => ?_⟩
  rw [hr] at hv
  have : v = .bl t := dat_bl hv
  exact ⟨t, this, q _ B' H' e (this ▸ hv)⟩
theorem Rv.orL {r1 r2 : R2} {T : Rel} (h : Rv r1 B R R' T) : Rv (fun x y H Q => r1 x y H Q ∨ r2 x y H Q) B R R' T := fun x y B1 H s1 s2 hx hy Q q => .inl (h x y B1 H s1 s2 hx hy Q q)
theorem Rv.orR {r1 r2 : R2} {T : Rel} (h : Rv r2 B R R' T) : Rv (fun x y H Q => r1 x y H Q ∨ r2 x y H Q) B R R' T := fun x y B1 H s1 s2 hx hy Q q => .inr (h x y B1 H s1 s2 hx hy Q q)
end
section
variable (P : Program) (w : World) (K : PySem.W.Frag) (mg : Str → Option Value) (base : Heap)
/-- .. made by keywords alone, turned round -/
structure CalCR (x : Str) (C : Addr) (f1 f2 : Str) : Prop where
  g : mg x = some (.ref C)
  ini : ∃ (f : Addr) (fd : FuncData), Mk K C f ∧ FnOk P w K mg base CX0 1 f fd ("self" :: [f1, f2]) (spIns C [f1, f2]) ∧ KBn K fd ("self" :: [f1, f2]) 1 [f2, f1] (fun us ws => us ++ ws.reverse) (fun vs zs => vs ++ zs.reverse)
end
theorem vals_rev : ∀ {vs : List V} {us : List Value}, Vals vs us → Vals vs.reverse us.reverse
  | _, _, .nil => .nil
  | _, _, .cons r t => by
    rw [List.reverse_cons, List.reverse_cons]
    exact vals_app (vals_rev t) (.cons r .nil)
theorem kbr_of {K : PySem.W.Frag} {x qual : Str} {st : Stmt} {f : Addr} {fd : FuncData} {ps ks : List Str} (F : Fun K x qual st f fd)
    (h : ∀ (kV doc pm : Value) (an : Option Addr) (cdv ct : Value) (us ws : List Value), us.length = 1 → ws.length = ks.length → bindArgs (PySem.W.fnOf x qual (defArgs st) (defBody st) (defScope st) .none kV doc pm an cdv ct) ⟨us, ks.zip ws⟩ = pure (ps.zip (us ++ ws.reverse))) :
    KBn K fd ps 1 ks (fun us ws => us ++ ws.reverse) (fun vs zs => vs ++ zs.reverse) := by
  obtain ⟨oc, od, kV, doc, pm, an, cdv, ct, osl, rfl, lk, hcd⟩ := F.ex
  exact ⟨fun s us ws _ l1 l2 => .of_eq (h kV doc pm an cdv ct us ws l1 l2), fun r1 r2 => vals_app r1 (vals_rev r2)⟩
section
variable {X : Cx} {x : Str} {C : Addr} {f1 f2 : Str} {k : Nat} {p pos : Pos} {kws : List Keyword} {tk : TA}
theorem pe_calCR (c : CalCR X.prog X.w X.K X.mg X.base x C f1 f2) (hr : Room k X.A) (hk : 2 ≤ k) (hg : Gl X x) (hkw : PK X kws tk)
    (hall : (backToKw pos (keywordEach kws X.env)).all (·.1.isSome) = true := by rfl) (hks : (backToKw pos (keywordEach kws X.env)).filterMap (·.1) = [f2, f1] := by rfl) (hdb : (x == ("__debug__" : Str)) = false := by decide)
    (hpl : ((backTo pos (starEach [] X.env)).any (·.1) || (backToKw pos (keywordEach kws X.env)).any (·.1.isNone)) = false := by rfl) :
    PE X (.Call (.Name x p) [] kws pos) (tMakeK C 0 [f2, f1].length (spIns C [f1, f2]) (fun vs zs => vs ++ zs.reverse) E0 tNil tk) := by
  obtain ⟨f, fd, M, F, b⟩ := c.ini
  exact pe_makeK0 M F (hr.mono hk) hg c.g b pass0 hkw hall hks hdb hpl
end
section
variable {σ : L2.St} {B : Hp} {R1 R2 : Rel}
theorem De.makeR {C : Addr} {f1 f2 : Str} {ta : TA} [m : MoA [R2, R1]] [m2 : MoA [R1, R2]] (ha : Da ta σ B [R2, R1]) : De (tMakeK C 0 2 (spIns C [f1, f2]) (fun vs zs => vs ++ zs.reverse) E0 tNil ta) σ B (insR C [(f1, R1), (f2, R2)]) := fun B1 H s1 s2 Q q =>
  ha B1 H s1 s2 _ fun vs B2 H2 e hv => by
    obtain ⟨u2, r, rfl, h2, u1, r', rfl, h1, hr⟩ := hv
    have hr : r' = [] := hr
    subst hr
    refine ⟨rfl, rfl, fun x dx hx hd ne => ?_⟩
    refine ⟨x, dx, [u1, u2], rfl, rfl, upd_same, rfl, ?_⟩
    rw [upd_over]
    have e1 : Ext B2 H2 B2 (upd H2 dx (.own x)) := .own e.bh hd
    have hx1 : upd H2 dx (.own x) x = none := by
      rw [upd_ne ne.symm]
      exact hx
    have e2 := Ext.new (o := .ins C dx ([f1, f2].zip [u1, u2])) e1.bh hx1
    exact q _ _ _ ((e.trans e1).trans e2) ⟨x, dx, _, rfl, upd_same, allF_zip (fs := [f1, f2]) (Rs := [R1, R2]) rfl (m2.mo (new_same (e.bh.free hx)) ⟨u1, [u2], rfl, h1, u2, [], rfl, h2, rfl⟩)⟩
end
end Wv

set_option Elab.async false
set_option linter.all false
set_option maxRecDepth 100000
set_option maxHeartbeats 1000000
/-! K33a: fractions; what is heaped up and added. -/
namespace K33
open PySem PySem.Spec PyProof.Rows L2 Wb Wv Fm Ta Wf Fq
def topS (i : Nat) : Stmt := PySem.Challenge.pw_whyblank_k33_whole_what_counts_and_what.main.body.getD i (.Pass ⟨0, 0, 0, 0⟩)
abbrev s_fraction : Stmt := topS 11
abbrev s_totalOf : Stmt := topS 12
abbrev s_addedUp : Stmt := topS 13
abbrev s_gatheredSheets : Stmt := topS 16
abbrev s_evenSheets : Stmt := topS 17
abbrev s_doubts : Stmt := topS 19
abbrev s_gone : Stmt := topS 20
abbrev s_counted : Stmt := topS 21
abbrev s_nextLetter : Stmt := topS 22
abbrev s_sheetsCounted : Stmt := topS 23
abbrev s_lettersOf : Stmt := topS 26
abbrev s_tallyOf : Stmt := topS 27
abbrev s_heard : Stmt := topS 28
abbrev s_merged : Stmt := topS 29
abbrev s_source : Stmt := topS 31
abbrev s_any : Stmt := topS 32
abbrev s_of : Stmt := topS 33
abbrev s_lname : Stmt := topS 34
abbrev s_lnames : Stmt := topS 35
abbrev s_lcommon : Stmt := topS 36
abbrev s_llow : Stmt := topS 37
abbrev s_lform : Stmt := topS 38
abbrev s_lrows : Stmt := topS 39
abbrev s_lletters : Stmt := topS 40
abbrev s_due : Stmt := topS 41
abbrev s_once : Stmt := topS 42
abbrev s_lkinds : Stmt := topS 43
abbrev s_ltable : Stmt := topS 44
abbrev s_told : Stmt := topS 45
abbrev s_ltallyRight : Stmt := topS 46
abbrev s_lnextRight : Stmt := topS 47
abbrev s_lapartRight : Stmt := topS 48
abbrev s_law : Stmt := topS 49
abbrev sp_addedUp := spAddedQ
abbrev sp_totalOf := spTotalD
section
variable {P : Program} {w : World} {K : PySem.W.Frag} {mg : Str → Option Value} {base : Heap} {C_Form C_Sheets C_Tally C_InvalidSize C_Refused C_BlankError C_InvalidSheets a_ZERO a_ONE : Addr}
theorem sc_fraction : FnScope ["top", "bottom", "common"] ["top", "bottom"] (defScope s_fraction) := ⟨rfl, rfl, rfl, by decide +kernel, rfl, by decide +kernel, by decide +kernel⟩
theorem ok_fraction (D : Def K mg "fraction" s_fraction ["top", "bottom"]) (Z_InvalidSize : Err P w K mg base "InvalidSize" "word" C_InvalidSize (topE C_BlankError)) (m_gcd : mg "gcd" = some (.builtin "math.gcd")) : Cal P w K mg base (L2.CX P w) 3 "fraction" s_fraction ["top", "bottom"] (spFracD K C_InvalidSize) := by
  refine D.okX sc_fraction (fun vs H Q E h => ?_) (fun cdv f A outer s H vs Q E hr h => ?_)
  · obtain ⟨B, t, b, rfl, _⟩ := h
    rfl
  obtain ⟨B, t, b, rfl, hB, lb, q1, q2⟩ := h
  refine ⟨_, (pss_cons (ps_if (pt_cmpR op_eq (pv 1) pe_int (nomark _)) (pss_one (ps_raise rfl (takes_of rfl rfl rfl rfl) (pmk_E Z_InvalidSize hr (by decide) rfl (pa_cons pe_str pa_nil)))) pss_nil)
    (pss_cons (ps_set (i := 2) sc_fraction.nd rfl (Or.inl rfl) (pe_callBfun cr_gcd rfl m_gcd (pa_cons (pv 0) (pa_cons (pv 1) pa_nil))))
    (pss_cons (ps_if (pt_cmpR op_lt (pv 1) pe_int (nomark _)) (pss_one (ps_set (i := 2) sc_fraction.nd rfl (Or.inl rfl) (pe_un un_neg (pv 2)))) pss_nil)
    (pss_one (ps_ret (pe_tup (pa_cons (pe_op op_fdivS (pv 0) (pv 2)) (pa_cons (pe_op op_fdivS (pv 1) (pv 2)) pa_nil)))))))), ?_⟩
  refine ⟨_, rfl, rfl, _, rfl, ?_⟩
  refine ite2 (fun h => ?_) (fun h => ?_)
  · have e : b = 0 := V.int.inj (of_decide_eq_true h)
    exact ⟨.str "bottom", rfl, q2 e⟩
  have nz : b ≠ 0 := fun e => h (decide_eq_true (by rw [e]))
  have k := q1 nz
  clear h q2 q1
  have gl : ((Nat.gcd t.natAbs b.natAbs : Nat) : Int).natAbs < 2 ^ 7000 := by
    rw [Int.natAbs_natCast]
    exact Nat.lt_of_le_of_lt (Nat.gcd_le_right _ (Int.natAbs_pos.mpr nz)) lb
  have fin : ∀ c : Int, c = (if b < 0 then -((Nat.gcd t.natAbs b.natAbs : Nat) : Int) else ((Nat.gcd t.natAbs b.natAbs : Nat) : Int)) → CDivS t c ∧ CDivS b c ∧ t.fdiv c = (Rat.divInt t b).num ∧ b.fdiv c = ((Rat.divInt t b).den : Int) := by
    intro c hc
    obtain ⟨c0, e1, e2⟩ := frac_val t b nz c hc
    have lg : c.natAbs.log2 < 9000 := by
      have : c.natAbs = ((Nat.gcd t.natAbs b.natAbs : Nat) : Int).natAbs := by
        rw [hc]
        split
        · rw [Int.natAbs_neg]
        · rfl
      rw [this]
      exact Nat.lt_trans (log_le gl (by decide)) (by decide)
    exact ⟨⟨c0, lg⟩, ⟨c0, lg⟩, e1, e2⟩
  refine s_set (De.gcd (K := K) (.cons (.var (Dp.int t) rfl) (.cons (.var (Dp.int b) rfl) .nil))) hB fun v B1 H1 e1 hv => ?_
  have hv := dat_int hv
  subst hv
  refine seqI (t1 := tIfS _ _ _) (fun σ' J => ∃ c : Int, σ' = [some (.int t), some (.int b), some (.int c)] ∧ J = H1 ∧ c = (if b < 0 then -((Nat.gcd t.natAbs b.natAbs : Nat) : Int) else ((Nat.gcd t.natAbs b.natAbs : Nat) : Int))) ?_ ?_
  · rintro σ' J ⟨c, rfl, rfl, hc⟩
    obtain ⟨d1, d2, f1, f2⟩ := fin c hc
    refine s_ret (De.eq (De.tupI (K := K) (.cons (.op (.var (Dp.int _) rfl) (.var (Dp.int _) rfl) (Rv.I d1)) (.cons (.op (.var (Dp.int _) rfl) (.var (Dp.int _) rfl) (Rv.I d2)) .nil))) (e := frD (Rat.divInt t b)) ?_) e1.bh fun v B2 H2 e2 hv => k v B2 H2 (e1.trans e2) hv
    show PyData.tuple [.int (t.fdiv c), .int (b.fdiv c)] = _
    rw [f1, f2]
    rfl
  · intro Z hZ
    refine ⟨_, rfl, _, _, rfl, rfl, _, rfl, ?_⟩
    refine ite2 (fun h => ?_) (fun h => ?_)
    · have e : b < 0 := of_decide_eq_true h
      refine ⟨_, rfl, _, rfl, ?_⟩
      exact hZ _ _ ⟨_, rfl, rfl, (if_pos e).symm⟩
    · have e : ¬ b < 0 := fun z => h (decide_eq_true z)
      exact hZ _ _ ⟨_, rfl, rfl, (if_neg e).symm⟩
theorem sc_totalOf : FnScope ["some", "bottom", "one"] ["some"] (defScope s_totalOf) := ⟨rfl, rfl, rfl, by decide +kernel, rfl, by decide +kernel, by decide +kernel⟩
theorem ok_totalOf (D : Def K mg "total_of" s_totalOf ["some"]) (m_lcm : mg "lcm" = some (.builtin "math.lcm")) (C_fraction : Cal P w K mg base (L2.CX P w) 3 "fraction" s_fraction ["top", "bottom"] (spFracD K C_InvalidSize)) (n_sum : mg "sum" = none) : Cal P w K mg base CX0 4 "total_of" s_totalOf ["some"] (spTotalD K) := by
  refine D.ok sc_totalOf (fun vs H Q E h => ?_) (fun cdv f A outer s H vs Q E hr h => ?_)
  · exact pf_len h fun _ => rfl
  replace h := pf1 h
  obtain ⟨v, B, qs, rfl, hB, hv, ⟨m, m1, m3, hm, sz⟩, k⟩ := h
  refine ⟨_, (pss_cons (ps_set (i := 1) sc_totalOf.nd rfl (Or.inr rfl) pe_int)
    (pss_cons (ps_for PassesOwn.never rfl (pi_list (pv 0)) (pg_name (i := 2) sc_totalOf.nd rfl (Or.inl rfl)) (pss_one (ps_set (i := 1) sc_totalOf.nd rfl (Or.inr rfl) (pe_callBfun cr_lcm rfl m_lcm (pa_cons (pv 1) (pa_cons (pe_ix ix_tup (pv 2) pe_int (fun _ _ => rfl)) pa_nil))))))
    (pss_one (ps_ret (pe_cal C_fraction.quiet (hr.mono (by decide)) (by rfl) pass0 (pa_cons (pe_callB (cr_sum rfl) (by rfl) n_sum (by decide +kernel) (pa_cons (pe_lc (own := [("one", 2)]) (g := gName 2) (tt := tYes) rfl sc_totalOf.nd (pi_list (pv 0)) (blkOk_by (own := [("one", 2)]) (N := ["some", "bottom", "one"]) (sc := defScope s_totalOf) (by decide +kernel)) (fun _ _ _ _ _ => (pg_name (i := 2) sc_totalOf.nd rfl (Or.inl rfl))) (fun _ _ _ _ _ => pts_nil) (fun _ _ _ _ _ => (pe_op op_mulW (pe_ix (r := rIxT K) ix_tup (pv 2) pe_int (fun _ _ => rfl)) (pe_op op_fdivW (pv 1) (pe_ix (r := rIxT K) ix_tup (pv 2) pe_int (fun _ _ => rfl)))))) pa_nil)) (pa_cons (pv 1) pa_nil))))))), ?_⟩
  have line := sizeLine_eq
  have hv : dat K (.list (qs.map frD)) B v := hv
  have sz : ∀ q ∈ qs, Sz m q := sz
  have hm : qs.length * m ≤ 6000 := hm
  have few : qs.length ≤ 6000 := by have : qs.length * 1 ≤ qs.length * m := Nat.mul_le_mul_left _ m1; omega
  have up : ∀ {n}, n ≤ 9000 → 2 ^ n ≤ 2 ^ 9000 := fun h => Nat.pow_le_pow_right (by decide) h
  refine s_set (De.int (K := K) (n := 1)) hB fun v1 B1 H1 e1 h1 => ?_
  have h1 := dat_int h1
  subst h1
  refine s_forS (Di.listM (K := K) (as := qs) (f := frD) (.var (Mo.mo e1.bb hv) rfl)) e1.bh (fun i σ B => ∃ (v2 : Option V) (L : Nat), σ = [some v, some (.int (L : Int)), v2] ∧ 0 < L ∧ L < 2 ^ (1 + i * m) ∧ ∀ q ∈ qs.take i, q.den ∣ L) (fun B' s => ⟨none, 1, rfl, by decide, by simp, fun q h => by simp at h⟩) ?_ ?_
  · rintro B2 H2 e2 i R x σ' Bc Bn Hn hR ⟨v2, L, rfl, l0, l1, dv⟩ s e hx
    rw [List.getElem?_map] at hR
    obtain ⟨q, hq, rfl⟩ := Option.map_eq_some_iff.mp hR
    have il : i < qs.length := (List.getElem?_eq_some_iff.mp hq).1
    have sq := sz q (List.mem_of_getElem? hq)
    obtain ⟨n0, n1, n2, n3⟩ := lcm_step l0 l1 sq.bot
    have ib : (i + 1) * m ≤ qs.length * m := Nat.mul_le_mul_right _ il
    rw [Nat.add_mul, Nat.one_mul] at ib
    have hx : dat K (frD q) Bn x := hx
    change tAsg _ _ _ [some v, some (.int (L : Int)), some x] Hn
    refine s_setE (De.lcm (K := K) (.cons (.var (Dp.int (L : Int)) rfl) (.cons (De.den (.var hx rfl)) .nil)) (Nat.lt_of_lt_of_le l1 (up (by omega))) (Nat.lt_of_lt_of_le sq.bot (up (by omega)))) e.bh fun u B3 H3 e3 h3 => ?_
    have h3 := dat_int h3
    subst h3
    refine ⟨B3, e.trans e3, _, Nat.lcm L q.den, rfl, n0, by rw [show 1 + (i + 1) * m = 1 + i * m + m by rw [Nat.add_mul]; omega]; exact n1, fun r hr => ?_⟩
    rw [take_snoc hq] at hr
    rcases List.mem_append.mp hr with h | h
    · exact Nat.dvd_trans (dv r h) n3
    · rw [List.mem_singleton.mp h]
      exact n2
  · rintro σ' B' H' e2 ⟨v2, L, rfl, l0, l1, dv⟩
    rw [List.length_map] at l1
    rw [List.length_map, List.take_length] at dv
    have lp : (0 : Int) < (L : Int) := by omega
    have ln : (L : Int) ≠ 0 := by omega
    have l9 : (L : Int).natAbs < 2 ^ 7000 := by
      rw [Int.natAbs_natCast]
      exact Nat.lt_of_lt_of_le l1 (Nat.pow_le_pow_right (by decide) (by omega))
    have hv := Mo.mo (e1.bb.trans e2.bb) hv
    refine s_ret (De.eq (De.frac (K := K) (t := (qs.map fun q => q.num * ((L : Int) / q.den)).sum) (b := (L : Int)) (.cons (.cb (.one (De.eq (De.lcA (K := K) (as := qs) (r := fun q => dat K (frD q)) (Di.listM (.var hv rfl)) (fun q => .int (q.num * ((L : Int) / q.den))) (by omega) fun q x Bn Hn hq sn sh hx => ⟨[some v, some (.int (L : Int)), some x], fun Q q => q, rfl, ?_⟩) (by rw [show (qs.map fun q => PyData.int (q.num * ((L : Int) / q.den))) = (qs.map fun q => q.num * ((L : Int) / q.den)).map .int by rw [List.map_map]; rfl]))) rc_sum) (.cons (.var (Dp.int (L : Int)) rfl) .nil)) ln l9) ?_) e2.bh fun v B H e h => k v B H ((e1.trans e2).trans e) h
    · have sq := sz q hq
      have q2 : (L : Int) / (q.den : Int) = ((L / q.den : Nat) : Int) := by rw [Int.natCast_ediv]
      have b1 : ((L : Int) / (q.den : Int)).natAbs < 2 ^ 7000 := by
        rw [q2, Int.natAbs_natCast]
        rw [Int.natAbs_natCast] at l9
        exact Nat.lt_of_le_of_lt (Nat.div_le_self _ _) l9
      refine De.op (De.num (.var hx rfl)) (De.op (.var (Dp.int (L : Int)) rfl) (De.den (.var hx rfl)) (Rv.I (wide_div (b := 3000) (den_pos q) (by rw [Int.natAbs_natCast]; exact Nat.lt_of_lt_of_le sq.bot (Nat.pow_le_pow_right (by decide) m3)) (by decide) (by decide)))) (Rv.I (wide_mul (a := 3000) (b := 7000) (Nat.lt_of_lt_of_le sq.top (Nat.pow_le_pow_right (by decide) m3)) b1 (by decide) (by decide) (by decide)))
    · rw [← sumTop_eq, sum_parts ln qs fun q hq => Int.natCast_dvd_natCast.mpr (dv q hq)]
theorem sc_addedUp : FnScope ["pairs", "heaps", "key", "one", "sums", "pair"] ["pairs"] (defScope s_addedUp) := ⟨rfl, rfl, rfl, by decide +kernel, rfl, by decide +kernel, by decide +kernel⟩
theorem ok_addedUp (D : Def K mg "added_up" s_addedUp ["pairs"]) (n_sorted : mg "sorted" = none) (C_totalOf : Cal P w K mg base CX0 4 "total_of" s_totalOf ["some"] (spTotalD K)) (m_ZERO : mg "ZERO" = some (.ref a_ZERO)) (n_tuple : mg "tuple" = none) (c_ZERO : ∀ H, SqT K H a_ZERO [.int 0, .int 1]) : Cal P w K mg base CX0 5 "added_up" s_addedUp ["pairs"] (spAddedQ K) := by
  refine D.ok sc_addedUp (fun vs H Q E h => ?_) (fun cdv f A outer s H vs Q E hr h => ?_)
  · exact pf_len h fun _ => rfl
  replace h := pf1 h
  obtain ⟨v, B, ⟨ps, way⟩, rfl, hB, hv, ok, k⟩ := h
  refine ⟨_, (pss_cons (ps_set (i := 1) sc_addedUp.nd rfl (Or.inr rfl) (show PE _ _ (tNNew P w) from pe_nnew))
    (pss_cons (ps_for PassesOwn.never rfl (pi_seq (pv 0)) (pg_tup rfl (pgs_cons (pg_name (i := 2) sc_addedUp.nd rfl (Or.inl rfl)) (pgs_cons (pg_name (i := 3) sc_addedUp.nd rfl (Or.inl rfl)) pgs_nil))) (pss_one (ps_expr (pe_bm PySem.F.plainAttrs_list PySem.F.slot_list_append PySem.F.type_list_append mt_append (show PE _ _ (tNSetd K P w _ _ _) from pe_nsetd (lt9 hr.units) (pv 1) (pv 2) (pe_lst pa_nil) ⟨rfl, rfl, rfl, rfl⟩) (pa_cons (pv 3) pa_nil)))))
    (pss_cons (ps_setLc (i := 4) (own := [("key", 2)]) (g := gName 2) (tt := tYes) rfl sc_addedUp.nd rfl rfl (sw_true rfl rfl rfl (by decide +kernel)) (pi_list (pe_callB (r := rSortedN K P w) (cr_sortedN rfl hr.units) (by rfl) n_sorted (by decide +kernel) (pa_cons (pv 1) pa_nil))) (blkOk_by (own := [("key", 2)]) (N := ["pairs", "heaps", "key", "one", "sums", "pair"]) (sc := defScope s_addedUp) (by decide +kernel)) (fun _ _ _ _ _ => (pg_name (i := 2) sc_addedUp.nd rfl (Or.inl rfl))) (fun _ _ _ _ _ => pts_nil) (fun _ _ _ _ _ => (pe_tup (pa_cons (pv 2) (pa_cons (pe_cal C_totalOf (hr.mono (by decide)) (by rfl) pass0 (pa_cons (show PE _ _ (tNGet K P w _ _) from pe_nget (lt9 hr.units) (pv 1) (pv 2) (fun _ _ => rfl)) pa_nil)) pa_nil)))))
    (pss_one (ps_ret (pe_callTy call_tuple_of (by rfl) n_tuple (by decide +kernel) (pa_cons (pe_lc (own := [("pair", 5)]) (g := gName 5) rfl sc_addedUp.nd (pi_list (pv 4)) (blkOk_by (own := [("pair", 5)]) (N := ["pairs", "heaps", "key", "one", "sums", "pair"]) (sc := defScope s_addedUp) (by decide +kernel)) (fun _ _ _ _ _ => (pg_name (i := 5) sc_addedUp.nd rfl (Or.inl rfl))) (fun _ _ _ _ _ => pts_one (pt_cmpR (r := rNeD K) (op_neD hr.units) (pe_ix (r := rIxT K) ix_tup (pv 5) pe_int (fun _ _ => rfl)) (pe_glob (by rfl) m_ZERO (show RelV (.ref a_ZERO) (.ref a_ZERO) from rfl)) (nomark _))) (fun _ _ _ _ _ => (pv 5))) pa_nil))))))), ?_⟩
  have line := sizeLine_eq
  have ok : KFok ps := ok
  have hv : dat K (seqD way (ps.map kfD)) B v := hv
  have k : ∀ (v : V) (B' H' : Hp), Ext B H B' H' → dat K (.tuple ((sumsOf ps).map kfD)) B' v → Q v H' := k
  obtain ⟨m, m1, m3, hm, sz⟩ := ok.sz
  have few : ps.length ≤ 6000 := by have : ps.length * 1 ≤ ps.length * m := Nat.mul_le_mul_left _ m1; omega
  intro D0 hD0
  change tSeq _ _ _ [some v, some (.ref D0), none, none, none, none] (upd H D0 (NdiO P w D0 []))
  refine s_forX (Ext.newH hB hD0) (Di.seqM (K := K) (as := ps) (f := kfD) (.var hv rfl)) (fun i σ B' H' => ∃ l Ms v2 v3, σ = [some v, some (.ref D0), v2, v3, none, none] ∧ Hps K P w H B' H' D0 l (heapsOf ((ps.take i).map fun p => (p.1, frD p.2))) Ms) (fun B1 H1 e => ⟨[], [], _, _, rfl, Hps.ext ⟨Hid.new hB hD0, hD0, fun p h => absurd h List.not_mem_nil, .nil, List.nodup_nil⟩ e⟩) ?_ ?_
  · rintro B1 i R x σ' Bc Hc Bn Hn s1 hR e1 sc ⟨l, Ms, v2, v3, rfl, hp⟩ e2 hx
    rw [List.getElem?_map] at hR
    obtain ⟨p, hi, rfl⟩ := Option.map_eq_some_iff.mp hR
    have hx : dat K (kfD p) Bn x := hx
    have mp := List.mem_of_getElem? hi
    have hp := hp.ext e2
    have eN := e1.trans e2
    obtain ⟨y, z, hy, hz, go⟩ := gTup2 e2.bh (dat_pair hx)
    refine go _ ?_
    obtain ⟨ks, ek⟩ := ok.tup p mp
    have dp := ok.dep p mp
    have hy : dat K p.1.data Bn y := hy
    obtain ⟨b, rfl, hb⟩ : nkR K p.1 Bn y := by
      rw [ek] at hy dp ⊢
      exact dat_nk hy dp
    have hok := heapsOf_ok ((ps.take i).map fun p => (p.1, frD p.2))
    have ht := heapsOf_len ((ps.take i).map fun p => (p.1, frD p.2))
    rw [List.length_map, List.length_take] at ht
    refine s_heap eN hp hok.nd (by omega) (fun q hq => ?_) (fun H Q q => ⟨_, rfl, q⟩) (fun H Q q => ⟨_, rfl, q⟩) (fun H Q q => ⟨_, rfl, q⟩) hb hz fun l' Ms' H' e' hp' => ?_
    · rw [hok.vs q hq]
      unfold valsAt
      rw [List.length_map]
      refine Nat.lt_of_le_of_lt (List.length_filter_le _ _) ?_
      rw [List.length_map, List.length_take]
      omega
    · refine ⟨Bn, e', sc.trans e2.bb, l', Ms', _, _, rfl, ?_⟩
      rw [take_snoc hi, List.map_append]
      show Hps K P w H Bn H' D0 l' (heapsOf (_ ++ [(p.1, frD p.2)])) Ms'
      rw [heapsOf_snoc]
      exact hp'
  · rintro σ' B' H' e1 sB ⟨l, Ms, v2, v3, rfl, hp⟩
    rw [List.length_map, List.take_length] at hp
    obtain ⟨hd, offs⟩ := hp.open
    have eO := e1.openAll offs
    have hok := heapsOf_ok (ps.map fun p => (p.1, frD p.2))
    generalize openH B' H' (D0 :: Ms) = BO at hd eO
    have ln := heapsOf_len (ps.map fun p => (p.1, frD p.2))
    rw [List.length_map] at ln
    have kin : ∀ k ∈ keysOf ps, ∃ p ∈ ps, p.1 = k := fun k hk => by
      obtain ⟨q, hq, e⟩ := List.mem_map.mp ((hok.ks k).mp hk)
      obtain ⟨p, hp, rfl⟩ := List.mem_map.mp hq
      exact ⟨p, hp, e⟩
    have kmap : ((heapsOf (ps.map fun p => (p.1, frD p.2))).map fun p => (p.1, PyData.list p.2)).map (fun p => p.1.data) = (keysOf ps).map NestedKey.data := by
      unfold keysOf
      rw [List.map_map, List.map_map]
      rfl
    have sK : sortD ((keysOf ps).map NestedKey.data) = (sortK (keysOf ps)).map NestedKey.data := by
      unfold sortD sortK
      exact (List.map_mergeSort (s := dle) (f := NestedKey.data) (r := fun a b => dle a.data b.data) (fun a _ b _ => rfl)).symm
    have perm : (sortK (keysOf ps)).Perm (keysOf ps) := List.mergeSort_perm _ _
    have kl : (sortK (keysOf ps)).length ≤ 6000 := by
      rw [perm.length_eq]
      unfold keysOf
      rw [List.length_map]
      omega
    have srt : De (tCB (rSortedN K P w) (tCons (tVar 1) tNil)) [some v, some (.ref D0), v2, v3, none, none] BO (dat K (.list ((sortK (keysOf ps)).map NestedKey.data))) := by
      rw [← sK, ← kmap]
      refine De.cb (.cons (.var hd rfl) .nil) (rc_sortedN (fun q hq => ?_) ?_)
      · obtain ⟨r, hr, rfl⟩ := List.mem_map.mp hq
        obtain ⟨p, hp, e⟩ := kin r.1 (List.mem_map.mpr ⟨r, hr, rfl⟩)
        obtain ⟨ks, ek⟩ := ok.tup p hp
        exact ⟨ks, by rw [← e]; exact ek⟩
      · rw [kmap]
        intro x hx y hy
        obtain ⟨a, ha, rfl⟩ := List.mem_map.mp hx
        obtain ⟨c, hc, rfl⟩ := List.mem_map.mp hy
        obtain ⟨p, hp, rfl⟩ := kin a ha
        obtain ⟨q, hq, rfl⟩ := kin c hc
        exact ok.al p hp q hq
    have vals : ∀ k ∈ keysOf ps, ∃ xs, (k, xs) ∈ heapsOf (ps.map fun p => (p.1, frD p.2)) ∧ xs = ((ps.filter fun q => decide (q.1 = k)).map (·.2)).map frD := fun k hk => by
      obtain ⟨q, hq, rfl⟩ := List.mem_map.mp hk
      refine ⟨q.2, hq, ?_⟩
      rw [hok.vs q hq]
      unfold valsAt
      rw [List.filter_map, List.map_map, List.map_map]
      rfl
    refine s_set (De.lcA (K := K) (as := sortK (keysOf ps)) (r := fun k => dat K k.data) (Di.listM (f := NestedKey.data) srt) (fun k => kfD (k, sumAt ps k)) (by omega) fun k x Bn Hn hk sn sh hx => ⟨[some v, some (.ref D0), some x, v3, none, none], fun Q q => q, rfl, ?_⟩) eO.bh fun v4 B4 H4 e4 h4 => ?_
    · have hk := perm.mem_iff.mp hk
      obtain ⟨xs, hxs, ex⟩ := vals k hk
      obtain ⟨p, hp, rfl⟩ := kin k hk
      obtain ⟨ks, ek⟩ := ok.tup p hp
      have dp := ok.dep p hp
      have hx : dat K p.1.data Bn x := hx
      have hnk : nkR K p.1 Bn x := by
        rw [ek] at hx dp ⊢
        exact dat_nk hx dp
      have cnt : ((ps.filter fun q => decide (q.1 = p.1)).map (·.2)).length * m ≤ 6000 := by
        rw [List.length_map]
        exact Nat.le_trans (Nat.mul_le_mul_right _ (List.length_filter_le _ _)) hm
      refine De.tupD (ds := [p.1.data, frD (sumAt ps p.1)]) (.cons (.var hx rfl) (.cons (De.total (De.nget (K := K) (hs := (heapsOf (ps.map fun p => (p.1, frD p.2))).map fun p => (p.1, PyData.list p.2)) (.var (Mo.mo sn hd) rfl) (.var hnk rfl) (by rw [at_heaps hok.nd hxs, ex])) m1 m3 cnt fun q hq => ?_) .nil)) (by show 2 ≤ sizeLine; omega)
      obtain ⟨r, hr, rfl⟩ := List.mem_map.mp hq
      exact sz r (List.mem_filter.mp hr).1
    · have h4 : dat K (.list ((sortK (keysOf ps)).map fun k => kfD (k, sumAt ps k))) B4 v4 := h4
      have h4 : dat K (.list (((sortK (keysOf ps)).map fun k => (k, sumAt ps k)).map kfD)) B4 v4 := by rw [List.map_map]; exact h4
      have zr : PyData.tuple [.int 0, .int 1] = frD 0 := rfl
      refine s_ret (De.tupleL (De.lcD (K := K) (as := (sortK (keysOf ps)).map fun k => (k, sumAt ps k)) (r := fun p => dat K (kfD p)) (Di.listM (f := kfD) (.var h4 rfl)) (fun p => decide (p.2 ≠ 0)) kfD (by rw [List.length_map]; omega) fun p x Bn Hn hp2 sn sh hx => ⟨[some v, some (.ref D0), v2, v3, some v4, some x], fun Q q => q, rfl, ?_, fun _ => .var hx rfl⟩)) e4.bh fun v B H e h => k v B H ((eO.trans e4).trans e) h
      refine Dt.eq (Dt.test (K := K) (De.op (r := rNeD K) (De.op (r := rIxT K) (.var hx rfl) .int (Rv.ixTD (i := ((1 : Nat) : Int)) (atI_nat rfl))) (De.cstT c_ZERO) (Rv.neD (frD_shaped p.2) rfl))) ?_
      rw [zr, frD_eqv]
      simp
end
end K33

set_option Elab.async false
set_option linter.all false
set_option maxRecDepth 100000
set_option maxHeartbeats 4000000
/-! K33a: the program's tallies. -/
namespace K33
open PySem PySem.Spec PyProof.Rows L2 Wb Wv Fm Ta Wf Fq
/-! ### what each promises -/
abbrev wdD (w : Wd) : PyData := wordD w
def ltD (x : Lt) : PyData := .tuple [.int x.1, .int x.2.1, wdD x.2.2]
def rwD (r : Rw) : PyData := .tuple [.int r.1, .int r.2.1, .tuple (r.2.2.map wdD)]
def rwsD (rs : List Rw) : PyData := .tuple (rs.map rwD)
def sqD (b : Bool) (ds : List PyData) : PyData := if b then .list ds else .tuple ds
def tallyR (K : PySem.W.Frag) (CF CT : Addr) (qs : Qs) (ls : List Lt) : Rel := insR CT [("form", formR K CF qs), ("rows", dat K (rwsD (tally ls)))]
instance {K : PySem.W.Frag} {CF CT : Addr} {qs : Qs} {ls : List Lt} : Mo (tallyR K CF CT qs ls) := by unfold tallyR; infer_instance
/-- letters that can be handed in -/
structure LOk (ls : List Lt) : Prop where
  few : ls.length ≤ 60
  pos : Pos ls
abbrev sp_lettersOf (K : PySem.W.Frag) (CF CT : Addr) : Sp := Pf (α := Qs × List Lt) (fun a => [tallyR K CF CT a.1 a.2]) (fun a => (letters (tally a.2)).length ≤ 60) (fun a => dat K (.tuple ((letters (tally a.2)).map ltD)))
abbrev sp_tallyOf (K : PySem.W.Frag) (CF CT : Addr) : Sp := Pf (α := Qs × Bool × List Lt) (fun a => [formR K CF a.1, dat K (sqD a.2.1 (a.2.2.map ltD))]) (fun a => LOk a.2.2) (fun a => tallyR K CF CT a.1 a.2.2)
theorem ints_of {K : PySem.W.Frag} {B : Hp} : ∀ {w : Wd} {xs : List V}, DpAll K B xs (w.map .int) → xs = w.map V.int
  | [], _, .nil => rfl
  | i :: w, _, .cons h t => by
    cases h
    rw [List.map_cons, ints_of t]
theorem dat_wd {K : PySem.W.Frag} {B : Hp} {v : V} {w : Wd} (h : dat K (wdD w) B v) : ∃ b, v = .ref b ∧ KeyAt K B (wk w) b := by
  cases h with
  | tup hs hd =>
    refine ⟨_, rfl, ?_⟩
    have := ints_of hd
    unfold KeyAt wk
    rw [List.map_map]
    exact this ▸ hs
section
variable {P : Program} {w : World} {K : PySem.W.Frag} {mg : Str → Option Value} {base : Heap} {C_Form C_Sheets C_Tally C_InvalidSize C_Refused C_BlankError C_InvalidSheets a_ZERO a_ONE : Addr}
theorem sc_tallyOf : FnScope ["form", "letters", "editions", "number", "edition", "_", "heard_words", "word", "rows"] ["form", "letters"] (defScope s_tallyOf) := ⟨rfl, rfl, rfl, by decide +kernel, rfl, by decide +kernel, by decide +kernel⟩
theorem ok_tallyOf (D : Def K mg "tally_of" s_tallyOf ["form", "letters"]) (n_max : mg "max" = none) (n_sorted : mg "sorted" = none) (n_tuple : mg "tuple" = none) (K_Tally : CalC P w K mg base "Tally" C_Tally ["form", "rows"]) : Cal P w K mg base CX0 3 "tally_of" s_tallyOf ["form", "letters"] (sp_tallyOf K C_Form C_Tally) := by
  refine D.ok sc_tallyOf (fun vs H Q E h => ?_) (fun cdv f A outer s H vs Q E hr h => ?_)
  · exact pf_len h fun _ => rfl
  replace h := pf2 h
  obtain ⟨v, v1, B, ⟨qs, ty, ls⟩, rfl, hB, hv, hv1, ok, k⟩ := h
  refine ⟨_, (pss_cons (ps_set (i := 2) sc_tallyOf.nd rfl (Or.inr rfl) pe_dnewK)
    (pss_cons (ps_for PassesOwn.never rfl (pi_seq (pv 1)) (pg_tup rfl (pgs_cons (pg_name (i := 3) sc_tallyOf.nd rfl (Or.inl rfl)) (pgs_cons (pg_name (i := 4) sc_tallyOf.nd rfl (Or.inl rfl)) (pgs_cons (pg_name (i := 5) sc_tallyOf.nd rfl (Or.inl rfl)) pgs_nil)))) (pss_one (ps_dput (lt1 hr.units) (pv 2) (pv 3) (pe_callB (call_max2 rfl) (by rfl) n_max (by decide +kernel) (pa_cons (pv 4) (pa_cons (pe_dget2 (lt1 hr.units) (pv 2) (pv 3) pe_int ⟨rfl, rfl, rfl, rfl⟩) pa_nil))) (by rfl))))
    (pss_cons (ps_set (i := 6) sc_tallyOf.nd rfl (Or.inr rfl) (pe_lock (pe_dc (own := [("number", 3)]) (g := gName 3) (tt := tYes) rfl sc_tallyOf.nd (pi_keys (pv 2)) (blkOk_by (own := [("number", 3)]) (N := ["form", "letters", "editions", "number", "edition", "_", "heard_words", "word", "rows"]) (sc := defScope s_tallyOf) (by decide +kernel)) (fun _ _ _ _ _ => (pg_name (i := 3) sc_tallyOf.nd rfl (Or.inl rfl))) (fun _ _ _ _ _ => pts_nil) (fun _ _ _ _ _ => (pv 3)) (fun _ _ _ _ _ => (show PE _ _ (tHNew P w) from pe_hnew)))))
    (pss_cons (ps_for PassesOwn.never rfl (pi_seq (pv 1)) (pg_tup rfl (pgs_cons (pg_name (i := 3) sc_tallyOf.nd rfl (Or.inl rfl)) (pgs_cons (pg_name (i := 4) sc_tallyOf.nd rfl (Or.inl rfl)) (pgs_cons (pg_name (i := 7) sc_tallyOf.nd rfl (Or.inl rfl)) pgs_nil)))) (pss_one (ps_if (pt_cmpR op_eq (pv 4) (pe_dget (lt1 hr.units) (pv 2) (pv 3) (fun _ _ => rfl)) (nomark _)) (pss_one (ps_hput (lt1 hr.units) (pe_dget (lt1 hr.units) (pv 6) (pv 3) (fun _ _ => rfl)) (pv 7) pe_bl (by rfl))) pss_nil)))
    (pss_cons (ps_setLc (i := 8) (own := [("number", 3)]) (g := gName 3) (tt := tYes) rfl sc_tallyOf.nd rfl rfl (sw_true rfl rfl rfl (by decide +kernel)) (pi_list (pe_callB (call_sortedDI rfl) (by rfl) n_sorted (by decide +kernel) (pa_cons (pv 2) pa_nil))) (blkOk_by (own := [("number", 3)]) (N := ["form", "letters", "editions", "number", "edition", "_", "heard_words", "word", "rows"]) (sc := defScope s_tallyOf) (by decide +kernel)) (fun _ _ _ _ _ => (pg_name (i := 3) sc_tallyOf.nd rfl (Or.inl rfl))) (fun _ _ _ _ _ => pts_nil) (fun _ _ _ _ _ => (pe_tup (pa_cons (pv 3) (pa_cons (pe_dget (lt1 hr.units) (pv 2) (pv 3) (fun _ _ => rfl)) (pa_cons (pe_callTy (T := "tuple") (r := rTup K) call_tuple_of (by rfl) n_tuple (by decide +kernel) (pa_cons (pe_callB (id := "sorted") (r := rSortedH K P w) (cr_sortedH rfl hr.units) (by rfl) n_sorted (by decide +kernel) (pa_cons (pe_dget (lt1 hr.units) (pv 6) (pv 3) (fun _ _ => rfl)) pa_nil)) pa_nil)) pa_nil))))))
    (pss_one (ps_ret (pe_calC K_Tally hr (by decide) (by rfl) (pa_cons (pv 0) (pa_cons (pe_callTy call_tuple_of (by rfl) n_tuple (by decide +kernel) (pa_cons (pv 8) pa_nil)) pa_nil)))))))))), ?_⟩
  have line := sizeLine_eq
  have few : ls.length ≤ 60 := ok.few
  have di : ∀ {σ : L2.St} {B' : Hp}, σ[1]? = some (some v1) → Same B B' → Di (iSeq K (tVar 1)) σ B' (ls.map fun x => dat K (ltD x)) := fun {σ B'} hs s => by
    have hv1 : dat K (sqD ty (ls.map ltD)) B' v1 := Mo.mo s hv1
    have e : (ls.map fun x => dat K (ltD x)) = (ls.map ltD).map (dat K) := by rw [List.map_map]; rfl
    rw [e]
    cases ty with
    | true => exact Di.seqL (.var hv1 hs)
    | false => exact Di.seqT (.var hv1 hs)
  -- the last editions
  refine fun E hE => ?_
  change tSeq _ _ _ [some v, some v1, some (.ref E), none, none, none, none, none, none] (upd H E (.dK []))
  refine s_forX (B0 := B) (H0 := H) (Ext.newH hB hE) (di rfl (Same.refl _)) (fun i σ B' H' => ∃ v3 v4 v5, σ = [some v, some v1, some (.ref E), v3, v4, v5, none, none, none] ∧ Hid B' H' E (.dK (eds (ls.take i)))) (fun B1 H1 e => ⟨none, none, none, rfl, (Hid.new hB hE).ext e⟩) ?_ ?_
  · rintro B1 i R x σ' Bc Hc Bn Hn s1 hR e1 s2 ⟨v3, v4, v5, rfl, m⟩ e2 hx
    rw [List.getElem?_map] at hR
    obtain ⟨l, hl, rfl⟩ := Option.map_eq_some_iff.mp hR
    obtain ⟨n, ed, wd, hn, he, hw, go⟩ := gTup3 e2.bh (dat_tupR hx)
    refine go _ ?_
    have hn := dat_int hn
    have he := dat_int he
    subst hn he
    have m2 := m.ext e2
    have lt : (eds (ls.take i)).length < sizeLine := by
      have := eds_len (ls.take i)
      rw [List.length_take] at this
      omega
    refine ⟨_, rfl, _, rfl, E, rfl, .inl ⟨_, .inl m2.at_⟩, _, rfl, _, DGet.k (k := .inl l.1) m2.at_, ?_⟩
    rw [get_eds]
    refine ⟨_, _, rfl, ?_⟩
    have mx : (if last (ls.take i) l.1 > l.2.1 then last (ls.take i) l.1 else l.2.1) = max l.2.1 (last (ls.take i) l.1) := by
      split <;> omega
    rw [mx]
    refine ⟨_, rfl, _, rfl, E, _, rfl, DPut.k (k := .inl l.1) m2.at_ lt, ?_⟩
    rw [put_eds, ← take_snoc hl]
    exact ⟨Bn, (e1.trans e2).setH m2 hE, s2.trans e2.bb, _, _, _, rfl, m2.set⟩
  rintro σ1 B1 H1 e1 s1 ⟨v3, v4, v5, rfl, m⟩
  rw [List.length_map, List.take_length] at m
  -- a dict for each number
  refine ⟨E, _, m.at_, trivial, fun od => ?_⟩
  refine ⟨_, rfl, E, od, rfl, .inl ⟨eds ls, upd_same, fun D hD => ?_⟩⟩
  have nD : D ≠ E := fun z => by rw [z, upd_same] at hD; cases hD
  have hD1 : H1 D = none := by rw [upd_ne nD] at hD; exact hD
  have ndn := nd_once (nums ls)
  have nl : (once (nums ls)).length ≤ 60 := Nat.le_trans (once_len _) (by unfold nums; rw [List.length_map]; exact few)
  refine dc_news (P := P) (w := w) (f := fun n => .int (last ls n)) (ns := once (nums ls)) (fun _ => rfl) (fun _ => rfl) upd_same hD ndn (by omega) fun as J hl hn ha hJ ho => ?_
  have nEa : E ∉ as := fun z => by have := (ha E z).1; rw [upd_same] at this; cases this
  refine ⟨(ho E nEa fun z => nD z.symm).trans upd_same, ?_⟩
  change tSeq _ _ _ [some v, some v1, some (.ref E), v3, v4, v5, some (.ref D), none, none] (upd J E (.dK (eds ls)))
  rw [zip_byN hl ndn] at hJ
  generalize had : adOf (once (nums ls)) as = ad at hJ
  have hE1 : H1 E = some (.dK (eds ls)) := m.at_
  have aH : ∀ a ∈ as, H1 a = none ∧ a ≠ E := fun a h => by
    have n : a ≠ E := fun z => nEa (z ▸ h)
    have := (ha a h).1
    rw [upd_ne n] at this
    exact ⟨this, n⟩
  have sJ : Same H1 (upd J E (.dK (eds ls))) := fun b o h => by
    by_cases q : b = E
    · rw [q, upd_same]
      rw [q, hE1] at h
      exact h
    · rw [upd_ne q, ho b (fun z => by rw [(aH b z).1] at h; cases h) (fun z => by rw [z, hD1] at h; cases h), upd_ne q]
      exact h
  have e2 : Ext B H B1 (upd J E (.dK (eds ls))) := e1.trans ⟨sJ, Same.refl _, e1.bh.trans sJ, fun _ _ z => z⟩
  have mE : Hid B1 (upd J E (.dK (eds ls))) E (.dK (eds ls)) := ⟨upd_same, m.no⟩
  have mD : Hid B1 (upd J E (.dK (eds ls))) D (.dK (byN (fun n => .ref (ad n)) (once (nums ls)))) := ⟨(upd_ne nD).trans hJ, none_of e1.bh hD1⟩
  have mA : ∀ n ∈ once (nums ls), Hid B1 (upd J E (.dK (eds ls))) (ad n) (DicO P w (ad n) []) := fun n h => by
    have h' : ad n ∈ as := by rw [← had]; exact adOf_mem hl h
    exact ⟨(upd_ne (aH _ h').2).trans (ha _ h').2.2, none_of e1.bh (aH _ h').1⟩
  have inj : ∀ n ∈ once (nums ls), ∀ k ∈ once (nums ls), ad n = ad k → n = k := fun n h1 k h2 => by
    rw [← had]
    exact adOf_inj hl hn h1 h2
  have outD : ∀ n ∈ once (nums ls), ad n ≠ D := fun n h => by
    have h' : ad n ∈ as := by rw [← had]; exact adOf_mem hl h
    exact (ha _ h').2.1
  have fresh : ∀ n ∈ once (nums ls), H (ad n) = none := fun n h => by
    have h' : ad n ∈ as := by rw [← had]; exact adOf_mem hl h
    exact e1.oldH (aH _ h').1
  have hHD : H D = none := e1.oldH hD1
  generalize upd J E (.dK (eds ls)) = HJ at *
  -- the words heard
  refine s_forX (B0 := B) (H0 := H) e2 (di rfl s1) (fun i σ B' H' => ∃ v3 v4 v5 v7, σ = [some v, some v1, some (.ref E), v3, v4, v5, some (.ref D), v7, none] ∧ Hid B' H' E (.dK (eds ls)) ∧ Hid B' H' D (.dK (byN (fun n => .ref (ad n)) (once (nums ls)))) ∧ ∀ n ∈ once (nums ls), ∃ kvs, Hid B' H' (ad n) (DicO P w (ad n) kvs) ∧ Ws K B' (met ls (ls.take i) n) kvs)
    (fun B2 H2 e => ⟨_, _, _, _, rfl, mE.ext e, mD.ext e, fun n h => ⟨[], (mA n h).ext e, Ws.nil⟩⟩) ?_ ?_
  · rintro B2 i R x σ' Bc Hc Bn Hn s3 hR e3 s4 ⟨u3, u4, u5, u7, rfl, qE, qD, qA⟩ e4 hx
    rw [List.getElem?_map] at hR
    obtain ⟨l, hl', rfl⟩ := Option.map_eq_some_iff.mp hR
    obtain ⟨n, ed, wd, hn', he', hw', go⟩ := gTup3 e4.bh (dat_tupR hx)
    refine go _ ?_
    have hn' := dat_int hn'
    have he' := dat_int he'
    subst hn' he'
    have qE := qE.ext e4
    have qD := qD.ext e4
    have mem : l.1 ∈ nums ls := List.mem_map.mpr ⟨l, List.mem_of_getElem? hl', rfl⟩
    have memo := mem_once.mpr mem
    obtain ⟨kvs, qK, wK⟩ := qA l.1 memo
    have qK := qK.ext e4
    have wK := wK.mono e4.bb
    have dg := DGet.k (k := .inl l.1) qE.at_
    rw [val_eds mem] at dg
    refine ⟨_, rfl, _, rfl, _, rfl, E, _, rfl, dg, rfl, ?_⟩
    refine ⟨_, rfl, ?_⟩
    obtain ⟨b, rfl, kb⟩ := dat_wd hw'
    refine ite2 (fun h => ?_) (fun h => ?_)
    · have e0 : l.2.1 = last ls l.1 := V.int.inj (of_decide_eq_true h)
      have dg2 := DGet.k (k := .inl l.1) qD.at_
      rw [val_byN, if_pos memo] at dg2
      have lw : kvs.length < sizeLine := by
        rw [wK.len]
        have := once_len (((ls.take i).filter fun x => decide (x.1 = l.1 ∧ x.2.1 = last ls l.1)).map (·.2.2))
        have h2 : (met ls (ls.take i) l.1).length ≤ _ := this
        rw [List.length_map] at h2
        have h3 := List.length_filter_le (fun x : Lt => decide (x.1 = l.1 ∧ x.2.1 = last ls l.1)) (ls.take i)
        rw [List.length_take] at h3
        omega
      refine ⟨_, rfl, _, rfl, D, _, rfl, dg2, _, rfl, ad l.1, b, kvs, wk l.2.2, rfl, rfl, qK.at_, fun p hp => (wK.at_ p hp).same e4.bh, kb.same e4.bh, lw, ?_⟩
      have nEK : E ≠ ad l.1 := fun z => by have a := qE.at_; rw [z, qK.at_] at a; cases a
      have nDK : D ≠ ad l.1 := fun z => outD _ memo z.symm
      refine ⟨Bn, (e3.trans e4).setH qK (fresh _ memo), s4.trans e4.bb, _, _, _, _, rfl, qE.other nEK, qD.other nDK, fun n hn2 => ?_⟩
      rw [take_snoc hl', met_snoc]
      by_cases q : n = l.1
      · subst q
        rw [if_pos ⟨rfl, e0⟩]
        exact ⟨_, qK.set, wK.put kb⟩
      · rw [if_neg fun z => q z.1.symm]
        obtain ⟨kvs2, q2, w2⟩ := qA n hn2
        exact ⟨kvs2, (q2.ext e4).other (fun z => q (inj n hn2 l.1 memo z)), w2.mono e4.bb⟩
    · have e0 : ¬ l.2.1 = last ls l.1 := fun z => h (decide_eq_true (by rw [z]))
      refine ⟨Bn, e3.trans e4, s4.trans e4.bb, _, _, _, _, rfl, qE, qD, fun n hn2 => ?_⟩
      rw [take_snoc hl', met_snoc, if_neg (show ¬ (l.1 = n ∧ l.2.1 = last ls n) from fun z => e0 (by rw [z.1]; exact z.2))]
      obtain ⟨kvs2, q2, w2⟩ := qA n hn2
      exact ⟨kvs2, q2.ext e4, w2.mono e4.bb⟩
  rintro σ1 B3 H3 e3 s3 ⟨u3, u4, u5, u7, rfl, qE, qD, qA⟩
  rw [List.length_map, List.take_length] at qA
  -- all of it laid open
  have hz : ∀ a ∈ E :: D :: (once (nums ls)).map ad, B3 a = none ∧ H a = none := fun a h => by
    rcases List.mem_cons.mp h with rfl | h
    · exact ⟨qE.no, hE⟩
    · rcases List.mem_cons.mp h with rfl | h
      · exact ⟨qD.no, hHD⟩
      · obtain ⟨n, hn2, rfl⟩ := List.mem_map.mp h
        obtain ⟨kvs, q, _⟩ := qA n hn2
        exact ⟨q.no, fresh n hn2⟩
  have eO := e3.openAll hz
  have sO := openH_sub (H := H3) fun a h => (hz a h).1
  have oE : openH B3 H3 (E :: D :: (once (nums ls)).map ad) E = some (.dK (eds ls)) := (openH_at List.mem_cons_self).trans qE.at_
  have oD : openH B3 H3 (E :: D :: (once (nums ls)).map ad) D = some (.dK (byN (fun n => .ref (ad n)) (once (nums ls)))) := (openH_at (List.mem_cons_of_mem _ List.mem_cons_self)).trans qD.at_
  have oA : ∀ n ∈ once (nums ls), wsR K P w (ad n) (once (wordsOf ls n)) (openH B3 H3 (E :: D :: (once (nums ls)).map ad)) (.ref (ad n)) := fun n h => by
    obtain ⟨kvs, q, wq⟩ := qA n h
    exact ⟨kvs, rfl, (openH_at (List.mem_cons_of_mem _ (List.mem_cons_of_mem _ (List.mem_map.mpr ⟨n, h, rfl⟩)))).trans q.at_, wq.mono sO⟩
  generalize openH B3 H3 (E :: D :: (once (nums ls)).map ad) = B4 at eO sO oE oD oA
  have dE : dicR E (eds ls) B4 (.ref E) := ⟨rfl, oE⟩
  have dD : dicR D (byN (fun n => .ref (ad n)) (once (nums ls))) B4 (.ref D) := ⟨rfl, oD⟩
  refine s_set (De.lcA (K := K) (as := sortI (once (nums ls))) (r := fun n => dat K (.int n)) (Di.listM (K := K) (as := sortI (once (nums ls))) (f := .int) (.cb (.cons (.var dE rfl) .nil) (rc_sortedDI (by omega)))) (fun n => rwD (n, last ls n, sortW (once (wordsOf ls n)))) (by rw [(sortI_perm _).length_eq]; omega) fun n x B5 H5 hn5 s5 _ h5 => ⟨_, fun Q q => q, rfl, ?_⟩) eO.bh fun u8 B6 H6 e6 h6 => ?_
  · have memo : n ∈ once (nums ls) := mem_sortI.mp hn5
    have mem := mem_once.mp memo
    have h5 : dat K (.int n) B5 x := h5
    refine De.tupD (ds := [.int n, .int (last ls n), .tuple ((sortW (once (Ta.wordsOf ls n))).map wdD)]) (.cons (.var h5 rfl) (.cons (De.dget (R := dat K (.int (last ls n))) (.var (Mo.mo s5 dE) rfl) (.var h5 rfl) (val_eds mem) (.int _)) (.cons (De.tupleL (.cb (.cons (De.dget (R := wsR K P w (ad n) (once (Ta.wordsOf ls n))) (.var (Mo.mo s5 dD) rfl) (.var h5 rfl) (by rw [val_byN, if_pos memo]) (Mo.mo s5 (oA n memo))) .nil) rc_sortedW)) .nil))) (by show 3 ≤ sizeLine; omega)
  have h6 : dat K (.list ((tally ls).map rwD)) B6 u8 := by
    unfold tally
    rw [List.map_map]
    exact h6
  refine s_ret (De.make (fs := ["form", "rows"]) (Rs := [formR K C_Form qs, dat K (rwsD (tally ls))]) (.cons (.var (Mo.mo ((s1.trans s3).trans (sO.trans e6.bb)) hv) rfl) (.cons (De.tupleL (.var h6 rfl)) .nil)) (by rfl)) e6.bh fun v' B7 H7 e7 h7 => k v' B7 H7 ((eO.trans e6).trans e7) h7
end
end K33

set_option Elab.async false
set_option linter.all false
set_option maxRecDepth 100000
set_option maxHeartbeats 4000000
/-! K33b: letters of tallies, tallies merged. -/
namespace K33
open PySem PySem.Spec PyProof.Rows L2 Wb Wv Fm Ta Wf Fq
theorem tallyR_eq {K : PySem.W.Frag} {CF CT : Addr} {qs : Qs} {a b : List Lt} (h : tally a = tally b) : tallyR K CF CT qs a = tallyR K CF CT qs b := by unfold tallyR; rw [h]
section
variable {P : Program} {w : World} {K : PySem.W.Frag} {mg : Str → Option Value} {base : Heap} {C_Form C_Sheets C_Tally C_InvalidSize C_Refused C_BlankError C_InvalidSheets a_ZERO a_ONE : Addr}
theorem fldRows {σ : L2.St} {B : Hp} {te : TE} {qs : Qs} {ls : List Lt} (c : CalC P w K mg base "Tally" C_Tally ["form", "rows"]) (h : De te σ B (tallyR K C_Form C_Tally qs ls)) : De (tFld K te "rows") σ B (dat K (rwsD (tally ls))) := De.fld h c.c (c.na "rows" (by simp)) rfl
theorem fldForm {σ : L2.St} {B : Hp} {te : TE} {qs : Qs} {ls : List Lt} (c : CalC P w K mg base "Tally" C_Tally ["form", "rows"]) (h : De te σ B (tallyR K C_Form C_Tally qs ls)) : De (tFld K te "form") σ B (formR K C_Form qs) := De.fld h c.c (c.na "form" (by simp)) rfl
theorem sc_lettersOf : FnScope ["tally", "number", "edition", "words", "word"] ["tally"] (defScope s_lettersOf) := ⟨rfl, rfl, rfl, by decide +kernel, rfl, by decide +kernel, by decide +kernel⟩
theorem ok_lettersOf (D : Def K mg "letters_of" s_lettersOf ["tally"]) (n_tuple : mg "tuple" = none) (K_Tally : CalC P w K mg base "Tally" C_Tally ["form", "rows"]) : Cal P w K mg base CX0 1 "letters_of" s_lettersOf ["tally"] (sp_lettersOf K C_Form C_Tally) := by
  refine D.ok sc_lettersOf (fun vs H Q E h => ?_) (fun cdv f A outer s H vs Q E hr h => ?_)
  · exact pf_len h fun _ => rfl
  replace h := pf1 h
  obtain ⟨v, B, ⟨qs, ls⟩, rfl, hB, hv, few, k⟩ := h
  refine ⟨_, (pss_one (ps_ret (pe_callTy call_tuple_of (by rfl) n_tuple (by decide +kernel) (pa_cons (pe_lc2 (own := [("number", 1), ("edition", 2), ("words", 3), ("word", 4)]) (vs1 := [4]) (g := gTup K 3 (gCons (gName 1) (gCons (gName 2) (gCons (gName 3) gNil)))) (g1 := gName 4) (wi1 := iTup K (tVar 3)) (tt := tYes) (tt1 := tYes) rfl sc_lettersOf.nd (pi_tup (pe_fld (pv 0) rfl)) (blkOk_by (own := [("number", 1), ("edition", 2), ("words", 3), ("word", 4)]) (N := ["tally", "number", "edition", "words", "word"]) (sc := defScope s_lettersOf) (by decide +kernel)) (by decide) (fun _ _ _ _ _ => (pg_tup rfl (pgs_cons (pg_name (i := 1) sc_lettersOf.nd rfl (Or.inl rfl)) (pgs_cons (pg_name (i := 2) sc_lettersOf.nd rfl (Or.inl rfl)) (pgs_cons (pg_name (i := 3) sc_lettersOf.nd rfl (Or.inl rfl)) pgs_nil))))) (fun _ _ _ _ _ => pts_nil) (fun _ _ _ _ _ => (pi_tup (pv 3))) (fun _ _ _ _ _ => (pg_name (i := 4) sc_lettersOf.nd rfl (Or.inl rfl))) (fun _ _ _ _ _ => pts_nil) (fun _ _ _ _ _ => (pe_tup (pa_cons (pv 1) (pa_cons (pv 2) (pa_cons (pv 4) pa_nil)))))) pa_nil)))), ?_⟩
  have few : (letters (tally ls)).length ≤ 60 := few
  have line := sizeLine_eq
  have el : ((tally ls).flatMap fun r => r.2.2.map fun x => ltD (r.1, r.2.1, x)) = (letters (tally ls)).map ltD := by
    unfold letters
    rw [List.map_flatMap]
    congr 1
    funext r
    rw [List.map_map]
    rfl
  refine s_ret (De.tupleL (De.eq (De.lc2D (K := K) (as := tally ls) (r := fun r => dat K (rwD r)) (Di.tupM (f := rwD) (fldRows K_Tally (.var hv rfl))) (fun r => r.2.2) (fun _ x => dat K (wdD x)) (fun r x => ltD (r.1, r.2.1, x)) ?_ ?_) (by rw [el]))) hB k
  · rw [el, List.length_map]
    omega
  · intro r x Bn Hn hr s1 s2 hx
    obtain ⟨n, ed, ws, hn, he, hw, go⟩ := gTup3 s2 (dat_tupR hx)
    exact ⟨_, go, rfl, Di.tupM (f := wdD) (.var hw rfl), fun y v' Bm H' hy s3 s4 h4 => ⟨_, fun Q q => q, rfl, De.tupD (ds := [.int r.1, .int r.2.1, wdD y]) (.cons (.var (Mo.mo s3 hn) rfl) (.cons (.var (Mo.mo s3 he) rfl) (.cons (.var h4 rfl) .nil))) (by show 3 ≤ sizeLine; omega)⟩⟩
structure HOk (ls : List Lt) : Prop where
  few : (letters (tally ls)).length ≤ 30
  pos : Pos ls
abbrev sp_heard (K : PySem.W.Frag) (CF CT : Addr) : Sp := Pf (α := Qs × List Lt × Lt) (fun a => [tallyR K CF CT a.1 a.2.1, dat K (ltD a.2.2)]) (fun a => HOk a.2.1 ∧ 0 ≤ a.2.2.2.1) (fun a => tallyR K CF CT a.1 (a.2.1 ++ [a.2.2]))
theorem sc_heard : FnScope ["tally", "letter"] ["tally", "letter"] (defScope s_heard) := ⟨rfl, rfl, rfl, by decide +kernel, rfl, by decide +kernel, by decide +kernel⟩
theorem ok_heard (D : Def K mg "heard" s_heard ["tally", "letter"]) (C_tallyOf : Cal P w K mg base CX0 3 "tally_of" s_tallyOf ["form", "letters"] (sp_tallyOf K C_Form C_Tally)) (C_lettersOf : Cal P w K mg base CX0 1 "letters_of" s_lettersOf ["tally"] (sp_lettersOf K C_Form C_Tally)) (K_Tally : CalC P w K mg base "Tally" C_Tally ["form", "rows"]) : Cal P w K mg base CX0 4 "heard" s_heard ["tally", "letter"] (sp_heard K C_Form C_Tally) := by
  refine D.ok sc_heard (fun vs H Q E h => ?_) (fun cdv f A outer s H vs Q E hr h => ?_)
  · exact pf_len h fun _ => rfl
  replace h := pf2 h
  obtain ⟨v, v1, B, ⟨qs, ls, l⟩, rfl, hB, hv, hv1, ⟨ok, l0⟩, k⟩ := h
  refine ⟨_, (pss_one (ps_ret (pe_cal C_tallyOf (hr.mono (by decide)) (by rfl) pass0 (pa_cons (pe_fld (pv 0) rfl) (pa_cons (pe_op op_catA (pe_cal C_lettersOf (hr.mono (by decide)) (by rfl) pass0 (pa_cons (pv 0) pa_nil)) (pe_tup (pa_cons (pv 1) pa_nil))) pa_nil))))), ?_⟩
  have ok : HOk ls := ok
  have l0 : 0 ≤ l.2.1 := l0
  have few := ok.few
  have line := sizeLine_eq
  have k : ∀ (v : V) (B' H' : Hp), Ext B H B' H' → tallyR K C_Form C_Tally qs (ls ++ [l]) B' v → Q v H' := k
  rw [← tallyR_eq (tally_heard ok.pos l0)] at k
  refine s_ret (De.call (args := fun a : Qs × Bool × List Lt => [formR K C_Form a.1, dat K (sqD a.2.1 (a.2.2.map ltD))]) (res := fun a => tallyR K C_Form C_Tally a.1 a.2.2) (qs, false, letters (tally ls) ++ [l]) (.cons (fldForm K_Tally (.var hv rfl)) (.cons (De.eq (De.op (r := rCatA K) (De.call (args := fun a : Qs × List Lt => [tallyR K C_Form C_Tally a.1 a.2]) (res := fun a => dat K (.tuple ((letters (tally a.2)).map ltD))) (qs, ls) (.cons (.var hv rfl) .nil) (show (letters (tally ls)).length ≤ 60 by omega)) (De.tupD (ds := [ltD l]) (.cons (.var hv1 rfl) .nil) (by show 1 ≤ sizeLine; omega)) (Rv.catT (by rw [List.length_map, line]; show (letters (tally ls)).length + 1 ≤ 16777216; omega))) (by show _ = PyData.tuple _; rw [List.map_append]; rfl)) .nil)) ⟨?_, ?_⟩) hB k
  · show (letters (tally ls) ++ [l]).length ≤ 60
    rw [List.length_append]
    show _ + 1 ≤ 60
    omega
  · exact ok.pos.letters.app fun x hx => by
      rw [List.mem_singleton] at hx
      rw [hx]
      exact l0
end
end K33

set_option Elab.async false
set_option linter.all false
set_option maxRecDepth 100000
set_option maxHeartbeats 4000000
/-! K33d: == of forms and of tallies. -/
namespace K33
open PySem PySem.Spec PyProof.Rows L2 Wb Wv Fm Ta Wf Fq
theorem lay_map {α : Type} {f : α → PyData} : ∀ {l : List α}, (∀ x ∈ l, PyData.canLay0 (f x) = true) → PyData.canLayAll0 (l.map f) = true
  | [], _ => rfl
  | x :: l, h => by
    rw [List.map_cons]
    simp only [PyData.canLayAll0, h x List.mem_cons_self, lay_map fun y hy => h y (List.mem_cons_of_mem _ hy), Bool.and_self]
theorem depth_map {α : Type} {f : α → PyData} {n : Nat} : ∀ {l : List α}, (∀ x ∈ l, (f x).depth ≤ n) → PyData.depthAll (l.map f) ≤ n
  | [], _ => Nat.zero_le _
  | x :: l, h => by
    rw [List.map_cons]
    simp only [PyData.depthAll]
    exact Nat.max_le.mpr ⟨h x List.mem_cons_self, depth_map fun y hy => h y (List.mem_cons_of_mem _ hy)⟩
theorem lay_word (x : Wd) : PyData.canLay0 (wordD x) = true := by
  unfold wordD
  simp only [PyData.canLay0]
  exact lay_map fun i _ => rfl
theorem depth_word (x : Wd) : (wordD x).depth ≤ 1 := by
  unfold wordD
  simp only [PyData.depth]
  have := depth_map (f := PyData.int) (n := 0) (l := x) fun i _ => by simp [PyData.depth]
  omega
theorem lay_rw (r : Rw) : PyData.canLay0 (rwD r) = true := by
  unfold rwD
  simp only [PyData.canLay0, PyData.canLayAll0, lay_map fun x _ => lay_word x, Bool.and_self]
theorem depth_rw (r : Rw) : (rwD r).depth ≤ 3 := by
  unfold rwD
  simp only [PyData.depth, PyData.depthAll]
  have := depth_map (f := wdD) (n := 1) (l := r.2.2) fun x _ => depth_word x
  omega
theorem shaped_rws (rs : List Rw) : SeqAt.shaped (rwsD rs) = true := by
  have h1 : PyData.canLay0 (rwsD rs) = true := by
    unfold rwsD
    simp only [PyData.canLay0]
    exact lay_map fun r _ => lay_rw r
  have h2 : (rwsD rs).depth ≤ 4 := by
    unfold rwsD
    simp only [PyData.depth]
    have := depth_map (f := rwD) (n := 3) (l := rs) fun r _ => depth_rw r
    omega
  unfold SeqAt.shaped
  rw [h1, Bool.true_and]
  exact decide_eq_true (by omega)
instance {K : PySem.W.Frag} {C : Addr} {qs : Qs} : IsIns C (formR K C qs) := by unfold formR; infer_instance
instance {K : PySem.W.Frag} {CF CT : Addr} {qs : Qs} {ls : List Lt} : IsIns CT (tallyR K CF CT qs ls) := by unfold tallyR; infer_instance
section
variable {P : Program} {w : World} {K : PySem.W.Frag} {mg : Str → Option Value} {base : Heap} {C_Form C_Sheets C_Tally C_InvalidSize C_Refused C_BlankError C_InvalidSheets a_ZERO a_ONE : Addr}
abbrev sp_eqForm (K : PySem.W.Frag) (C : Addr) : Sp := Pf (α := Qs × Qs) (fun a => [formR K C a.1, formR K C a.2]) (fun a => SeqAt.shaped (qsD a.1) = true ∧ SeqAt.shaped (qsD a.2) = true) (fun a => dat K (.bool (PyData.eqv (qsD a.1) (qsD a.2))))
theorem fldQ {σ : L2.St} {B : Hp} {te : TE} {qs : Qs} (c : CalC P w K mg base "Form" C_Form ["questions"]) (h : De te σ B (formR K C_Form qs)) : De (tFld K te "questions") σ B (dat K (qsD qs)) := De.fld h c.c (c.na "questions" (by simp)) rfl
/-- what isinstance asks of a class of one's own -/
structure IsiC (K : PySem.W.Frag) (C : Addr) : Prop where
  ha : PySem.W.findIn K (.ref C) "__class__" = some (some (.builtin "object.__class__"))
  hn : PySem.W.specialIn K (.builtin "object.__class__") "__get__" = some (some (.builtin "getset_descriptor.__get__"))
  ht : PySem.W.takesIn K (.builtin "object.__class__") = some true
theorem isiC {σ : L2.St} {B : Hp} {te : TE} {C : Addr} {fs : List (Str × Rel)} (c : Cls K C) (t : IsiC K C) (h : De te σ B (insR C fs)) : De (tCB (rIsi K) (tCons te (tCons (tC (.ref C)) tNil))) σ B (dat K (.bool true)) := fun B1 H s1 s2 Q q => h B1 H s1 s2 _ fun v B2 H2 e hv => by
  obtain ⟨a, dx, us, rfl, ha, _⟩ := hv
  refine ⟨_, _, .ref C, .ref C, true, rfl, .own C, .base (.ins (e.bh _ _ ha) c t.ha t.hn t.ht (mro_obj c)), ?_, q _ B2 H2 e (.bl true)⟩
  unfold PySem.W.kitOne
  rw [if_pos (by simp)]
theorem eq_form {f : Addr} {fd : FuncData} (F : Fun K "__eq__" "Form.__eq__" (inClass (topS 7) 1) f fd) (n_isinstance : mg "isinstance" = none) (K_Form : CalC P w K mg base "Form" C_Form ["questions"]) (t_Form : IsiC K C_Form) : FnOk P w K mg base CX0 1 f fd ["self", "other"] (sp_eqForm K C_Form) := by
  refine F.ok (N := ["self", "other"]) ⟨rfl, rfl, rfl, by decide +kernel, rfl, by decide +kernel, by decide +kernel⟩ (fun vs H Q E h => ?_) (fun cdv A outer s H vs Q E hr h => ?_)
  · exact pf_len h fun _ => rfl
  replace h := pf2 h
  obtain ⟨v, v1, B, ⟨qs, qs2⟩, rfl, hB, hv, hv1, ⟨sh, sh2⟩, k⟩ := h
  refine ⟨_, pss_one (ps_ret (pe_and (pe_callB call_isi (by rfl) n_isinstance (by decide +kernel) (pa_cons (pv 1) (pa_cons (pe_glob (by rfl) K_Form.g (show RelV (.ref C_Form) (.ref C_Form) from rfl)) pa_nil))) (pe_one (pe_cmpR (op_eqD hr.units) (pe_fld (pv 0) rfl) (pe_fld (pv 1) rfl) (nomark _))))), ?_⟩
  exact s_ret (De.andV (a := true) (isiC K_Form.c t_Form (.var hv1 rfl)) fun _ => De.op (r := rEqD K) (fldQ K_Form (.var hv rfl)) (fldQ K_Form (.var hv1 rfl)) (Rv.eqD sh sh2)) hB k
end
end K33

set_option Elab.async false
set_option linter.all false
set_option maxRecDepth 100000
set_option maxHeartbeats 4000000
/-! K33e: tallies merged, or of unlike forms. -/
namespace K33
open PySem PySem.Spec PyProof.Rows L2 Wb Wv Fm Ta Wf Fq
def sp_merged (K : PySem.W.Frag) (CF CT CS : Addr) : Sp := fun vs H Q E => ∃ (x y : V) (B : Hp) (qs qs2 : Qs) (a b : List Lt), vs = [x, y] ∧ Same B H ∧ tallyR K CF CT qs a B x ∧ tallyR K CF CT qs2 b B y ∧ HOk a ∧ HOk b ∧ SeqAt.shaped (qsD qs) = true ∧ SeqAt.shaped (qsD qs2) = true ∧
  (PyData.eqv (qsD qs) (qsD qs2) = true → ∀ v B' H', Ext B H B' H' → tallyR K CF CT qs (a ++ b) B' v → Q v H') ∧
  (PyData.eqv (qsD qs) (qsD qs2) = false → ∀ B' H' dx, Ext B H B' H' → H' dx = none → E (.ref CS) (some dx) (upd H' dx (.xd [("word", .str "form")])))
section
variable {P : Program} {w : World} {K : PySem.W.Frag} {mg : Str → Option Value} {base : Heap} {C_Form C_Sheets C_Tally C_InvalidSize C_Refused C_BlankError C_InvalidSheets a_ZERO a_ONE : Addr}
theorem sc_merged : FnScope ["one", "other"] ["one", "other"] (defScope s_merged) := ⟨rfl, rfl, rfl, by decide +kernel, rfl, by decide +kernel, by decide +kernel⟩
theorem ok_merged (D : Def K mg "merged" s_merged ["one", "other"]) (E_Form : CalE P w K mg base 1 C_Form (sp_eqForm K C_Form)) (K_Form : CalC P w K mg base "Form" C_Form ["questions"]) (ne_Form : NoNe K C_Form) (Z_InvalidSize : Err P w K mg base "InvalidSize" "word" C_InvalidSize (topE C_BlankError)) (C_tallyOf : Cal P w K mg base CX0 3 "tally_of" s_tallyOf ["form", "letters"] (sp_tallyOf K C_Form C_Tally)) (C_lettersOf : Cal P w K mg base CX0 1 "letters_of" s_lettersOf ["tally"] (sp_lettersOf K C_Form C_Tally)) (K_Tally : CalC P w K mg base "Tally" C_Tally ["form", "rows"]) : Cal P w K mg base (L2.CX P w) 4 "merged" s_merged ["one", "other"] (sp_merged K C_Form C_Tally C_InvalidSize) := by
  refine D.okX sc_merged (fun vs H Q E h => ?_) (fun cdv f A outer s H vs Q E hr h => ?_)
  · obtain ⟨v, v1, B, qs, qs2, a, b, rfl, _⟩ := h
    rfl
  obtain ⟨v, v1, B, qs, qs2, a, b, rfl, hB, hv, hv1, oa, ob, sh, sh2, kr, kx⟩ := h
  refine ⟨_, (pss_cons (ps_if (pt_cmpR (op_neC E_Form K_Form.c ne_Form (hr.mono (by decide))) (pe_fld (pv 0) rfl) (pe_fld (pv 1) rfl) (nomark _)) (pss_one (ps_raise rfl (takes_of rfl rfl rfl rfl) (pmk_E Z_InvalidSize hr (by decide) rfl (pa_cons pe_str pa_nil)))) pss_nil)
    (pss_one (ps_ret (pe_cal C_tallyOf (hr.mono (by decide)) (by rfl) pass0 (pa_cons (pe_fld (pv 0) rfl) (pa_cons (pe_op op_catA (pe_cal C_lettersOf (hr.mono (by decide)) (by rfl) pass0 (pa_cons (pv 0) pa_nil)) (pe_cal C_lettersOf (hr.mono (by decide)) (by rfl) pass0 (pa_cons (pv 1) pa_nil))) pa_nil)))))), ?_⟩
  have line := sizeLine_eq
  have fa := oa.few
  have fb := ob.few
  refine s_ifS (b := !PyData.eqv (qsD qs) (qsD qs2)) (Dt.test (De.op (r := rNeI C_Form (sp_eqForm K C_Form)) (fldForm K_Tally (.var hv rfl)) (fldForm K_Tally (.var hv1 rfl)) (Rv.neIns (C := C_Form) (qs, qs2) ⟨sh, sh2⟩ (fun B x y hx hy => ⟨x, [y], rfl, hx, y, [], rfl, hy, rfl⟩) rfl))) hB (fun t B' H' e => ?_) fun f B' H' e => ?_
  · exact ⟨.str "form", rfl, fun dx hdx => kx (by simpa using t) B' H' dx e hdx⟩
  have kr := kr (by simpa using f)
  rw [← tallyR_eq (tally_merge oa.pos ob.pos)] at kr
  have hv := Mo.mo e.bb hv
  have hv1 := Mo.mo e.bb hv1
  have lc : ∀ {σ : L2.St} {B : Hp} {i : Nat} {u : V} {q : Qs} {ls : List Lt}, (letters (tally ls)).length ≤ 30 → tallyR K C_Form C_Tally q ls B u → σ[i]? = some (some u) → De (tCall (sp_lettersOf K C_Form C_Tally) [] E0 (tCons (tVar i) tNil)) σ B (dat K (.tuple ((letters (tally ls)).map ltD))) := fun {σ B i u q ls} few h hs =>
    De.call (args := fun a : Qs × List Lt => [tallyR K C_Form C_Tally a.1 a.2]) (res := fun a => dat K (.tuple ((letters (tally a.2)).map ltD))) (q, ls) (.cons (.var h hs) .nil) (show (letters (tally ls)).length ≤ 60 by omega)
  refine s_ret (De.call (args := fun a : Qs × Bool × List Lt => [formR K C_Form a.1, dat K (sqD a.2.1 (a.2.2.map ltD))]) (res := fun a => tallyR K C_Form C_Tally a.1 a.2.2) (qs, false, letters (tally a) ++ letters (tally b)) (.cons (fldForm K_Tally (.var hv rfl)) (.cons (De.eq (De.op (r := rCatA K) (lc fa hv rfl) (lc fb hv1 rfl) (Rv.catT (by rw [List.length_map, List.length_map, line]; omega))) (by show _ = PyData.tuple _; rw [List.map_append])) .nil)) ⟨?_, ?_⟩) e.bh fun v B2 H2 e2 h2 => kr v B2 H2 (e.trans e2) h2
  · show (letters (tally a) ++ letters (tally b)).length ≤ 60
    rw [List.length_append]
    omega
  · exact oa.pos.letters.app ob.pos.letters
end
end K33

set_option Elab.async false
set_option linter.all false
set_option maxRecDepth 100000
set_option maxHeartbeats 4000000
/-! the deal of a law: _law_source, _law_any, _law_of. -/
namespace K33
open PySem PySem.Spec PyProof.Rows L2 Wb
theorem ints_dp {K : PySem.W.Frag} {H : Hp} : ∀ cs : List Int, DpAll K H (cs.map V.int) (cs.map PyData.int)
  | [] => .nil
  | z :: cs => .cons (.int z) (ints_dp cs)
theorem ints_lay : ∀ cs : List Int, PyData.canLayAll0 (cs.map PyData.int) = true
  | [] => by simp [PyData.canLayAll0]
  | z :: cs => by simp [PyData.canLayAll0, PyData.canLay0, ints_lay cs]
theorem ints_depth : ∀ cs : List Int, PyData.depthAll (cs.map PyData.int) = 0
  | [] => by simp [PyData.depthAll]
  | z :: cs => by simp [PyData.depthAll, PyData.depth, ints_depth cs]
theorem ints_shaped (cs : List Int) : SeqAt.shaped (.list (cs.map PyData.int)) = true := by
  show (PyData.canLay0 (.list (cs.map PyData.int)) && decide (PyData.depth (.list (cs.map PyData.int)) ≤ 64)) = true
  rw [Bool.and_eq_true]
  refine ⟨by simp only [PyData.canLay0]; exact ints_lay cs, decide_eq_true ?_⟩
  simp only [PyData.depth, ints_depth]
  omega
theorem ints_eqv (cs : List Int) : PyData.eqv (.list (cs.map PyData.int)) (.list []) = cs.isEmpty := by
  cases cs with
  | nil => simp [PyData.eqv, PyData.eqvAll]
  | cons z r => simp [PyData.eqv, PyData.eqvAll]

section
variable {P : Program} {w : World} {K : PySem.W.Frag} {mg : Str → Option Value} {base : Heap} {C_Form C_Sheets C_Tally C_InvalidSize C_Refused C_BlankError C_InvalidSheets a_ZERO a_ONE : Addr}
theorem scAny : FnScope ["deal", "bound", "rest"] ["deal", "bound"] (defScope s_any) := ⟨rfl, rfl, rfl, by decide +kernel, rfl, by decide +kernel, by decide +kernel⟩

/-- how many cells are left -/
def left (c : Addr) (H : Hp) : Nat := match H c with
  | some (.lst xs) => xs.length
  | _ => 0

theorem okf_any {f : Addr} {fd : FuncData} (F : Fun K "_law_any" "_law_any" s_any f fd) (noInt : mg "int" = none) : FnOk P w K mg base CX0 1 f fd ["deal", "bound"] spAny := by
  refine F.ok scAny (fun vs H Q E h => ?_) (fun cdv A outer s H vs Q E hr h => ?_)
  · obtain ⟨d, c, bound, rfl, _⟩ := h
    rfl
  obtain ⟨d, c, bound, rfl, D, b0, b1, k⟩ := h
  refine ⟨_, pss_cons (ps_while PassesOwn.never (PW.pt (pw_and (pt_cmpR (op_neD hr.units) (pe_ix ix_list (pv 0) pe_int (fun _ _ => rfl)) (pe_lst pa_nil) (nomark _))
        (pw_and1 (pt_cmpR op_eq (pe_ix ix_list (pe_ix ix_list (pv 0) pe_int (fun _ _ => rfl)) (pe_un un_neg pe_int) (fun _ _ => rfl)) pe_int (nomark _)))))
      (pss_one (ps_expr (pe_bm0 PySem.F.plainAttrs_list PySem.F.slot_list_pop PySem.F.type_list_pop mt_pop (pe_ix ix_list (pv 0) pe_int (fun _ _ => rfl))))))
    (pss_cons (ps_if (pt_cmpR (op_neD hr.units) (pe_ix ix_list (pv 0) pe_int (fun _ _ => rfl)) (pe_lst pa_nil) (nomark _))
      (pss_cons (ps_set (i := 2) scAny.nd rfl (Or.inl rfl) (pe_callTy call_int1 (by rfl) noInt (by decide +kernel) (pa_cons (pe_bm0 PySem.F.plainAttrs_list PySem.F.slot_list_pop PySem.F.type_list_pop mt_pop (pe_ix ix_list (pv 0) pe_int (fun _ _ => rfl))) pa_nil)))
      (pss_cons (ps_expr (pe_bm PySem.F.plainAttrs_list PySem.F.slot_list_append PySem.F.type_list_append mt_append (pe_ix ix_list (pv 0) pe_int (fun _ _ => rfl)) (pa_cons (pe_op op_fdivW (pv 2) (pv 1)) pa_nil)))
      (pss_one (ps_ret (pe_op op_mod (pv 2) (pv 1)))))) pss_nil)
    (pss_cons (ps_asg (pe_op op_mod (pe_callTy call_int1 (by rfl) noInt (by decide +kernel) (pa_cons (pe_op op_add (pe_op op_mul (pe_ix ix_list (pv 0) pe_int (fun _ _ => rfl)) pe_int) pe_int) pa_nil)) pe_int) (pg_sub (pv 0) pe_int set_list))
    (pss_one (ps_ret (pe_op op_mod (pe_callTy call_int1 (by rfl) noInt (by decide +kernel) (pa_cons (pe_op op_fdiv (pe_ix ix_list (pv 0) pe_int (fun _ _ => rfl)) pe_int) pa_nil)) (pv 1))))))  , ?_⟩
  -- the cells that are 0 go
  refine whileI (fun σ H' => σ = [some (.ref d), some (.int bound), none] ∧ Deal H' d c ∧ Same (off H d c) (off H' d c))
    (fun σ H' => σ = [some (.ref d), some (.int bound), none] ∧ Deal H' d c ∧ Same (off H d c) (off H' d c)) (fun _ H' => left c H') ⟨rfl, D, Same.refl _⟩ ?_ ?_
  · -- behind it
    rintro σ G ⟨rfl, D', S'⟩
    obtain ⟨cs, mix, h1, h2, short, nn, m0, m1⟩ := D'.ex
    refine ⟨_, rfl, d, [.ref c, .int mix], 0, .ref c, rfl, rfl, SqL.of h1, rfl, ?_⟩
    refine ⟨Nat.zero_le _, fun l hl => ?_⟩
    have Sl : Same G (upd G l (.lst [])) := new_same hl
    have D2 : Deal (upd G l (.lst [])) d c := D'.same Sl
    have S2 : Same (off H d c) (off (upd G l (.lst [])) d c) := S'.trans (off_mono Sl)
    have h1' := Sl _ _ h1
    have h2' := Sl _ _ h2
    have ne := D'.ne
    refine ⟨.list (cs.map PyData.int), .list [], .lst (SqL.of h2') (ints_dp cs), .lst (SqL.of upd_same) .nil, ints_shaped cs, rfl, _, rfl, ?_⟩
    rw [ints_eqv]
    generalize upd G l (.lst []) = G2 at *
    rcases nil_or_last cs with rfl | ⟨ini, z, rfl⟩
    · -- no cell: the number goes on
      refine iteF ?_
      refine ⟨_, rfl, d, [.ref c, .int mix], 1, .int mix, rfl, rfl, SqL.of h1', rfl, ?_⟩
      refine ⟨_, _, rfl, rfl, .inl ⟨by omega, by omega⟩, _, _, rfl, rfl, .inl ⟨_, rfl, ?_⟩⟩
      refine ⟨_, _, rfl, rfl, (by show (0 : Int) < 2147483647; decide), ?_⟩
      refine ⟨_, rfl, d, [.ref c, .int mix], 1, 1, rfl, rfl, h1', rfl, ?_⟩
      obtain ⟨mix2, hm⟩ : ∃ mix2, mix2 = (mix * 48271 + 41) % 2147483647 := ⟨_, rfl⟩
      have at2 : upd G2 d (.lst ([V.ref c, V.int mix].set 1 (V.int ((mix * 48271 + 41) % 2147483647)))) d = some (.lst [.ref c, .int mix2]) := by
        rw [upd_same, hm]
        rfl
      have q0 : 0 ≤ mix2 := by omega
      have q1 : mix2 < 2147483647 := by omega
      refine ⟨_, rfl, d, [.ref c, .int mix2], 1, .int mix2, rfl, rfl, SqL.of at2, rfl, ?_⟩
      refine ⟨_, _, rfl, rfl, ⟨by decide, by decide⟩, .inl ⟨_, rfl, ?_⟩⟩
      refine ⟨_, rfl, _, _, rfl, rfl, b0, ?_⟩
      refine k _ _ (Int.emod_nonneg _ (by omega)) (Int.emod_lt_of_pos _ b0) ⟨[], mix2, at2, ?_, short, nn, q0, q1⟩ ?_
      · show upd G2 d _ c = _
        rw [upd_ne ne.symm]
        exact h2'
      · show Same _ (off (upd G2 d _) d c)
        rw [off_d]
        exact S2
    · -- a cell
      have e : (ini ++ [z]).isEmpty = false := by simp
      rw [e]
      refine iteT ?_
      have em : (ini ++ [z]).map V.int = ini.map V.int ++ [V.int z] := by simp
      rw [em] at h2'
      have z0 : 0 ≤ z := nn z (by simp)
      refine ⟨_, rfl, d, [.ref c, .int mix], 0, .ref c, rfl, rfl, SqL.of h1', rfl, .inl ⟨rfl, _, SqL.of h2'⟩, c, _, .int z, rfl, rfl, h2', by simp, .inl ⟨_, rfl, ?_⟩⟩
      rw [List.dropLast_concat]
      refine ⟨_, rfl, d, [.ref c, .int mix], 0, .ref c, rfl, rfl, SqL.of ((upd_ne ne).trans h1'), rfl, .inl ⟨rfl, _, SqL.of upd_same⟩, ?_⟩
      refine ⟨_, rfl, _, rfl, _, _, rfl, rfl, ?_, c, _, _, rfl, rfl, upd_same, ?_, ?_⟩
      · exact wide_div b0 (b := 300) (by omega) (by decide) (by decide)
      · rw [List.length_map, sizeLine_eq]
        simp at short
        omega
      refine ⟨_, rfl, _, rfl, _, _, rfl, rfl, b0, ?_⟩
      refine k _ _ (Int.emod_nonneg _ (by omega)) (Int.emod_lt_of_pos _ b0) ⟨ini ++ [z / bound], mix, ?_, ?_, ?_, ?_, m0, m1⟩ ?_
      · rw [upd_ne ne, upd_ne ne]
        exact h1'
      · rw [upd_same]
        simp
      · simpa using short
      · intro y hy
        rcases List.mem_append.mp hy with h | h
        · exact nn y (List.mem_append_left _ h)
        · simp at h
          rw [h]
          exact Int.ediv_nonneg z0 (by omega)
      · rw [off_c, off_c]
        exact S2
  · -- a turn
    rintro σ H' ⟨rfl, D', S'⟩ Y Z hY hZ
    obtain ⟨cs, mix, h1, h2, short, nn, m0, m1⟩ := D'.ex
    refine ⟨_, rfl, d, [.ref c, .int mix], 0, .ref c, rfl, rfl, SqL.of h1, rfl, ?_⟩
    refine ⟨Nat.zero_le _, fun l hl => ?_⟩
    have Sl : Same H' (upd H' l (.lst [])) := new_same hl
    have D2 : Deal (upd H' l (.lst [])) d c := D'.same Sl
    have S2 : Same (off H d c) (off (upd H' l (.lst [])) d c) := S'.trans (off_mono Sl)
    have h1' := Sl _ _ h1
    have h2' := Sl _ _ h2
    have len2 : left c H' = cs.length := by
      unfold left
      rw [h2]
      simp
    refine ⟨.list (cs.map PyData.int), .list [], .lst (SqL.of h2') (ints_dp cs), .lst (SqL.of upd_same) .nil, ints_shaped cs, rfl, _, rfl, ?_⟩
    rw [ints_eqv]
    generalize upd H' l (.lst []) = G at *
    rcases nil_or_last cs with rfl | ⟨ini, z, rfl⟩
    · refine iteF (iteF ?_)
      exact hZ _ ⟨rfl, D2, S2⟩
    · have e : (ini ++ [z]).isEmpty = false := by simp
      rw [e]
      refine iteT ?_
      have em : (ini ++ [z]).map V.int = ini.map V.int ++ [V.int z] := by simp
      rw [em] at h2'
      refine ⟨_, rfl, d, [.ref c, .int mix], 0, .ref c, rfl, rfl, SqL.of h1', rfl, 1, rfl, c, ini.map V.int ++ [V.int z], -1, .int z, rfl, rfl, SqL.of h2', atI_last _ _, rfl, _, rfl, ?_⟩
      refine ite2 (fun hz => ?_) (fun hz => ?_)
      · refine hY _ ?_
        refine ⟨_, rfl, d, [.ref c, .int mix], 0, .ref c, rfl, rfl, SqL.of h1', rfl, .inl ⟨rfl, _, SqL.of h2'⟩, c, _, .int z, rfl, rfl, h2', by simp, ?_⟩
        have ne := D2.ne
        refine ⟨⟨rfl, ⟨ini, mix, ?_, ?_, ?_, fun y hy => nn y (List.mem_append_left _ hy), m0, m1⟩, ?_⟩, ?_⟩
        · rw [upd_ne ne]
          exact h1'
        · rw [upd_same, List.dropLast_concat]
        · simp at short
          omega
        · rw [off_c]
          exact S2
        · rw [len2]
          unfold left
          rw [upd_same, List.dropLast_concat]
          simp
      · exact hZ _ ⟨rfl, D2, S2⟩
end
section
variable {P : Program} {w : World} {K : PySem.W.Frag} {mg : Str → Option Value} {base : Heap} {C_Form C_Sheets C_Tally C_InvalidSize C_Refused C_BlankError C_InvalidSheets a_ZERO a_ONE : Addr}
theorem scOf : FnScope ["deal", "some"] ["deal", "some"] (defScope s_of) := ⟨rfl, rfl, rfl, by decide +kernel, rfl, by decide +kernel, by decide +kernel⟩
theorem okf_of {f fA : Addr} {fd fdA : FuncData} (F : Fun K "_law_of" "_law_of" s_of f fd) (GA : FnOk P w K mg base CX0 1 fA fdA ["deal", "bound"] spAny) (mA : mg "_law_any" = some (.ref fA)) (kA : PySem.W.keepIn K (.ref fA) = true) (bA : Binds K fdA ["deal", "bound"] [])
    (noLen : mg "len" = none) : FnOk P w K mg base CX0 2 f fd ["deal", "some"] (spOf K) := by
  refine F.ok scOf (fun vs H Q E h => ?_) (fun cdv A outer s H vs Q E hr h => ?_)
  · obtain ⟨d, c, x, rfl, _⟩ := h
    rfl
  obtain ⟨d, c, x, rfl, D, k⟩ := h
  refine ⟨_, pss_one (ps_ret (pe_ix ix_seq (pv 1) (pe_call GA hr rfl mA kA bA .nil pass0 (pa_cons (pv 0) (pa_cons (pe_callB call_len (by rfl) noLen (by decide +kernel) (pa_cons (pv 1) pa_nil)) pa_nil))) (fun _ _ => rfl))), ?_⟩
  rcases k with ⟨p, xs, rfl, hs, ne, few, k⟩ | ⟨p, xs, rfl, hs, ne, few, k⟩ | ⟨z, rfl, ne, few, k⟩
  · have pos : 0 < xs.length := List.length_pos_iff.mpr ne
    refine ⟨_, rfl, _, rfl, _, rfl, _, xs.length, rfl, .inl ⟨xs, (off_le H d c).seq hs, rfl⟩, d, c, xs.length, rfl, D, by omega, by omega, fun r H' r0 r1 D' S' => ?_⟩
    obtain ⟨v, hv, at_⟩ := item_at r0 r1
    exact .inl ⟨p, xs, r, v, rfl, rfl, (off_le H' d c).seq (S'.seq hs), at_, k v H' hv D' S'⟩
  · have pos : 0 < xs.length := List.length_pos_iff.mpr ne
    refine ⟨_, rfl, _, rfl, _, rfl, _, xs.length, rfl, .inr ⟨xs, seqT (off_le H d c) hs, rfl⟩, d, c, xs.length, rfl, D, by omega, by omega, fun r H' r0 r1 D' S' => ?_⟩
    obtain ⟨v, hv, at_⟩ := item_at r0 r1
    exact .inr (.inl ⟨p, xs, r, v, rfl, rfl, seqT (off_le H' d c) (seqT S' hs), at_, k v H' hv D' S'⟩)
  · have line := sizeLine_eq
    refine ⟨_, rfl, _, rfl, _, rfl, _, z.length, rfl, ⟨by omega, rfl⟩, d, c, z.length, rfl, D, by omega, by omega, fun r H' r0 r1 D' S' => ?_⟩
    obtain ⟨j, rfl⟩ := Int.eq_ofNat_of_zero_le r0
    have hj : j < z.cps.toList.length := by
      have e : z.cps.toList.length = z.length := by simp [Str.length]
      omega
    exact .inr (.inr ⟨z, (j : Int), z.cps.toList[j], rfl, rfl, by omega, atI_nat (List.getElem?_eq_getElem hj), k _ H' (List.getElem_mem hj) D' S'⟩)

/-- _law_source(script): a new deal -/
def spSource (K : PySem.W.Frag) : Sp := fun vs H Q _ => ∃ (a : Addr) (ns : List Int), vs = [.ref a] ∧ SqL K H a (ns.map V.int) ∧ ns.length ≤ 63 ∧
  ∀ (d c : Addr) (H' : Hp), H d = none → H c = none → Deal H' d c → Same H H' → Q (.ref d) H'
theorem scSource : FnScope ["script", "cells", "blend", "cell"] ["script"] (defScope s_source) := ⟨rfl, rfl, rfl, by decide +kernel, rfl, by decide +kernel, by decide +kernel⟩
theorem okf_source {f : Addr} {fd : FuncData} (F : Fun K "_law_source" "_law_source" s_source f fd) (noInt : mg "int" = none) (noAbs : mg "abs" = none) : FnOk P w K mg base CX0 1 f fd ["script"] (spSource K) := by
  refine F.ok scSource (fun vs H Q E h => ?_) (fun cdv A outer s H vs Q E hr h => ?_)
  · obtain ⟨a, ns, rfl, _⟩ := h
    rfl
  obtain ⟨a, ns, rfl, hs, few, k⟩ := h
  refine ⟨_, pss_cons (ps_setLc (i := 1) (own := [("cell", 3)]) (g := gName 3) (tt := tYes) rfl scSource.nd rfl rfl (sw_true rfl rfl rfl (by decide +kernel)) (pi_list (pe_slice sl_list (pv 0) po_none (po_some pe_int)))
      (blkOk_by (own := [("cell", 3)]) (N := ["script", "cells", "blend", "cell"]) (sc := defScope s_source) (by decide +kernel)) (fun _ _ _ _ _ => pg_name (i := 3) scSource.nd rfl (Or.inl rfl)) (fun _ _ _ _ _ => pts_nil)
      (fun _ _ _ _ _ => pe_callB call_abs (by rfl) noAbs (by decide +kernel) (pa_cons (pe_callTy call_int1 (by rfl) noInt (by decide +kernel) (pa_cons (pv 3) pa_nil)) pa_nil)))
    (pss_cons (ps_set (i := 2) scSource.nd rfl (Or.inl rfl) pe_int)
    (pss_cons (ps_for PassesOwn.never rfl (pi_list (pv 1)) (pg_name (i := 3) scSource.nd rfl (Or.inl rfl))
      (pss_one (ps_set (i := 2) scSource.nd rfl (Or.inl rfl) (pe_op op_mod (pe_callTy call_int1 (by rfl) noInt (by decide +kernel) (pa_cons (pe_op op_add (pe_op op_add (pe_op op_mul (pv 2) pe_int) (pe_op op_mod (pv 3) pe_int)) pe_int) pa_nil)) pe_int))))
    (pss_one (ps_ret (pe_lst (pa_cons (pe_revL (pe_lc (own := [("cell", 3)]) (g := gName 3) rfl scSource.nd (pi_list (pv 1))
      (blkOk_by (own := [("cell", 3)]) (N := ["script", "cells", "blend", "cell"]) (sc := defScope s_source) (by decide +kernel)) (fun _ _ _ _ _ => pg_name (i := 3) scSource.nd rfl (Or.inl rfl))
      (fun _ _ _ _ _ => pts_one (pt_cmpR op_ge (pv 3) (pe_op op_pow pe_int pe_int) (nomark _))) (fun _ _ _ _ _ => pv 3))) (pa_cons (pv 2) pa_nil))))))), ?_⟩
  -- the slice
  refine ⟨_, rfl, 63, rfl, a, ns.map V.int, rfl, hs, fun p hp => ?_⟩
  obtain ⟨ms, em, fewM⟩ : ∃ ms : List Int, cutV (ns.map V.int) none (some 63) = ms.map V.int ∧ ms.length ≤ 63 := by
    refine ⟨(ns.drop (HT.sIx (ns.map V.int).length 0 none)).take (HT.sIx (ns.map V.int).length (ns.map V.int).length (some 63) - HT.sIx (ns.map V.int).length 0 none), ?_, ?_⟩
    · unfold cutV
      rw [List.map_take, List.map_drop]
    · rw [List.length_take, List.length_drop]
      omega
  rw [em]
  have Sp : Same H (upd H p (.lst (ms.map V.int))) := new_same hp
  have atp : upd H p (.lst (ms.map V.int)) p = some (.lst (ms.map V.int)) := upd_same
  generalize upd H p (.lst (ms.map V.int)) = H1 at *
  refine ⟨p, rfl, ⟨_, SqL.of atp⟩, fun D hD => ?_⟩
  -- the cells
  refine lc_list (K := K) (a := p) (xs := ms.map V.int) (fun i G => ∃ acc : List Int, G D = some (.lst (acc.map V.int)) ∧ acc.length = i ∧ (∀ z ∈ acc, 0 ≤ z) ∧ Same H1 G)
    ⟨[], upd_same, rfl, (fun z hz => nomatch hz), new_same hD⟩ (fun i G _ ⟨_, _, _, _, sg⟩ => sg.seq (SqL.of atp)) ?_ ?_
  · rintro i x G hx ⟨acc, hG, hi, hnn, sg⟩
    have hi' : i < ms.length := by
      have := (List.getElem?_eq_some_iff.mp hx).1
      simpa using this
    obtain ⟨z, rfl⟩ : ∃ z, x = V.int z := by
      rw [List.getElem?_map] at hx
      obtain ⟨z, _, e⟩ := Option.map_eq_some_iff.mp hx
      exact ⟨z, e.symm⟩
    refine ⟨rfl, ?_⟩
    refine ⟨_, rfl, .inl ⟨z, rfl, z, rfl, acc.map V.int, hG, ?_, acc ++ [if z < 0 then -z else z], ?_, ?_, ?_, ?_⟩⟩
    · rw [List.length_map, sizeLine_eq]
      omega
    · rw [upd_same]
      simp
    · simp [hi]
    · intro y hy
      rcases List.mem_append.mp hy with q | q
      · exact hnn y q
      · simp at q
        rw [q]
        split <;> omega
    · intro b' o e
      rw [upd_ne (ne_of_none e hD)]
      exact sg b' o e
  rintro G ⟨acc, hG, hi, hnn, sg⟩
  rw [List.length_map] at hi
  -- the first number
  refine ⟨_, rfl, D, rfl, ⟨_, SqL.of hG⟩, for_list (K := K) (a := D) (xs := acc.map V.int) (fun i σ G' => ∃ (mix : Int) (v : Option V), σ = [some (.ref a), some (.ref D), some (.int mix), v] ∧ 0 ≤ mix ∧ mix < 2147483647 ∧ G' = G)
    ⟨_, none, rfl, by omega, by omega, rfl⟩ (fun i σ G' _ ⟨_, _, _, _, _, e⟩ => by rw [e]; exact SqL.of hG) ?_ ?_⟩
  · rintro i y σ G' hy ⟨mix, v, rfl, q0, q1, rfl⟩
    obtain ⟨z, rfl⟩ : ∃ z, y = V.int z := by
      rw [List.getElem?_map] at hy
      obtain ⟨z, _, e⟩ := Option.map_eq_some_iff.mp hy
      exact ⟨z, e.symm⟩
    refine ⟨_, rfl, _, _, rfl, rfl, .inl ⟨by omega, by omega⟩, _, rfl, _, _, rfl, rfl, (by show (0 : Int) < 2147483549; decide), _, _, rfl, rfl, _, _, rfl, rfl, .inl ⟨_, rfl, ?_⟩⟩
    refine ⟨_, _, rfl, rfl, (by show (0 : Int) < 2147483647; decide), ?_⟩
    exact ⟨_, _, rfl, Int.emod_nonneg _ (by decide), Int.emod_lt_of_pos _ (by decide), rfl⟩
  rintro σ G' ⟨mix, v, rfl, q0, q1, rfl⟩
  -- the great cells, turned
  refine ⟨_, rfl, D, rfl, ⟨_, SqL.of hG⟩, fun D2 hD2 => ?_⟩
  refine lc_list (K := K) (a := D) (xs := acc.map V.int) (fun i G2 => ∃ big : List Int, G2 D2 = some (.lst (big.map V.int)) ∧ big.length ≤ i ∧ (∀ z ∈ big, 0 ≤ z) ∧ Same G' G2)
    ⟨[], upd_same, Nat.le_refl _, (fun z hz => nomatch hz), new_same hD2⟩ (fun i G2 _ ⟨_, _, _, _, s2⟩ => s2.seq (SqL.of hG)) ?_ ?_
  · rintro i x G2 hx ⟨big, hB, hl, hbn, s2⟩
    have hx2 := hx
    have hi' : i < acc.length := by
      have := (List.getElem?_eq_some_iff.mp hx).1
      simpa using this
    obtain ⟨z, hz, rfl⟩ : ∃ z, z ∈ acc ∧ x = V.int z := by
      rw [List.getElem?_map] at hx
      obtain ⟨z, hz, e⟩ := Option.map_eq_some_iff.mp hx
      exact ⟨z, List.mem_of_getElem? hz, e.symm⟩
    refine ⟨rfl, _, rfl, _, _, rfl, rfl, ⟨by decide, by decide, by decide⟩, _, _, rfl, rfl, _, rfl, ?_⟩
    refine ite2 (fun _ => ?_) (fun _ => ?_)
    · refine ⟨_, rfl, big.map V.int, hB, ?_, big ++ [z], ?_, ?_, ?_, ?_⟩
      · rw [List.length_map, sizeLine_eq]
        omega
      · rw [upd_same]
        simp
      · simp
        omega
      · intro y hy
        rcases List.mem_append.mp hy with q | q
        · exact hbn y q
        · simp at q
          rw [q]
          exact hnn z hz
      · intro b' o e
        rw [upd_ne (ne_of_none e hD2)]
        exact s2 b' o e
    · exact ⟨big, hB, by omega, hbn, s2⟩
  rintro G2 ⟨big, hB, hl, hbn, s2⟩
  rw [List.length_map] at hl
  refine ⟨D2, _, rfl, SqL.of hB, fun c hc => ?_⟩
  have Sc : Same G2 (upd G2 c (.lst (big.map V.int).reverse)) := new_same hc
  have atc : upd G2 c (.lst (big.map V.int).reverse) c = some (.lst (big.reverse.map V.int)) := by rw [upd_same, List.map_reverse]
  generalize upd G2 c (.lst (big.map V.int).reverse) = G3 at *
  refine ⟨_, rfl, (by show 2 ≤ sizeLine; decide), fun d hd => ?_⟩
  have S3 : Same H G3 := ((Sp.trans sg).trans s2).trans Sc
  have S4 : Same G3 (upd G3 d (.lst [.ref c, .int mix])) := new_same hd
  refine k d c _ (S3.free hd) (((Sp.trans sg).trans s2).free hc) ⟨big.reverse, mix, upd_same, S4 _ _ atc, ?_, ?_, q0, q1⟩ (S3.trans S4)
  · simp
    omega
  · intro z hz
    exact hbn z (List.mem_reverse.mp hz)
end
section
variable {P : Program} {w : World} {K : PySem.W.Frag} {mg : Str → Option Value} {base : Heap} {C_Form C_Sheets C_Tally C_InvalidSize C_Refused C_BlankError C_InvalidSheets a_ZERO a_ONE : Addr}
theorem ok_any (D : Def K mg "_law_any" s_any ["deal", "bound"]) (n_int : mg "int" = none) : Cal P w K mg base CX0 1 "_law_any" s_any ["deal", "bound"] spAny := by
  obtain ⟨f, fd, F, m, b, o⟩ := D
  exact ⟨f, fd, okf_any F n_int, m, F.kp, b, o⟩
theorem ok_of (D : Def K mg "_law_of" s_of ["deal", "some"]) (A : Cal P w K mg base CX0 1 "_law_any" s_any ["deal", "bound"] spAny) (n_len : mg "len" = none) : Cal P w K mg base CX0 2 "_law_of" s_of ["deal", "some"] (spOf K) := by
  obtain ⟨f, fd, F, m, b, o⟩ := D
  obtain ⟨fA, fdA, GA, mA, kA, bA, _⟩ := A
  exact ⟨f, fd, okf_of F GA mA kA bA n_len, m, F.kp, b, o⟩
theorem ok_source (D : Def K mg "_law_source" s_source ["script"]) (n_int : mg "int" = none) (n_abs : mg "abs" = none) : Cal P w K mg base CX0 1 "_law_source" s_source ["script"] (spSource K) := by
  obtain ⟨f, fd, F, m, b, o⟩ := D
  exact ⟨f, fd, okf_source F n_int n_abs, m, F.kp, b, o⟩
end
end K33

set_option Elab.async false
set_option linter.all false
set_option maxRecDepth 100000
set_option maxHeartbeats 4000000
/-! K33f: drawn names, forms, rows. -/
namespace K33
open PySem PySem.Spec PyProof.Rows L2 Wb Wv Fm Ta Wf Fq
theorem grown_rows (rows : List (List Int)) (vals : List Int) : (rows.flatMap fun a => vals.map fun v => rowD (a ++ [v])) = (grow1 rows vals).map rowD := by
  unfold grow1
  rw [List.map_flatMap]
  congr 1
  funext a
  rw [List.map_map]
  rfl
def Small (qs : Qs) : Prop := qs.length ≤ 4 ∧ ∀ q ∈ qs, q.2 ≤ 4
abbrev sp_lrows (K : PySem.W.Frag) : Sp := Pf (α := Qs × Int) (fun a => [dat K (qsD a.1), dat K (.int a.2)]) (fun a => Small a.1 ∧ -1 ≤ a.2 ∧ a.2 ≤ 0) (fun a => dat K (rowsL (grow (a.1.map fun q => rng a.2 ((q.2 : Int) - a.2).toNat))))
def strR (P : Str → Prop) : Rel := fun _ v => ∃ z, P z ∧ v = .str z
abbrev sp_lname (K : PySem.W.Frag) : Sp := DPf (α := Unit) (fun _ => []) (fun _ => True) (fun _ => strR (Nmk 17))
theorem strs_vals {K : PySem.W.Frag} {B : Hp} : ∀ {zs : List Str} {xs : List V}, AllR ((zs.map PyData.str).map (dat K)) B xs → xs = zs.map V.str
  | [], _, h => h
  | z :: zs, _, h => by
    obtain ⟨v, r, rfl, h1, h2⟩ := h
    rw [dat_str h1, strs_vals h2]
    rfl
def NmsOk (n : Nat) (zs : List Str) : Prop := zs.length = n ∧ zs.Nodup ∧ ∀ z ∈ zs, Nmk 17 z
def namesR (K : PySem.W.Frag) (n : Nat) : Rel := fun B v => ∃ zs, NmsOk n zs ∧ dat K (.list (zs.map .str)) B v
abbrev sp_lnames (K : PySem.W.Frag) : Sp := DPf (α := Nat) (fun n => [dat K (.int (n : Int))]) (fun n => n ≤ 8) (namesR K)
structure FOk (qs : Qs) : Prop where
  pos : 1 ≤ qs.length
  few : qs.length ≤ 3
  two : ∀ q ∈ qs, 2 ≤ q.2 ∧ q.2 ≤ 3
  nm : ∀ z ∈ Fm.names qs, Nmk 17 z
def NsOk (ds : List PyData) : Prop := ∃ zs : List Str, ds = zs.map .str ∧ 1 ≤ zs.length ∧ zs.length ≤ 3 ∧ ∀ z ∈ zs, Nmk 17 z
def QsP (ds : List PyData) : Prop := ∃ qs : Qs, ds = qs.map encQ ∧ FOk qs
abbrev sp_lform (K : PySem.W.Frag) : Sp := DPf (α := Unit) (fun _ => [dat K (.int 3)]) (fun _ => True) (fun _ => datP K (tupOf QsP))
theorem mkQ : ∀ {zs : List Str} {ds : List PyData}, Each (fun z x => ∃ m : Nat, x = encQ (z, m) ∧ 2 ≤ m ∧ m ≤ 3) zs ds → ∃ qs : Qs, ds = qs.map encQ ∧ Fm.names qs = zs ∧ ∀ q ∈ qs, 2 ≤ q.2 ∧ q.2 ≤ 3 := by
  intro zs
  induction zs with
  | nil =>
    intro ds h
    have : ds = [] := List.eq_nil_of_length_eq_zero h.1
    subst this
    exact ⟨[], rfl, rfl, fun q h => nomatch h⟩
  | cons z zs ih =>
    intro ds h
    cases ds with
    | nil => cases h.1
    | cons y ds =>
      obtain ⟨m, hy, hm⟩ := h.2 0 z y rfl rfl
      obtain ⟨qs, e1, e2, e3⟩ := ih (ds := ds) ⟨Nat.succ.inj h.1, fun i a x ha hx => h.2 (i + 1) a x (by simpa using ha) (by simpa using hx)⟩
      refine ⟨(z, m) :: qs, by rw [hy, e1]; rfl, by unfold Fm.names at *; rw [List.map_cons, e2], fun q hq => ?_⟩
      rcases List.mem_cons.mp hq with rfl | hq
      · exact hm
      · exact e3 q hq
theorem mkQs {zs : List Str} {ds : List PyData} (h : Each (fun z x => ∃ m : Nat, x = encQ (z, m) ∧ 2 ≤ m ∧ m ≤ 3) zs ds) (z1 : 1 ≤ zs.length) (z3 : zs.length ≤ 3) (hz : ∀ z ∈ zs, Nmk 17 z) : QsP ds := by
  obtain ⟨qs, e, en, hq⟩ := mkQ h
  have ln : qs.length = zs.length := by
    rw [← en]
    unfold Fm.names
    rw [List.length_map]
  exact ⟨qs, e, by omega, by omega, hq, by rw [en]; exact hz⟩
theorem Dw.lcL {K : PySem.W.Frag} {σ : L2.St} {B : Hp} {d c : Addr} {tl te : TE} {g : TG} {vs : List Nat} {P0 : List PyData → Prop} {S : Rel} (h : Dw tl σ d c B (datP K (listOf P0))) (k : ∀ a ds B', P0 ds → Same B B' → dat K (.list ds) B' (.ref a) → Dw (tLc (fun _ H R => R (Itl K a) H) g tYes te vs) σ d c B' S) :
    Dw (tLc (iList K tl) g tYes te vs) σ d c B S := fun B1 H s L Q q =>
  h B1 H s L _ fun v B2 H2 e ⟨x, ⟨ds, hx, hp⟩, hv⟩ => by
    subst hx
    have hv' := hv
    obtain ⟨a, xs, rfl, hs, hR⟩ := dat_lstR hv'
    exact ⟨a, rfl, ⟨xs, e.bh.seq hs⟩, k a ds B2 hp (s.trans e.bb) hv B2 H2 (Same.refl _) e.dl Q fun v B3 H3 e3 h3 => q v B3 H3 (e.trans L e3) h3⟩
/-- thrice a sign -/
def thrice : List Str := (Str.ofString "abcdefghij").cps.toList.map fun c => mulS ⟨#[c]⟩ 3
theorem thrice_nodup : thrice.Nodup := by decide +kernel
theorem thrice_nm : ∀ z ∈ thrice, Nmk 17 z := by
  have : ∀ z ∈ thrice, z.length ≤ 17 ∧ ∀ c ∈ z.cps.toList, c < 128 := by decide +kernel
  exact this
theorem spare_ne {zs : List Str} (h : zs.length < 10) : thrice.filter (fun z => !decide (z ∈ zs)) ≠ [] := by
  intro e
  have all : ∀ z ∈ thrice, z ∈ zs := fun z hz => by
    have := List.filter_eq_nil_iff.mp e z hz
    simpa using this
  have := nodup_len thrice_nodup all
  have l : thrice.length = 10 := by decide +kernel
  omega
theorem sortD_strs (zs : List Str) : ∃ ys : List Str, ys.Perm zs ∧ sortD (zs.map .str) = ys.map .str := by
  refine ⟨zs.mergeSort fun a b => dle (.str a) (.str b), List.mergeSort_perm _ _, ?_⟩
  unfold sortD
  rw [List.map_mergeSort (s := dle) (f := PyData.str) (fun a _ b _ => rfl)]
theorem alike_str (zs : List Str) : PySem.W.AllAlike (zs.map .str) := by
  intro d hd d' hd'
  obtain ⟨a, _, rfl⟩ := List.mem_map.mp hd
  obtain ⟨b, _, rfl⟩ := List.mem_map.mp hd'
  simp only [PySem.W.alike]
theorem sortok_str (zs : List Str) : PySem.W.SortOk (zs.map .str) := .inr fun d hd => by
  obtain ⟨a, _, rfl⟩ := List.mem_map.mp hd
  exact ⟨(fun z => nomatch z), (fun _ z => nomatch z)⟩
theorem depth_str (zs : List Str) : ∀ d ∈ zs.map PyData.str, d.depth ≤ 60 := fun d hd => by
  obtain ⟨a, _, rfl⟩ := List.mem_map.mp hd
  simp [PyData.depth]
theorem strs_dpAll {K : PySem.W.Frag} {H : Hp} : ∀ zs : List Str, DpAll K H (zs.map V.str) (zs.map PyData.str)
  | [] => .nil
  | z :: zs => .cons (.str z) (strs_dpAll zs)
section
variable {P : Program} {w : World} {K : PySem.W.Frag} {mg : Str → Option Value} {base : Heap} {C_Form C_Sheets C_Tally C_InvalidSize C_Refused C_BlankError C_InvalidSheets a_ZERO a_ONE : Addr}
theorem sc_lname : FnScope ["deal", "letters", "stem", "at", "turn"] ["deal"] (defScope s_lname) := ⟨rfl, rfl, rfl, by decide +kernel, rfl, by decide +kernel, by decide +kernel⟩
theorem ok_lname (D : Def K mg "_law_name" s_lname ["deal"]) (C_any : Cal P w K mg base CX0 1 "_law_any" s_any ["deal", "bound"] spAny) (C_of : Cal P w K mg base CX0 2 "_law_of" s_of ["deal", "some"] (spOf K)) (n_range : mg "range" = none) : Cal P w K mg base CX0 3 "_law_name" s_lname ["deal"] (sp_lname K) := by
  refine D.ok sc_lname (fun vs H Q E h => ?_) (fun cdv f A outer s H vs Q E hr h => ?_)
  · exact dpf_len h fun _ => rfl
  replace h := dpf0 h
  obtain ⟨d, c, B, _, rfl, L, _, k⟩ := h
  refine ⟨_, (pss_cons (ps_set (i := 1) sc_lname.nd rfl (Or.inr rfl) pe_str)
    (pss_cons (ps_if (pt_cmpR op_eq (pe_cal C_any (hr.mono (by decide)) (by rfl) pass0 (pa_cons (pv 0) (pa_cons pe_int pa_nil))) pe_int (nomark _)) (pss_cons (ps_par (i := 2) (j := 3) rfl sc_lname.nd rfl rfl (by decide) rfl rfl (pa_cons (pe_cal C_of (hr.mono (by decide)) (by rfl) pass0 (pa_cons (pv 0) (pa_cons (pe_lst (pa_cons pe_str (pa_cons pe_str (pa_cons pe_str (pa_cons pe_str pa_nil))))) pa_nil))) (pa_cons (pe_cal C_any (hr.mono (by decide)) (by rfl) pass0 (pa_cons (pv 0) (pa_cons pe_int pa_nil))) pa_nil)) (by rfl))
      (pss_one (ps_ret (pe_op op_add_str (pe_op op_add_str (pe_slice sl_str (pv 2) po_none (po_some (pv 3))) (pe_cal C_of (hr.mono (by decide)) (by rfl) pass0 (pa_cons (pv 0) (pa_cons (pv 1) pa_nil)))) (pe_slice sl_str (pv 2) (po_some (pe_op op_add (pv 3) pe_int)) po_none))))) pss_nil)
    (pss_one (ps_ret (pe_join pe_str (pe_lc (own := [("turn", 4)]) (g := gName 4) (tt := tYes) rfl sc_lname.nd (pi_range1 rfl n_range (pa_cons (pe_op op_add pe_int (pe_cal C_any (hr.mono (by decide)) (by rfl) pass0 (pa_cons (pv 0) (pa_cons pe_int pa_nil)))) pa_nil)) (blkOk_by (own := [("turn", 4)]) (N := ["deal", "letters", "stem", "at", "turn"]) (sc := defScope s_lname) (by decide +kernel)) (fun _ _ _ _ _ => (pg_name (i := 4) sc_lname.nd rfl (Or.inl rfl))) (fun _ _ _ _ _ => pts_nil) (fun _ _ _ _ _ => (pe_cal C_of (hr.mono (by decide)) (by rfl) pass0 (pa_cons (pv 0) (pa_cons (pv 1) pa_nil)))))))))), ?_⟩
  refine s_set (De.str (K := K)) L.bh fun v1 B1 H1 e1 h1 => ?_
  have h1 := dat_str h1
  subst h1
  have eA := ExtD.of L e1
  refine s_ifSR (t_any0 (K := K) eA.dl rfl .int (by decide) (by decide) fun b B2 H2 e2 => ?_)
  have e12 := eA.trans L e2
  refine ite2 (fun _ => ?_) (fun _ => ?_)
  · refine s_parR (c_ofL (K := K) e12.dl rfl (De.lstD (.cons .str (.cons .str (.cons .str (.cons .str .nil)))) (by show 4 ≤ sizeLine; decide)) (by simp) (by show 4 ≤ 1000; decide) fun x v B3 H3 hx e3 hv => c_any (K := K) e3.dl rfl .int (by decide) (by decide) fun r B4 H4 r0 r1 e4 => ?_)
    obtain ⟨z, rfl, hz⟩ : ∃ z : Str, x = .str z ∧ Nmk 8 z := by
      simp only [List.mem_cons, List.not_mem_nil, or_false] at hx
      rcases hx with rfl | rfl | rfl | rfl <;> exact ⟨_, rfl, by decide +kernel, by decide +kernel⟩
    have hv := dat_str hv
    subst hv
    have zs : z.length ≤ sizeLine := by rw [sizeLine_eq]; have := hz.1; omega
    refine s_retR (r_op (r_op (d_ev e4.dl (De.slS (K := K) (.var (Dp.str _) rfl) .none (.some (K := K) (.var (Dp.int _) rfl)) zs) fun x5 B5 H5 e5 h5 => c_ofS (K := K) e5.dl rfl (.var (Dp.str _) rfl) (by decide +kernel) (by decide +kernel) fun a B6 H6 ha e6 => ⟨_, _, dat_str h5, rfl, ?_, d_ev e6.dl (De.slS (K := K) (.var (Dp.str _) rfl) (.some (K := K) (.op (.var (Dp.int _) rfl) .int Rv.I0)) .none zs) fun x7 B7 H7 e7 h7 => ⟨_, _, rfl, dat_str h7, ?_, k _ B7 H7 ((((e12.trans L e3).trans L e4).trans L e5).trans L (e6.trans e5.dl e7)) ⟨_, ?_, rfl⟩⟩⟩)))
    all_goals have la : a < 128 := (show ∀ a ∈ (Str.ofString "abcdefghijklmnopqrstuvwxyz").cps.toList, a < 128 by decide +kernel) a ha
    · have := (hz.cut (lo := none) (hi := some r)).1
      rw [sizeLine_eq]
      show _ + 1 ≤ _
      omega
    · have := ((hz.cut (lo := none) (hi := some r)).app (Nmk.one la)).1
      have := (hz.cut (lo := some (r + 1)) (hi := none)).1
      rw [sizeLine_eq]
      omega
    · exact ((hz.cut.app (Nmk.one la)).app hz.cut).mono (by decide)
  · dsimp only [tRet]
    refine ⟨⟨_, rfl⟩, ?_⟩
    refine c_lcAny (K := K) e12.dl rfl .int (by decide) (by decide) (by decide) (by decide) fun r B3 H3 r0 r1 e3 => ?_
    have e13 := e12.trans L e3
    refine c_lcD (K := K) (as := List.range (1 + r).toNat) (wi := fun _ H R => R (Itr 0 (1 + r).toNat) H) e13.dl (Di.itr (K := K)) (by rw [List.length_range, sizeLine_eq]; omega) (fun i out => ∃ zs : List Str, out = zs.map .str ∧ zs.length = i ∧ ∀ z ∈ zs, Nmk 1 z) ⟨[], rfl, rfl, fun z h => nomatch h⟩ (fun i a v B5 H5 out ha L5 s5 hv ⟨zs, ho, hl, hz⟩ Y N hY hN => ⟨rfl, ?_⟩) fun out v B6 H6 e6 ⟨zs, ho, hl, hz⟩ hv => ?_
    · refine c_ofS (K := K) L5 rfl (.var (Dp.str _) rfl) (by decide +kernel) (by decide +kernel) fun a B7 H7 ha e7 => hY _ B7 H7 (.str ⟨#[a]⟩) e7 (Dp.str _) ⟨zs ++ [⟨#[a]⟩], by rw [ho]; simp, by simp [hl], fun z hz' => ?_⟩
      have la : a < 128 := (show ∀ a ∈ (Str.ofString "abcdefghijklmnopqrstuvwxyz").cps.toList, a < 128 by decide +kernel) a ha
      rcases List.mem_append.mp hz' with h | h
      · exact hz z h
      · rw [List.mem_singleton.mp h]
        exact Nmk.one la
    · subst ho
      rw [List.length_range] at hl
      obtain ⟨p, xs, rfl, hs, hR⟩ := dat_lstR hv
      have ex : xs = zs.map V.str := strs_vals hR
      subst ex
      have short : zs.length ≤ 8 := by omega
      have sum := sum_le hz
      refine ⟨_, p, zs, rfl, rfl, .inl (e6.bh.seq hs), ?_, k _ B6 H6 (e13.trans L e6) ⟨_, (join_nm ⟨Nat.le_refl _, by decide +kernel⟩ hz).mono (by omega), rfl⟩⟩
      show _ + zs.length * 0 ≤ _
      omega
theorem sc_lnames : FnScope ["deal", "many", "names", "turn", "name", "spare", "sign"] ["deal", "many"] (defScope s_lnames) := ⟨rfl, rfl, rfl, by decide +kernel, rfl, by decide +kernel, by decide +kernel⟩
theorem ok_lnames (D : Def K mg "_law_names" s_lnames ["deal", "many"]) (n_range : mg "range" = none) (C_lname : Cal P w K mg base CX0 3 "_law_name" s_lname ["deal"] (sp_lname K)) (n_sorted : mg "sorted" = none) : Cal P w K mg base CX0 4 "_law_names" s_lnames ["deal", "many"] (sp_lnames K) := by
  refine D.ok sc_lnames (fun vs H Q E h => ?_) (fun cdv f A outer s H vs Q E hr h => ?_)
  · exact dpf_len h fun _ => rfl
  replace h := dpf1 h
  obtain ⟨d, vn, c, B, n, rfl, L, hn, n8, k⟩ := h
  refine ⟨_, (pss_cons (ps_set (i := 2) sc_lnames.nd rfl (Or.inr rfl) (pe_lst pa_nil))
    (pss_cons (ps_for PassesOwn.never rfl (pi_range1 rfl n_range (pa_cons (pv 1) pa_nil)) (pg_name (i := 3) sc_lnames.nd rfl (Or.inl rfl)) (pss_cons (ps_set (i := 4) sc_lnames.nd rfl (Or.inl rfl) (pe_cal C_lname (hr.mono (by decide)) (by rfl) pass0 (pa_cons (pv 0) pa_nil)))
      (pss_cons (ps_setLc (i := 5) (own := [("sign", 6)]) (g := gName 6) rfl sc_lnames.nd rfl rfl (sw_true rfl rfl rfl (by decide +kernel)) (pi_str pe_str) (blkOk_by (own := [("sign", 6)]) (N := ["deal", "many", "names", "turn", "name", "spare", "sign"]) (sc := defScope s_lnames) (by decide +kernel)) (fun _ _ _ _ _ => (pg_name (i := 6) sc_lnames.nd rfl (Or.inl rfl))) (fun _ _ _ _ _ => pts_one (pt_cmpR (r := rNotInD K) (op_notInD hr.u65) (pe_op op_mulS (pv 6) pe_int) (pv 2) rfl)) (fun _ _ _ _ _ => (pe_op op_mulS (pv 6) pe_int)))
      (pss_one (ps_expr (pe_bm PySem.F.plainAttrs_list PySem.F.slot_list_append PySem.F.type_list_append mt_append (pv 2) (pa_cons (pe_ifExp (pt_cmpR (op_notInD hr.u65) (pv 4) (pv 2) rfl) (pv 4) (pe_ix ix_list (pv 5) pe_int (fun _ _ => rfl))) pa_nil)))))))
    (pss_one (ps_ret (pe_callB (cr_sortedD hr.units) (by rfl) n_sorted (by decide +kernel) (pa_cons (pv 2) pa_nil)))))), ?_⟩
  have hn := dat_int hn
  subst hn
  refine ⟨Nat.zero_le _, fun M hM => ?_⟩
  obtain ⟨m0, e0⟩ := Ml.new (xs := []) L hM
  refine s_forD L e0 (Di.rng (K := K) (n := n) (.var (Dp.int _) rfl) (by omega)) (fun i σ B' H' => ∃ v3 v4 v5 v6, σ = [some (.ref d), some (.int (n : Int)), some (.ref M), v3, v4, v5, v6] ∧ ∃ zs, Ml d c B' H' M (zs.map V.str) ∧ NmsOk i zs) (fun B1 H1 e => ⟨_, _, _, _, rfl, [], m0.ext e, rfl, List.nodup_nil, fun z h => nomatch h⟩) ?_ ?_
  · rintro B1 i R v σ' Bc Hc Bn Hn sB hR e1 s1 ⟨v3, v4, v5, v6, rfl, zs, m1, lz, nz, hz⟩ e2 hx
    have i8 : i < n := by
      have := (List.getElem?_eq_some_iff.mp hR).1
      rw [List.length_map, List.length_range] at this
      exact this
    have e12 := e1.trans L e2
    have m2 := m1.ext e2
    refine s_raw (c_def () e12.dl rfl .nil (by trivial) fun v B3 H3 e3 hv => ?_)
    obtain ⟨z, hz17, rfl⟩ := hv
    have e13 := e12.trans L e3
    have m3 := m2.ext e3
    obtain ⟨l1, l2⟩ := m3.look e13.dl
    have zs20 : ∀ z ∈ zs, Nm z := fun z h => (hz z h).mono (by decide)
    have names : dat K (.list (zs.map .str)) (upd B3 M (.lst (zs.map V.str))) (.ref M) := .lst (SqL.of upd_same) (strs_dpAll zs)
    refine s_set (De.eq (De.lcD (K := K) (as := (Str.ofString "abcdefghij").cps.toList) (r := fun c => dat K (.str ⟨#[c]⟩)) (Di.str .str) (fun c => !decide (mulS ⟨#[c]⟩ 3 ∈ zs)) (fun c => .str (mulS ⟨#[c]⟩ 3)) (by decide +kernel) fun a x Bn Hn ha sn sh hx => ⟨_, fun Q q => q, rfl, ?_, fun _ => ?_⟩) (e := .list ((thrice.filter fun z => !decide (z ∈ zs)).map .str)) ?_) l2 fun v4 B4 H4 e4 h4 => ?_
    · have a3 : Nm (mulS ⟨#[a]⟩ 3) := (thrice_nm _ (List.mem_map.mpr ⟨a, ha, rfl⟩)).mono (by decide)
      refine Dt.eq (Dt.test (De.op (r := rNotInD K) (De.op (r := rMulS) (.var hx rfl) .int Rv.mulS3) (.var (Mo.mo sn names) rfl) (Rv.notInL (shaped_str a3) (shaped_strsL zs20)))) ?_
      rw [any_strs]
    · exact De.op (r := rMulS) (.var hx rfl) .int Rv.mulS3
    · unfold thrice
      rw [List.filter_map, List.map_map]
      rfl
    have e34 := Ml.looked e13.dl e4
    have m4 := m3.ext e34
    have e14 := e13.trans L e34
    have ne := spare_ne (zs := zs) (by omega)
    have sp : ∀ z ∈ thrice.filter (fun z => !decide (z ∈ zs)), z ∉ zs ∧ Nmk 17 z := fun z h => by
      obtain ⟨h1, h2⟩ := List.mem_filter.mp h
      exact ⟨by simpa using h2, thrice_nm z h1⟩
    generalize thrice.filter (fun z => !decide (z ∈ zs)) = out at h4 ne sp
    obtain ⟨s0, r0, rfl⟩ : ∃ s0 r0, out = s0 :: r0 := by
      cases out with
      | nil => exact absurd rfl ne
      | cons a b => exact ⟨a, b, rfl⟩
    obtain ⟨sn, s17⟩ := sp s0 List.mem_cons_self
    obtain ⟨q, ws, rfl, hq, hR⟩ := dat_lstR h4
    have ew := strs_vals (zs := s0 :: r0) hR
    subst ew
    have fin : ∀ y : Str, y ∉ zs → Nmk 17 y → Nd d c B H B1 (fun σ B' H' => ∃ v3 v4 v5 v6, σ = [some (.ref d), some (.int (n : Int)), some (.ref M), v3, v4, v5, v6] ∧ ∃ zs, Ml d c B' H' M (zs.map V.str) ∧ NmsOk (i + 1) zs) [some (.ref d), some (.int (n : Int)), some (.ref M), some v, some (.str z), some (.ref q), v6] (upd H4 M (.lst (zs.map V.str ++ [.str y]))) := fun y hy h17 => by
      refine ⟨B3, e14.setL m4 hM, (s1.trans e2.bb).trans e3.bb, _, _, _, _, rfl, zs ++ [y], ?_, by simp [lz], ?_, ?_⟩
      · rw [List.map_append]
        exact (Ml.set e14.dl m4).1
      · rw [List.nodup_append]
        refine ⟨nz, by simp, fun a ha b hb => ?_⟩
        rw [List.mem_singleton.mp hb]
        rintro rfl
        exact hy ha
      · intro x hx
        rcases List.mem_append.mp hx with h | h
        · exact hz x h
        · rw [List.mem_singleton.mp h]
          exact h17
    have few : (zs.map V.str).length < sizeLine := by rw [List.length_map, lz, sizeLine_eq]; omega
    refine ⟨_, rfl, .inl ⟨rfl, _, SqL.of m4.at_⟩, _, rfl, _, rfl, .str z, zs.map .str, .str z, .lst (SqL.of m4.at_) (strs_dpAll zs), shaped_str (hz17.mono (by decide)), shaped_strsL zs20, _, rfl, ?_⟩
    rw [any_strs]
    refine ite2 (fun h => ?_) (fun h => ?_)
    · have h : z ∉ zs := by simpa using h
      exact ⟨_, rfl, M, _, .str z, rfl, rfl, m4.at_, few, fin z h hz17⟩
    · exact ⟨_, rfl, q, _, 0, .str s0, rfl, rfl, e4.bh.seq hq, atI_nat (j := 0) rfl, M, _, .str s0, rfl, rfl, m4.at_, few, fin s0 sn s17⟩
  · rintro σ' B' H' e1 s1 ⟨v3, v4, v5, v6, rfl, zs, m1, lz, nz, hz⟩
    rw [List.length_map, List.length_range] at lz
    refine ⟨_, rfl, M, zs.map V.str, zs.map .str, rfl, SqL.of m1.at_, strs_dpAll zs, alike_str zs, sortok_str zs, depth_str zs, fun p hp => ?_⟩
    obtain ⟨ys, perm, es⟩ := sortD_strs zs
    refine k _ _ _ (e1.trans L (.of e1.dl (.new e1.bh hp))) ⟨ys, ⟨by rw [perm.length_eq, lz], perm.nodup_iff.mpr nz, fun z h => hz z (perm.mem_iff.mp h)⟩, ?_⟩
    rw [← es]
    exact .lst (SqL.of upd_same) (dp_sort (strs_dpAll zs))
theorem sc_lform : FnScope ["deal", "most", "name"] ["deal", "most"] (defScope s_lform) := ⟨rfl, rfl, rfl, by decide +kernel, rfl, by decide +kernel, by decide +kernel⟩
theorem ok_lform (D : Def K mg "_law_form" s_lform ["deal", "most"]) (C_lnames : Cal P w K mg base CX0 4 "_law_names" s_lnames ["deal", "many"] (sp_lnames K)) (C_any : Cal P w K mg base CX0 1 "_law_any" s_any ["deal", "bound"] spAny) (C_of : Cal P w K mg base CX0 2 "_law_of" s_of ["deal", "some"] (spOf K)) (n_tuple : mg "tuple" = none) : Cal P w K mg base CX0 5 "_law_form" s_lform ["deal", "most"] (sp_lform K) := by
  refine D.ok sc_lform (fun vs H Q E h => ?_) (fun cdv f A outer s H vs Q E hr h => ?_)
  · exact dpf_len h fun _ => rfl
  replace h := dpf1 h
  obtain ⟨d, vn, c, B, _, rfl, L, hn, _, k⟩ := h
  refine ⟨_, (pss_one (ps_ret (pe_callTy call_tuple_of (by rfl) n_tuple (by decide +kernel) (pa_cons (pe_lc (own := [("name", 2)]) (g := gName 2) (tt := tYes) rfl sc_lform.nd (pi_list (pe_cal C_lnames (hr.mono (by decide)) (by rfl) pass0 (pa_cons (pv 0) (pa_cons (pe_op op_add pe_int (pe_cal C_any (hr.mono (by decide)) (by rfl) pass0 (pa_cons (pv 0) (pa_cons (pv 1) pa_nil)))) pa_nil)))) (blkOk_by (own := [("name", 2)]) (N := ["deal", "most", "name"]) (sc := defScope s_lform) (by decide +kernel)) (fun _ _ _ _ _ => (pg_name (i := 2) sc_lform.nd rfl (Or.inl rfl))) (fun _ _ _ _ _ => pts_nil) (fun _ _ _ _ _ => (pe_tup (pa_cons (pv 2) (pa_cons (pe_cal C_of (hr.mono (by decide)) (by rfl) pass0 (pa_cons (pv 0) (pa_cons (pe_lst (pa_cons pe_int (pa_cons pe_int (pa_cons pe_int pa_nil)))) pa_nil))) pa_nil))))) pa_nil)))), ?_⟩
  have hn := dat_int hn
  subst hn
  have line := sizeLine_eq
  refine s_retW L (Dw.tupleL (P := QsP) (Dw.lcL (K := K) (P0 := NsOk) ?_ fun a ds B' ⟨zs, e, z1, z3, hz⟩ s h => ?_)) k
  · refine Dw.def (S := datP K (listOf NsOk)) rfl (.one (Dw.op (Dw.int) (Dw.any (K := K) rfl (.var (Dp.int 3) rfl) (by decide) (by decide)) fun _ => Rv.intP)) fun B vs hv => ?_
    obtain ⟨x, r, rfl, ⟨j, ⟨a, b, ha, hb, hj⟩, hx⟩, hr⟩ := hv
    subst ha
    refine ⟨j.toNat, ⟨x, r, rfl, ?_, hr⟩, (by show j.toNat ≤ 8; omega), fun B v ⟨zs, ⟨lz, _, hz⟩, hv⟩ => ⟨_, ⟨_, rfl, zs, rfl, by omega, by omega, hz⟩, hv⟩⟩
    rw [hx, show ((j.toNat : Nat) : Int) = j by omega]
    exact .int _
  · subst e
    refine .cv (Dw.lc (K := K) (as := zs) (r := fun z => dat K (.str z)) (fun z x => ∃ m : Nat, x = encQ (z, m) ∧ 2 ≤ m ∧ m ≤ 3) ((Di.itl h).conv (by rw [List.map_map]; rfl)) (by omega) fun z x Bn hz sb hx => ⟨[some (.ref d), some (.int 3), some x], fun _ _ _ q => q, rfl, ?_⟩) fun B2 u h2 => ?_
    · refine Dw.cv (Dw.tup (K := K) (Dwa.cons (.of (.var hx rfl)) (Dwa.one (Dw.ofL (ds := [.int 2, .int 2, .int 3]) rfl (De.lstD (.cons .int (.cons .int (.cons .int .nil))) (by show 3 ≤ sizeLine; omega)) (by simp) (by show 3 ≤ 1000; decide)))) (by rw [line]; show 2 ≤ _; decide)) fun B v hv => ?_
      obtain ⟨a, xs, rfl, hs, x1, r1, rfl, hx1, x2, r2, rfl, ⟨j, hj, hx2⟩, hr⟩ := hv
      have hr : r2 = [] := hr
      subst hr
      obtain ⟨m, rfl, m2, m3⟩ : ∃ m : Nat, j = .int (m : Int) ∧ 2 ≤ m ∧ m ≤ 3 := by
        simp only [List.mem_cons, List.not_mem_nil, or_false] at hj
        rcases hj with rfl | rfl | rfl
        · exact ⟨2, rfl, by decide, by decide⟩
        · exact ⟨2, rfl, by decide, by decide⟩
        · exact ⟨3, rfl, by decide, by decide⟩
      exact ⟨_, ⟨m, rfl, m2, m3⟩, .tup hs (.cons hx1 (.cons hx2 .nil))⟩
    · obtain ⟨x, ⟨ds, hx, hE⟩, h2⟩ := h2
      exact ⟨x, ⟨ds, hx, mkQs hE z1 z3 hz⟩, h2⟩
theorem sc_lrows : FnScope ["questions", "least", "rows", "name", "many", "longer", "row", "answer"] ["questions", "least"] (defScope s_lrows) := ⟨rfl, rfl, rfl, by decide +kernel, rfl, by decide +kernel, by decide +kernel⟩
theorem ok_lrows (D : Def K mg "_law_rows" s_lrows ["questions", "least"]) (n_range : mg "range" = none) : Cal P w K mg base CX0 1 "_law_rows" s_lrows ["questions", "least"] (sp_lrows K) := by
  refine D.ok sc_lrows (fun vs H Q E h => ?_) (fun cdv f A outer s H vs Q E hr h => ?_)
  · exact pf_len h fun _ => rfl
  replace h := pf2 h
  obtain ⟨v, v1, B, ⟨qs, lo⟩, rfl, hB, hv, hv1, ⟨sm, l1, l2⟩, k⟩ := h
  refine ⟨_, (pss_cons (ps_set (i := 2) sc_lrows.nd rfl (Or.inl rfl) (pe_lst (pa_cons (pe_tup pa_nil) pa_nil)))
    (pss_cons (ps_for PassesOwn.never rfl (pi_tup (pv 0)) (pg_tup rfl (pgs_cons (pg_name (i := 3) sc_lrows.nd rfl (Or.inl rfl)) (pgs_cons (pg_name (i := 4) sc_lrows.nd rfl (Or.inl rfl)) pgs_nil))) (pss_cons (ps_set (i := 5) sc_lrows.nd rfl (Or.inl rfl) (pe_lst pa_nil))
      (pss_cons (ps_for PassesOwn.never rfl (pi_list (pv 2)) (pg_name (i := 6) sc_lrows.nd rfl (Or.inr rfl)) (pss_one (ps_set (i := 5) sc_lrows.nd rfl (Or.inl rfl) (pe_op op_catS (pv 5) (pe_lc (own := [("answer", 7)]) (g := gName 7) (tt := tYes) rfl sc_lrows.nd (pi_range2 (by rfl) n_range (pa_cons (pv 1) (pa_cons (pv 4) pa_nil))) (blkOk_by (own := [("answer", 7)]) (N := ["questions", "least", "rows", "name", "many", "longer", "row", "answer"]) (sc := defScope s_lrows) (by decide +kernel)) (fun _ _ _ _ _ => (pg_name (i := 7) sc_lrows.nd rfl (Or.inl rfl))) (fun _ _ _ _ _ => pts_nil) (fun _ _ _ _ _ => (pe_op (r := rCatA K) op_catA (pv 6) (pe_tup (pa_cons (pv 7) pa_nil)))))))))
      (pss_one (ps_set (i := 2) sc_lrows.nd rfl (Or.inl rfl) (pv 5))))))
    (pss_one (ps_ret (pv 2))))), ?_⟩
  have few : qs.length ≤ 4 := sm.1
  have small : ∀ q ∈ qs, q.2 ≤ 4 := sm.2
  have l1 : -1 ≤ lo := l1
  have l2 : lo ≤ 0 := l2
  have hv1 := dat_int hv1
  subst hv1
  refine s_set (De.lstD (K := K) (.cons (De.tupD .nil (by show 0 ≤ sizeLine; decide)) .nil) (by show 1 ≤ sizeLine; decide)) hB fun v2 B1 H1 e1 h2 => ?_
  refine s_forS (Di.tupM (K := K) (as := qs) (f := encQ) (.var (Mo.mo e1.bb hv) rfl)) e1.bh (fun i σ B => ∃ u v3 v4 v5 v6 v7, σ = [some v, some (.int lo), some u, v3, v4, v5, v6, v7] ∧ dat K (rowsL (grow ((qs.take i).map fun q => rng lo ((q.2 : Int) - lo).toNat))) B u) (fun B' s => ⟨v2, _, _, _, _, _, rfl, Mo.mo s h2⟩) ?_ ?_
  · rintro B2 H2 e2 i R x σ' Bc Bn Hn hR ⟨u, v3, v4, v5, v6, v7, rfl, hu⟩ s e hx
    rw [List.getElem?_map] at hR
    obtain ⟨q, hq, rfl⟩ := Option.map_eq_some_iff.mp hR
    have i4 : i < 4 := by
      have := (List.getElem?_eq_some_iff.mp hq).1
      omega
    have q4 : q.2 ≤ 4 := small q (List.mem_of_getElem? hq)
    obtain ⟨y, z, hy, hz, go⟩ := gTup2 e.bh (dat_pair hx)
    refine go _ ?_
    have hz := dat_int hz
    subst hz
    have tk : (qs.take (i + 1)).map (fun q => rng lo ((q.2 : Int) - lo).toNat) = (qs.take i).map (fun q => rng lo ((q.2 : Int) - lo).toNat) ++ [rng lo ((q.2 : Int) - lo).toNat] := by rw [take_snoc hq, List.map_append]; rfl
    have gl : (grow ((qs.take i).map fun q => rng lo ((q.2 : Int) - lo).toNat)).length ≤ 5 ^ 4 := by
      refine Nat.le_trans (grow_len (m := 5) _ fun l hl => ?_) (Nat.pow_le_pow_right (by decide) ?_)
      · obtain ⟨m, hm, rfl⟩ := List.mem_map.mp hl
        rw [rng_len]
        have := small m (List.mem_of_mem_take hm)
        omega
      · rw [List.length_map, List.length_take]
        omega
    have rl : ∀ a ∈ grow ((qs.take i).map fun q => rng lo ((q.2 : Int) - lo).toNat), a.length ≤ 4 := fun a ha => by
      rw [grow_row ha, List.length_map, List.length_take]
      omega
    rw [tk, grow_snoc]
    generalize grow ((qs.take i).map fun q => rng lo ((q.2 : Int) - lo).toNat) = rows at hu gl rl
    refine s_set (De.lstD (K := K) .nil (by show 0 ≤ sizeLine; decide)) e.bh fun v8 B8 H8 e8 h8 => ?_
    refine s_forS (Di.listM (K := K) (as := rows) (f := rowD) (.var (Mo.mo (s.trans e8.bb) hu) rfl)) e8.bh (fun j σ B => ∃ u5 v6 v7, σ = [some v, some (.int lo), some u, some y, some (.int (q.2 : Int)), some u5, v6, v7] ∧ dat K (rowsL (grow1 (rows.take j) (rng lo ((q.2 : Int) - lo).toNat))) B u5) (fun B' s => ⟨v8, _, _, rfl, Mo.mo s h8⟩) ?_ ?_
    · rintro B3 H3 e3 j R x σ' Bc Bm Hm hR ⟨u5, v6, v7, rfl, h5⟩ s' em hx
      rw [List.getElem?_map] at hR
      obtain ⟨a, ha, rfl⟩ := Option.map_eq_some_iff.mp hR
      have a4 := rl a (List.mem_of_getElem? ha)
      have len : (grow1 (rows.take j) (rng lo ((q.2 : Int) - lo).toNat)).length ≤ 5 ^ 4 * 5 := by
        rw [grow1_len, rng_len, List.length_take]
        exact Nat.mul_le_mul (by omega) (by omega)
      refine s_setE (De.op (r := rCatS K) (.var (Mo.mo s' h5) rfl) (De.lcA (K := K) (as := List.range ((q.2 : Int) - lo).toNat) (r := fun m => dat K (.int (lo + (m : Int)))) (Di.rng2 (.cons (.var (Dp.int _) rfl) (.cons (.var (Dp.int _) rfl) .nil)) (by omega)) (fun m => rowD (a ++ [lo + (m : Int)])) (by rw [List.length_range, sizeLine_eq]; omega) fun m x7 B7 H7 _ s7 _ h7 => ⟨_, fun Q q => q, rfl, ?_⟩) (Rv.catS (by rw [List.length_map, List.length_map, List.length_range, sizeLine_eq]; omega))) em.bh fun v9 B9 H9 e9 h9 => ⟨B9, em.trans e9, v9, _, _, rfl, ?_⟩
      · have h7 := dat_int h7
        subst h7
        refine De.eq (d := .tuple (a.map .int ++ [.int (lo + (m : Int))])) (De.op (r := rCatA K) (De.var (Mo.mo s7 hx) rfl) (De.tupD (ds := [.int (lo + (m : Int))]) (.cons (.var (Dp.int _) rfl) .nil) (by show 1 ≤ sizeLine; decide)) (Rv.catT (by rw [List.length_map, sizeLine_eq]; show _ + 1 ≤ _; omega))) ?_
        unfold rowD
        rw [List.map_append]
        rfl
      · have e : grow1 (rows.take (j + 1)) (rng lo ((q.2 : Int) - lo).toNat) = grow1 (rows.take j) (rng lo ((q.2 : Int) - lo).toNat) ++ (List.range ((q.2 : Int) - lo).toNat).map fun m : Nat => a ++ [lo + (m : Int)] := by
          unfold grow1 rng
          rw [take_snoc ha, List.flatMap_append]
          simp
        rw [e]
        unfold rowsL
        rw [List.map_append, List.map_map]
        exact h9
    · rintro σ' B' H' e3 ⟨u5, v6, v7, rfl, h5⟩
      rw [List.length_map, List.take_length] at h5
      exact s_setE (De.var h5 rfl) e3.bh fun v9 B9 H9 e9 h9 => ⟨B9, ((e.trans e8).trans e3).trans e9, v9, _, _, _, _, _, rfl, h9⟩
  · rintro σ' B' H' e2 ⟨u, v3, v4, v5, v6, v7, rfl, hu⟩
    rw [List.length_map, List.take_length] at hu
    exact s_ret (.var hu rfl) e2.bh fun v B H e h => k v B H ((e1.trans e2).trans e) h
end
end K33

set_option Elab.async false
set_option linter.all false
set_option maxRecDepth 100000
set_option maxHeartbeats 4000000
/-! K33g: the law's own tally. -/
namespace K33
open PySem PySem.Spec PyProof.Rows L2 Wb Wv Fm Ta Wf Fq
theorem ext_look {B H B2 H2 : Hp} {M : Addr} {o : HO} (s : Same B H) (e : Ext (upd B M o) H B2 H2) : Ext B H B H2 := ⟨e.hh, Same.refl _, s.trans e.hh, fun _ _ z => z⟩
theorem hid_look {B H : Hp} {M : Addr} {o : HO} (m : Hid B H M o) (s : Same B H) : Same B (upd B M o) ∧ Same (upd B M o) H := ⟨new_same m.no, fun b x z => by
  by_cases q : b = M
  · subst q
    rw [upd_same] at z
    cases z
    exact m.at_
  · rw [upd_ne q] at z
    exact s b x z⟩
def sp_once (K : PySem.W.Frag) : Sp := fun vs H Q _ => ∃ (α : Type) (de : DecidableEq α) (enc : α → PyData) (l : List α) (B : Hp) (x : V), vs = [x] ∧ Same B H ∧ dat K (.list (l.map enc)) B x ∧ l.length ≤ 60 ∧ (∀ a b, PyData.eqv (enc a) (enc b) = decide (a = b)) ∧ (∀ a, PyData.canLay0 (enc a) = true) ∧ (∀ a, (enc a).depth ≤ 5) ∧ ∀ v B' H', Ext B H B' H' → dat K (.list ((once l).map enc)) B' v → Q v H'
section
variable {P : Program} {w : World} {K : PySem.W.Frag} {mg : Str → Option Value} {base : Heap} {C_Form C_Sheets C_Tally C_InvalidSize C_Refused C_BlankError C_InvalidSheets a_ZERO a_ONE : Addr}
theorem sc_once : FnScope ["some", "found", "one"] ["some"] (defScope s_once) := ⟨rfl, rfl, rfl, by decide +kernel, rfl, by decide +kernel, by decide +kernel⟩
theorem ok_once (D : Def K mg "_law_once" s_once ["some"])  : Cal P w K mg base CX0 1 "_law_once" s_once ["some"] (sp_once K) := by
  refine D.ok sc_once (fun vs H Q E h => ?_) (fun cdv f A outer s H vs Q E hr h => ?_)
  · obtain ⟨α, de, enc, l, B, x, rfl, _⟩ := h
    rfl
  obtain ⟨α, de, enc, l, B, v, rfl, hB, hv, few, heq, lay, dep, k⟩ := h
  refine ⟨_, (pss_cons (ps_set (i := 1) sc_once.nd rfl (Or.inl rfl) (pe_lst pa_nil))
    (pss_cons (ps_for PassesOwn.never rfl (pi_list (pv 0)) (pg_name (i := 2) sc_once.nd rfl (Or.inl rfl)) (pss_one (ps_if (pt_cmpR (op_notInD hr.u65) (pv 2) (pv 1) rfl) (pss_one (ps_expr (pe_bm PySem.F.plainAttrs_list PySem.F.slot_list_append PySem.F.type_list_append mt_append (pv 1) (pa_cons (pv 2) pa_nil)))) pss_nil)))
    (pss_one (ps_ret (pv 1))))), ?_⟩
  have line := sizeLine_eq
  have sh : ∀ a, SeqAt.shaped (enc a) = true := fun a => by
    unfold SeqAt.shaped
    rw [lay a, Bool.true_and]
    have := dep a
    exact decide_eq_true (by omega)
  have shl : ∀ as : List α, SeqAt.shaped (.list (as.map enc)) = true := fun as => by
    have h2 := depth_map (f := enc) (n := 5) (l := as) fun a _ => dep a
    unfold SeqAt.shaped
    simp only [PyData.canLay0, lay_map (l := as) fun a _ => lay a, PyData.depth, Bool.true_and]
    exact decide_eq_true (by omega)
  refine ⟨Nat.zero_le _, fun M hM => ?_⟩
  change tSeq _ _ _ [some v, some (.ref M), none] (upd H M (.lst []))
  refine s_forX (B0 := B) (H0 := H) (Ext.newH hB hM) (Di.listM (K := K) (as := l) (f := enc) (.var hv rfl)) (fun i σ B' H' => ∃ v2 xs, σ = [some v, some (.ref M), v2] ∧ Hid B' H' M (.lst xs) ∧ AllR (((once (l.take i)).map enc).map (dat K)) B' xs) (fun B1 H1 e => ⟨none, [], rfl, (Hid.new hB hM).ext e, rfl⟩) ?_ ?_
  · rintro B1 i R x σ' Bc Hc Bn Hn s1 hR e1 s2 ⟨v2, xs, rfl, m, hxs⟩ e2 hx
    rw [List.getElem?_map] at hR
    obtain ⟨a, ha, rfl⟩ := Option.map_eq_some_iff.mp hR
    have m2 := m.ext e2
    obtain ⟨sa, sb⟩ := hid_look m2 e2.bh
    have hxs := MoA.mo e2.bb hxs
    have dF : dat K (.list ((once (l.take i)).map enc)) (upd Bn M (.lst xs)) (.ref M) := Dp.lst (SqL.of upd_same) (allR_dp (MoA.mo sa hxs))
    have len := allR_len hxs
    rw [List.length_map, List.length_map] at len
    have lo := once_len (l.take i)
    rw [List.length_take] at lo
    have an : (((once (l.take i)).map enc).any fun y => PyData.eqv y (enc a)) = decide (a ∈ once (l.take i)) := by
      rw [List.any_map]
      by_cases q : a ∈ once (l.take i)
      · rw [decide_eq_true q]
        exact List.any_eq_true.mpr ⟨a, q, by show PyData.eqv (enc a) (enc a) = true; rw [heq]; exact decide_eq_true rfl⟩
      · rw [decide_eq_false q]
        exact List.any_eq_false.mpr fun b hb z => by
          have z : PyData.eqv (enc b) (enc a) = true := z
          rw [heq] at z
          exact q (of_decide_eq_true z ▸ hb)
    have ed := e1.trans e2
    refine s_if (b := !decide (a ∈ once (l.take i))) (Dt.test (De.eq (De.op (r := rNotInD K) (.var (Mo.mo sa hx) rfl) (.var dF rfl) (Rv.notInL (sh a) (shl _))) (by rw [an]))) sb (fun t B3 H3 e3 => ?_) fun f B3 H3 e3 => ?_
    · have na : a ∉ once (l.take i) := by simpa using t
      have el := ext_look e2.bh e3
      have m3 := m2.ext el
      refine ⟨_, rfl, .inl ⟨rfl, _, SqL.of m3.at_⟩, _, rfl, ?_⟩
      refine ⟨M, xs, x, rfl, rfl, m3.at_, by omega, ?_⟩
      refine ⟨Bn, (ed.trans el).setH m3 hM, s2.trans e2.bb, _, xs ++ [x], rfl, m3.set, ?_⟩
      rw [take_snoc ha, once_snoc]
      unfold add1
      rw [if_neg na, List.map_append, List.map_append]
      exact allR_snoc hxs hx
    · have na : a ∈ once (l.take i) := by simpa using f
      have el := ext_look e2.bh e3
      refine ⟨Bn, ed.trans el, s2.trans e2.bb, _, xs, rfl, m2.ext el, ?_⟩
      rw [take_snoc ha, once_snoc]
      unfold add1
      rw [if_pos na]
      exact hxs
  · rintro σ1 B1 H1 e1 s1 ⟨v2, xs, rfl, m, hxs⟩
    rw [List.length_map, List.take_length] at hxs
    have eO := e1.settleH m hM (none_of hB hM)
    exact s_ret (.var (R := dat K (.list ((once l).map enc))) (Dp.lst (SqL.of upd_same) (allR_dp (MoA.mo (new_same m.no) hxs))) rfl) eO.bh fun v' B2 H2 e2 h2 => k v' B2 H2 (eO.trans e2) h2
/-! ### what is due -/
abbrev sp_due (K : PySem.W.Frag) : Sp := Pf (α := List Lt) (fun ls => [dat K (.list (ls.map ltD))]) (fun ls => ls.length ≤ 60 ∧ Pos ls) (fun ls => dat K (rwsD (tally ls)))
theorem De.once {α : Type} [de : DecidableEq α] {enc : α → PyData} {l : List α} {σ : L2.St} {B : Hp} {ta : TE} {E : XK} (h : De ta σ B (dat K (.list (l.map enc)))) (few : l.length ≤ 60) (heq : ∀ a b, PyData.eqv (enc a) (enc b) = decide (a = b)) (lay : ∀ a, PyData.canLay0 (enc a) = true) (dep : ∀ a, (enc a).depth ≤ 5) :
    De (tCall (sp_once K) [] E (tCons ta tNil)) σ B (dat K (.list ((once l).map enc))) := fun B1 H s1 s2 Q q => h B1 H s1 s2 _ fun v B2 H2 e hv =>
  ⟨α, de, enc, l, B2, v, rfl, e.bh, hv, few, heq, lay, dep, fun v' B' H' e' h' => q v' B' H' (e.trans e') h'⟩
theorem eqv_int (a b : Int) : PyData.eqv (.int a) (.int b) = decide (a = b) := by
  simp only [PyData.eqv]
  by_cases h : a = b
  · simp [h]
  · simp [h]
theorem eqv_ints : ∀ a b : Wd, PyData.eqvAll (a.map .int) (b.map .int) = decide (a = b)
  | [], [] => by simp [PyData.eqvAll]
  | [], _ :: _ => by simp [PyData.eqvAll]
  | _ :: _, [] => by simp [PyData.eqvAll]
  | x :: a, y :: b => by
    simp only [List.map_cons, PyData.eqvAll, eqv_int, eqv_ints a b]
    by_cases h : x = y
    · by_cases g : a = b
      · simp [h, g]
      · simp [h, g]
    · simp [h]
theorem eqv_word (a b : Wd) : PyData.eqv (wordD a) (wordD b) = decide (a = b) := by
  unfold wordD
  simp only [PyData.eqv]
  exact eqv_ints a b
theorem De.slA {σ : L2.St} {B : Hp} {te : TE} {ds : List PyData} {tl th : TO} {lo hi : Option Int} (h : De te σ B (dat K (.tuple ds))) (h1 : Do tl σ B lo) (h2 : Do th σ B hi) (part : ¬ (HT.sIx ds.length 0 lo = 0 ∧ HT.sIx ds.length ds.length hi = ds.length)) : De (L2.tSl (rSlA K) te tl th) σ B (dat K (.tuple (cutA ds lo hi))) :=
  .sl h h1 h2 fun x B1 H s1 s2 hx Q q => by
    obtain ⟨a, xs, rfl, hs, hR⟩ := dat_tupR hx
    have g := allR_dp hR
    have len : xs.length = ds.length := dpAll_len g
    refine ⟨a, xs, rfl, seqT s2 hs, fun z => absurd (len ▸ z) part, fun _ p hp => q _ (upd B1 p (.tup (cutV xs lo hi))) _ (.new s2 hp) ?_⟩
    · refine .tup (SqT.of upd_same) (dpMonoAll (new_same (s2.free hp)) _ _ ?_)
      unfold cutV cutA
      rw [len]
      exact dpAll_take _ (dpAll_drop _ g)
theorem rc_max {B : Hp} {ns : List Int} {m : Int} (pos : 0 < ns.length) (h : ∀ k ∈ ns, (∀ y ∈ ns, y ≤ k) → k = m) : Rc (rMax K) B [dat K (.list (ns.map .int))] (dat K (.int m)) := fun vs B1 H _ s2 hv Q q => by
  obtain ⟨v, r, rfl, hx, h2⟩ := hv
  have h2 : r = [] := h2
  subst h2
  obtain ⟨a, xs, rfl, hs, hR⟩ := dat_lstR hx
  have e := ints_of (w := ns) (allR_dp hR)
  subst e
  exact ⟨a, ns, rfl, s2.seq hs, pos, fun k hk all => by rw [h k hk all]; exact q _ B1 H (.refl s2) (.int _)⟩
theorem sortD_ints (ns : List Int) : sortD (ns.map .int) = (sortI ns).map .int := by
  unfold sortD sortI
  refine (List.map_mergeSort (s := dle) (f := PyData.int) (r := fun a b => decide (a ≤ b)) (fun a _ b _ => ?_)).symm
  have h := congrFun (congrFun (PySem.W.dataLe_int (fun x : Int => x)) a) b
  exact h.symm
theorem alike_intsL (ns : List Int) : PySem.W.AllAlike (ns.map .int) := by
  intro d hd d' hd'
  obtain ⟨a, _, rfl⟩ := List.mem_map.mp hd
  obtain ⟨b, _, rfl⟩ := List.mem_map.mp hd'
  simp only [PySem.W.alike]
theorem max_last {ls : List Lt} {n : Int} (pos : Pos ls) (h : n ∈ nums ls) : 0 < ((ls.filter fun x => decide (x.1 = n)).map (·.2.1)).length ∧ ∀ k ∈ (ls.filter fun x => decide (x.1 = n)).map (·.2.1), (∀ y ∈ (ls.filter fun x => decide (x.1 = n)).map (·.2.1), y ≤ k) → k = last ls n := by
  obtain ⟨w, hw⟩ := last_at pos h
  have hm : last ls n ∈ (ls.filter fun x => decide (x.1 = n)).map (·.2.1) := List.mem_map.mpr ⟨_, List.mem_filter.mpr ⟨hw, decide_eq_true rfl⟩, rfl⟩
  refine ⟨List.length_pos_of_mem hm, fun k hk all => ?_⟩
  obtain ⟨x, hx, rfl⟩ := List.mem_map.mp hk
  obtain ⟨h1, h2⟩ := List.mem_filter.mp hx
  have e := of_decide_eq_true h2
  have a := all _ hm
  have b := last_ge h1
  rw [e] at b
  omega
def rowOf (ls : List Lt) (n : Int) : Rw := (n, last ls n, sortW (once (Ta.wordsOf ls n)))
theorem sc_due : FnScope ["letters", "rows", "number", "letter", "last", "words"] ["letters"] (defScope s_due) := ⟨rfl, rfl, rfl, by decide +kernel, rfl, by decide +kernel, by decide +kernel⟩
theorem ok_due (D : Def K mg "_law_due" s_due ["letters"]) (C_once : Cal P w K mg base CX0 1 "_law_once" s_once ["some"] (sp_once K)) (n_sorted : mg "sorted" = none) (n_max : mg "max" = none) (n_tuple : mg "tuple" = none) : Cal P w K mg base CX0 2 "_law_due" s_due ["letters"] (sp_due K) := by
  refine D.ok sc_due (fun vs H Q E h => ?_) (fun cdv f A outer s H vs Q E hr h => ?_)
  · exact pf_len h fun _ => rfl
  replace h := pf1 h
  obtain ⟨v, B, ls, rfl, hB, hv, ⟨few, pos⟩, k⟩ := h
  refine ⟨_, (pss_cons (ps_set (i := 1) sc_due.nd rfl (Or.inl rfl) (pe_lst pa_nil))
    (pss_cons (ps_for PassesOwn.never rfl (pi_list (pe_callB (cr_sortedD hr.units) (by rfl) n_sorted (by decide +kernel) (pa_cons (pe_cal C_once (hr.mono (by decide)) (by rfl) pass0 (pa_cons (pe_lc (own := [("letter", 3)]) (g := gName 3) (tt := tYes) rfl sc_due.nd (pi_list (pv 0)) (blkOk_by (own := [("letter", 3)]) (N := ["letters", "rows", "number", "letter", "last", "words"]) (sc := defScope s_due) (by decide +kernel)) (fun _ _ _ _ _ => (pg_name (i := 3) sc_due.nd rfl (Or.inl rfl))) (fun _ _ _ _ _ => pts_nil) (fun _ _ _ _ _ => (pe_ix (r := rIxT K) ix_tup (pv 3) pe_int (fun _ _ => rfl)))) pa_nil)) pa_nil))) (pg_name (i := 2) sc_due.nd rfl (Or.inr rfl)) (pss_cons (ps_set (i := 4) sc_due.nd rfl (Or.inr rfl) (pe_callB (cr_max rfl) (by rfl) n_max (by decide +kernel) (pa_cons (pe_lc (own := [("letter", 3)]) (g := gName 3) rfl sc_due.nd (pi_list (pv 0)) (blkOk_by (own := [("letter", 3)]) (N := ["letters", "rows", "number", "letter", "last", "words"]) (sc := defScope s_due) (by decide +kernel)) (fun _ _ _ _ _ => (pg_name (i := 3) sc_due.nd rfl (Or.inl rfl))) (fun _ _ _ _ _ => pts_one (pt_cmpR op_eq (pe_ix (r := rIxT K) ix_tup (pv 3) pe_int (fun _ _ => rfl)) (pv 2) (nomark _))) (fun _ _ _ _ _ => (pe_ix (r := rIxT K) ix_tup (pv 3) pe_int (fun _ _ => rfl)))) pa_nil)))
      (pss_cons (ps_set (i := 5) sc_due.nd rfl (Or.inl rfl) (pe_cal C_once (hr.mono (by decide)) (by rfl) pass0 (pa_cons (pe_lc (own := [("letter", 3)]) (g := gName 3) rfl sc_due.nd (pi_list (pv 0)) (blkOk_by (own := [("letter", 3)]) (N := ["letters", "rows", "number", "letter", "last", "words"]) (sc := defScope s_due) (by decide +kernel)) (fun _ _ _ _ _ => (pg_name (i := 3) sc_due.nd rfl (Or.inl rfl))) (fun _ _ _ _ _ => pts_one (pt_cmpR (r := rEqD K) (op_eqD hr.units) (pe_slice (r := rSlA K) sl_tupA (pv 3) po_none (po_some pe_int)) (pe_tup (pa_cons (pv 2) (pa_cons (pv 4) pa_nil))) (nomark _))) (fun _ _ _ _ _ => (pe_ix (r := rIxT K) ix_tup (pv 3) pe_int (fun _ _ => rfl)))) pa_nil)))
      (pss_one (ps_expr (pe_bm PySem.F.plainAttrs_list PySem.F.slot_list_append PySem.F.type_list_append mt_append (pv 1) (pa_cons (pe_tup (pa_cons (pv 2) (pa_cons (pv 4) (pa_cons (pe_callTy call_tuple_of (by rfl) n_tuple (by decide +kernel) (pa_cons (pe_callB (cr_sortedD hr.units) (by rfl) n_sorted (by decide +kernel) (pa_cons (pv 5) pa_nil)) pa_nil)) pa_nil)))) pa_nil)))))))
    (pss_one (ps_ret (pe_callTy call_tuple_of (by rfl) n_tuple (by decide +kernel) (pa_cons (pv 1) pa_nil)))))), ?_⟩
  have few : ls.length ≤ 60 := few
  have pos : Pos ls := pos
  have line := sizeLine_eq
  have nl : (once (nums ls)).length ≤ 60 := Nat.le_trans (once_len _) (by unfold nums; rw [List.length_map]; exact few)
  refine ⟨Nat.zero_le _, fun M hM => ?_⟩
  change tSeq _ _ _ [some v, some (.ref M), none, none, none, none] (upd H M (.lst []))
  have lts : ∀ {σ : L2.St} {B' : Hp}, σ[0]? = some (some v) → Same B B' → Di (iList K (tVar 0)) σ B' (ls.map fun x => dat K (ltD x)) := fun hs s => Di.listM (f := ltD) (.var (Mo.mo s hv) hs)
  refine s_forX (B0 := B) (H0 := H) (Ext.newH hB hM) (Di.listM (K := K) (as := sortI (once (nums ls))) (f := .int) (De.eq (De.sorted (De.once (enc := PyData.int) (l := nums ls) (De.eq (De.lcA (K := K) (as := ls) (r := fun x => dat K (ltD x)) (lts rfl (Same.refl _)) (fun x => .int x.1) (by omega) fun x u Bn Hn _ _ _ hx => ⟨[some v, some (.ref M), none, some u, none, none], fun Q q => q, rfl, .op (r := rIxT K) (.var hx rfl) .int (Rv.ixTD rfl)⟩) (by unfold nums; rw [List.map_map]; rfl)) (by unfold nums; rw [List.length_map]; exact few) eqv_int (fun _ => rfl) (fun _ => by simp [PyData.depth])) (alike_intsL _) (.inr fun d hd => ?_) fun d hd => ?_) (by rw [sortD_ints]))) (fun i σ B' H' => ∃ v2 v3 v4 v5 xs, σ = [some v, some (.ref M), v2, v3, v4, v5] ∧ Hid B' H' M (.lst xs) ∧ AllR ((((sortI (once (nums ls))).take i).map fun n => rwD (rowOf ls n)).map (dat K)) B' xs) (fun B1 H1 e => ⟨none, none, none, none, [], rfl, (Hid.new hB hM).ext e, rfl⟩) ?_ ?_
  · obtain ⟨a, _, rfl⟩ := List.mem_map.mp hd
    exact ⟨(fun z => nomatch z), (fun _ z => nomatch z)⟩
  · obtain ⟨a, _, rfl⟩ := List.mem_map.mp hd
    simp [PyData.depth]
  · rintro B1 i R x σ' Bc Hc Bn Hn s1 hR e1 s2 ⟨v2, v3, v4, v5, xs, rfl, m, hxs⟩ e2 hx
    rw [List.getElem?_map] at hR
    obtain ⟨n, hn, rfl⟩ := Option.map_eq_some_iff.mp hR
    have hx := dat_int hx
    subst hx
    have mem : n ∈ nums ls := mem_once.mp (mem_sortI.mp (List.mem_of_getElem? hn))
    obtain ⟨mp, mu⟩ := max_last pos mem
    have sB := (s1.trans s2).trans e2.bb
    have e12 := e1.trans e2
    refine s_set (.cb (.cons (De.eq (De.lcD (K := K) (as := ls) (r := fun x => dat K (ltD x)) (lts rfl sB) (fun x => decide (x.1 = n)) (fun x => .int x.2.1) (by omega) fun x u B5 H5 _ s5 _ hx => ⟨[some v, some (.ref M), some (.int n), some u, v4, v5], fun Q q => q, rfl, Dt.eq (Dt.test (De.op (r := rEq) (De.op (r := rIxT K) (.var hx rfl) .int (Rv.ixTD rfl)) (.var (Dp.int n) rfl) Rv.eqI)) rfl, fun _ => .op (r := rIxT K) (.var hx rfl) .int (Rv.ixTD rfl)⟩) (e := .list (((ls.filter fun x => decide (x.1 = n)).map (·.2.1)).map .int)) (by rw [List.map_map]; rfl)) .nil) (rc_max mp mu)) e2.bh fun v6 B6 H6 e6 h6 => ?_
    have h6 := dat_int h6
    subst h6
    have sB6 := sB.trans e6.bb
    refine s_set (De.once (enc := wordD) (l := (ls.filter fun x => decide (x.1 = n ∧ x.2.1 = last ls n)).map (·.2.2)) (De.eq (De.lcD (K := K) (as := ls) (r := fun x => dat K (ltD x)) (lts rfl sB6) (fun x => decide (x.1 = n ∧ x.2.1 = last ls n)) (fun x => wdD x.2.2) (by omega) fun x u B7 H7 _ s7 _ hx => ⟨[some v, some (.ref M), some (.int n), some u, some (.int (last ls n)), v5], fun Q q => q, rfl, ?_, fun _ => .op (r := rIxT K) (.var hx rfl) .int (Rv.ixTD rfl)⟩) (by rw [List.map_map]; rfl)) ?_ eqv_word lay_word (fun x => Nat.le_trans (depth_word x) (by decide))) e6.bh fun v8 B8 H8 e8 h8 => ?_
    · have e2 : cutA [PyData.int x.1, .int x.2.1, wdD x.2.2] none (some 2) = [.int x.1, .int x.2.1] := rfl
      refine Dt.eq (Dt.test (De.op (r := rEqD K) (De.slA (ds := [.int x.1, .int x.2.1, wdD x.2.2]) (lo := none) (hi := some 2) (.var hx rfl) .none (.some (De.int (K := K))) (fun z => absurd (show HT.sIx 3 3 (some 2) = 3 from z.2) (by decide))) (De.tupD (ds := [.int n, .int (last ls n)]) (.cons (.var (Dp.int n) rfl) (.cons (.var (Dp.int _) rfl) .nil)) (by show 2 ≤ sizeLine; omega)) (Rv.eqD (by rw [e2]; rfl) rfl))) ?_
      rw [e2]
      simp only [PyData.eqv, PyData.eqvAll, eqv_int]
      by_cases p : x.1 = n <;> by_cases q : x.2.1 = last ls n <;> simp [p, q]
    · rw [List.length_map]
      exact Nat.le_trans (List.length_filter_le _ _) few
    have e14 := (e12.trans e6).trans e8
    have m4 := ((m.ext e2).ext e6).ext e8
    have h8 : dat K (.list ((once (Ta.wordsOf ls n)).map wordD)) B8 v8 := h8
    refine ⟨_, rfl, .inl ⟨rfl, _, SqL.of m4.at_⟩, ?_⟩
    refine De.tupD (K := K) (ds := [.int n, .int (last ls n), .tuple ((sortW (once (Ta.wordsOf ls n))).map wordD)]) (.cons (.var (Dp.int n) rfl) (.cons (.var (Dp.int _) rfl) (.cons (De.tupleL (De.eq (De.sorted (.var h8 rfl) (alike_words _) (.inl fun d hd => ?_) fun d hd => ?_) (by rw [sortD_words]))) .nil))) (by show 3 ≤ sizeLine; omega) B8 H8 (Same.refl _) e8.bh _ fun y B9 H9 e9 hy => ?_
    · obtain ⟨a, _, rfl⟩ := List.mem_map.mp hd
      exact ⟨_, rfl⟩
    · obtain ⟨a, _, rfl⟩ := List.mem_map.mp hd
      exact Nat.le_trans (depth_word a) (by decide)
    have m9 := m4.ext e9
    have len := allR_len hxs
    rw [List.length_map, List.length_map, List.length_take] at len
    have sl := (sortI_perm (once (nums ls))).length_eq
    refine ⟨M, xs, y, rfl, rfl, m9.at_, by omega, ?_⟩
    refine ⟨B9, (e14.trans e9).setH m9 hM, ((s2.trans e2.bb).trans (e6.bb.trans e8.bb)).trans e9.bb, _, _, _, _, xs ++ [y], rfl, m9.set, ?_⟩
    rw [take_snoc hn, List.map_append, List.map_append]
    exact allR_snoc (MoA.mo ((e2.bb.trans e6.bb).trans (e8.bb.trans e9.bb)) hxs) hy
  · rintro σ1 B1 H1 e1 s1 ⟨v2, v3, v4, v5, xs, rfl, m, hxs⟩
    rw [List.length_map, List.take_length] at hxs
    have eO := e1.settleH m hM (none_of hB hM)
    have hl : dat K (.list ((tally ls).map rwD)) (upd B1 M (.lst xs)) (.ref M) := by
      unfold tally
      rw [List.map_map]
      exact Dp.lst (SqL.of upd_same) (allR_dp (MoA.mo (new_same m.no) hxs))
    exact s_ret (De.tupleL (.var hl rfl)) eO.bh fun v' B2 H2 e2 h2 => k v' B2 H2 (eO.trans e2) h2
end
end K33

set_option Elab.async false
set_option linter.all false
set_option maxRecDepth 100000
set_option maxHeartbeats 4000000
/-! K33h: letters that are drawn. -/
namespace K33
open PySem PySem.Spec PyProof.Rows L2 Wb Wv Fm Ta Wf Fq
structure LtOk (x : Lt) : Prop where
  n0 : 0 ≤ x.1
  nb : x.1 < 2 ^ 60
  e0 : 0 ≤ x.2.1
  eb : x.2.1 < 2 ^ 60
  wl : x.2.2.length ≤ 3
  ws : ∀ i ∈ x.2.2, i.natAbs ≤ 8
def LsOk (ls : List Lt) : Prop := ls.length ≤ 10 ∧ ∀ x ∈ ls, LtOk x ∧ x.1 < 2 ^ 57
abbrev sp_lletters (K : PySem.W.Frag) : Sp := DPf (α := Qs × Int) (fun a => [dat K (qsD a.1), dat K (.int a.2)]) (fun a => FOk a.1 ∧ 0 ≤ a.2 ∧ a.2 ≤ 10) (fun _ => datP K fun x => ∃ ls, x = .list (ls.map ltD) ∧ LsOk ls)
def WdP (x : PyData) : Prop := ∃ u : Wd, x = wdD u ∧ u.length ≤ 3 ∧ ∀ i ∈ u, i.natAbs ≤ 8
theorem picks_mem {α : Type} {r : List α} {ls : List (List α)} (h : Picks r ls) : ∀ i ∈ r, ∃ l ∈ ls, i ∈ l := fun i hi => by
  obtain ⟨j, hj, rfl⟩ := List.mem_iff_getElem.mp hi
  have lj : j < ls.length := by rw [← picks_len h]; exact hj
  obtain ⟨v, hv, hm⟩ := picks_at h (List.getElem?_eq_getElem lj)
  rw [List.getElem?_eq_getElem hj] at hv
  cases hv
  exact ⟨_, List.getElem_mem lj, hm⟩
theorem grow_ge {α : Type} : ∀ (n : Nat) {ls : List (List α)}, ls.length = n → (∀ l ∈ ls, 2 ≤ l.length) → n + 1 ≤ (grow ls).length
  | 0, ls, h, _ => by
    have := List.eq_nil_of_length_eq_zero h
    subst this
    exact Nat.le_refl _
  | n + 1, ls, h, hl => by
    rcases List.eq_nil_or_concat ls with e | ⟨init, l, e⟩
    · subst e
      cases h
    · rw [List.concat_eq_append] at e
      subst e
      have li : init.length = n := by simpa using h
      have ih := grow_ge n li fun l hm => hl l (List.mem_append_left _ hm)
      have l2 := hl l (List.mem_append_right _ (List.mem_singleton.mpr rfl))
      rw [grow_snoc, grow1_len]
      have := Nat.mul_le_mul ih l2
      omega
theorem intC {C : Int → Int → Prop} {f : Int → Int → Int} {P P' T : Int → Prop} {B : Hp} (h : ∀ i j, P i → P' j → C i j ∧ T (f i j)) : Rv (rI C fun i j => V.int (f i j)) B (intP P) (intP P') (intP T) := fun x y B1 H _ s2 ⟨i, hi, hx⟩ ⟨j, hj, hy⟩ Q q =>
  ⟨i, j, hx, hy, (h i j hi hj).1, q _ B1 H (.refl s2) ⟨_, (h i j hi hj).2, rfl⟩⟩
section
variable {P : Program} {w : World} {K : PySem.W.Frag} {mg : Str → Option Value} {base : Heap} {C_Form C_Sheets C_Tally C_InvalidSize C_Refused C_BlankError C_InvalidSheets a_ZERO a_ONE : Addr}
theorem sc_lletters : FnScope ["deal", "questions", "many", "sheets", "some", "great", "few", "turn", "word"] ["deal", "questions", "many"] (defScope s_lletters) := ⟨rfl, rfl, rfl, by decide +kernel, rfl, by decide +kernel, by decide +kernel⟩
theorem ok_lletters (D : Def K mg "_law_letters" s_lletters ["deal", "questions", "many"]) (C_lrows : Cal P w K mg base CX0 1 "_law_rows" s_lrows ["questions", "least"] (sp_lrows K)) (C_of : Cal P w K mg base CX0 2 "_law_of" s_of ["deal", "some"] (spOf K)) (n_range : mg "range" = none) (C_any : Cal P w K mg base CX0 1 "_law_any" s_any ["deal", "bound"] spAny) : Cal P w K mg base CX0 3 "_law_letters" s_lletters ["deal", "questions", "many"] (sp_lletters K) := by
  refine D.ok sc_lletters (fun vs H Q E h => ?_) (fun cdv f A outer s H vs Q E hr h => ?_)
  · exact dpf_len h fun _ => rfl
  replace h := dpf2 h
  obtain ⟨d, v1, v2, c, B, ⟨qs, many⟩, rfl, L, h1, h2, ⟨fo, m0, m7⟩, k⟩ := h
  refine ⟨_, (pss_cons (ps_par (i := 3) (j := 4) rfl sc_lletters.nd rfl rfl (by decide) rfl rfl (pa_cons (pe_cal C_lrows (hr.mono (by decide)) (by rfl) pass0 (pa_cons (pv 1) (pa_cons (pe_op op_sub pe_int pe_int) pa_nil))) (pa_cons (pe_lst pa_nil) pa_nil)) (by rfl))
    (pss_cons (ps_set (i := 5) sc_lletters.nd rfl (Or.inl rfl) (pe_cal C_of (hr.mono (by decide)) (by rfl) pass0 (pa_cons (pv 0) (pa_cons (pe_lst (pa_cons pe_int (pa_cons pe_int (pa_cons pe_int (pa_cons (pe_op op_pow pe_int pe_int) pa_nil))))) pa_nil))))
    (pss_cons (ps_set (i := 6) sc_lletters.nd rfl (Or.inl rfl) (pe_cal C_of (hr.mono (by decide)) (by rfl) pass0 (pa_cons (pv 0) (pa_cons (pe_lst (pa_cons pe_int (pa_cons pe_int (pa_cons pe_int pa_nil)))) pa_nil))))
    (pss_cons (ps_for PassesOwn.never rfl (pi_range1 rfl n_range (pa_cons (pv 2) pa_nil)) (pg_name (i := 7) sc_lletters.nd rfl (Or.inl rfl)) (pss_cons (ps_set (i := 8) sc_lletters.nd rfl (Or.inl rfl) (pe_cal C_of (hr.mono (by decide)) (by rfl) pass0 (pa_cons (pv 0) (pa_cons (pe_lst (pa_cons (pe_tup pa_nil) (pa_cons (pe_cal C_of (hr.mono (by decide)) (by rfl) pass0 (pa_cons (pv 0) (pa_cons (pv 3) pa_nil))) (pa_cons (pe_cal C_of (hr.mono (by decide)) (by rfl) pass0 (pa_cons (pv 0) (pa_cons (pv 3) pa_nil))) (pa_cons (pe_ix ix_list (pv 3) (pe_cal C_any (hr.mono (by decide)) (by rfl) pass0 (pa_cons (pv 0) (pa_cons pe_int pa_nil))) (fun _ _ => rfl)) pa_nil))))) pa_nil))))
      (pss_one (ps_expr (pe_bm PySem.F.plainAttrs_list PySem.F.slot_list_append PySem.F.type_list_append mt_append (pv 4) (pa_cons (pe_tup (pa_cons (pe_op op_mulW (pe_cal C_any (hr.mono (by decide)) (by rfl) pass0 (pa_cons (pv 0) (pa_cons (pv 6) pa_nil))) (pv 5)) (pa_cons (pe_op op_mulW (pe_cal C_any (hr.mono (by decide)) (by rfl) pass0 (pa_cons (pv 0) (pa_cons pe_int pa_nil))) (pv 5)) (pa_cons (pv 8) pa_nil)))) pa_nil))))))
    (pss_one (ps_ret (pv 4))))))), ?_⟩
  have line := sizeLine_eq
  have h2 := dat_int h2
  subst h2
  have fo : FOk qs := fo
  have m0 : 0 ≤ many := m0
  have m7 : many ≤ 10 := m7
  obtain ⟨n, rfl⟩ := Int.eq_ofNat_of_zero_le m0
  have f3 : qs.length ≤ 3 := fo.few
  have sm : Small qs := ⟨by omega, fun q h => by have := (fo.two q h).2; omega⟩
  let sheets := grow (qs.map fun q => rng (-1) ((q.2 : Int) - -1).toNat)
  have sg : ∀ a ∈ sheets, a.length ≤ 3 ∧ ∀ i ∈ a, i.natAbs ≤ 8 := fun a ha => by
    refine ⟨by rw [grow_row ha, List.length_map]; exact f3, fun i hi => ?_⟩
    obtain ⟨l, hl, hil⟩ := picks_mem (grow_picks _ a ha) i hi
    obtain ⟨q, hq, rfl⟩ := List.mem_map.mp hl
    have := (fo.two q hq).2
    unfold rng at hil
    obtain ⟨k, hk, rfl⟩ := List.mem_map.mp hil
    rw [List.mem_range] at hk
    omega
  have wide : ∀ l ∈ (qs.map fun q => rng (-1) ((q.2 : Int) - -1).toNat), 2 ≤ l.length ∧ l.length ≤ 4 := fun l hl => by
    obtain ⟨q, hq, rfl⟩ := List.mem_map.mp hl
    have := fo.two q hq
    rw [rng_len]
    omega
  have s2 : 2 ≤ sheets.length := by
    have := grow_ge _ rfl fun l hl => (wide l hl).1
    rw [List.length_map] at this
    have f1 : 1 ≤ qs.length := fo.pos
    show 2 ≤ (grow _).length
    omega
  have sl : sheets.length ≤ 1000 := by
    have := grow_len (m := 4) _ fun l hl => (wide l hl).2
    rw [List.length_map] at this
    have p : 4 ^ qs.length ≤ 4 ^ 3 := Nat.pow_le_pow_right (by decide) f3
    show (grow _).length ≤ 1000
    omega
  refine s_parR ((De.call (args := fun a : Qs × Int => [dat K (qsD a.1), dat K (.int a.2)]) (res := fun a => dat K (rowsL (grow (a.1.map fun q => rng a.2 ((q.2 : Int) - a.2).toNat)))) (qs, -1) (.cons (.var h1 rfl) (.cons (De.op .int .int Rv.I0) .nil)) ⟨sm, (by show (-1 : Int) ≤ -1; decide), (by show (-1 : Int) ≤ 0; decide)⟩) B H (Same.refl _) L.bh _ fun u3 B1 H1 e1 h3 => ?_)
  refine ⟨Nat.zero_le _, fun M hM => ?_⟩
  have hHM : H M = none := Ext.oldH e1 hM
  have e1 := ExtD.of L e1
  obtain ⟨ml, e2⟩ := Ml.new (xs := []) e1.dl hM
  have e12 := e1.trans L e2
  have h3 : dat K (rowsL sheets) B1 u3 := h3
  refine s_w e12.dl (Dw.pick (S := intP fun k => 0 ≤ k ∧ k ≤ 10 ^ 15) rfl (.cons (.cv Dw.int fun _ _ ⟨j, hj, hv⟩ => ⟨j, by omega, hv⟩) (.cons (.cv Dw.int fun _ _ ⟨j, hj, hv⟩ => ⟨j, by omega, hv⟩) (.cons (.cv Dw.int fun _ _ ⟨j, hj, hv⟩ => ⟨j, by omega, hv⟩) (.cons ?_ .nil)))) (by decide) (by decide)) fun u5 B5 H5 e5 h5 => ?_
  · exact .cv (Dw.of (R := dat K (.int 1000000000000000)) (De.eq (De.op .int .int (Rv.I ⟨by decide, by decide, by decide⟩)) (congrArg PyData.int (by decide)))) fun B v hv => ⟨1000000000000000, by decide, dat_int hv⟩
  obtain ⟨great, hg, rfl⟩ := h5
  have e15 := e12.trans L e5
  refine s_w e15.dl (Dw.pick (S := intP fun k => 1 ≤ k ∧ k ≤ 9) rfl (.cons (.cv Dw.int fun _ _ ⟨j, hj, hv⟩ => ⟨j, by omega, hv⟩) (.cons (.cv Dw.int fun _ _ ⟨j, hj, hv⟩ => ⟨j, by omega, hv⟩) (.cons (.cv Dw.int fun _ _ ⟨j, hj, hv⟩ => ⟨j, by omega, hv⟩) .nil))) (by decide) (by decide)) fun u6 B6 H6 e6 h6 => ?_
  obtain ⟨fw, hf, rfl⟩ := h6
  have e16 := e15.trans L e6
  have ml := (ml.ext e5).ext e6
  have sB := (e1.bb.trans e2.bb).trans (e5.bb.trans e6.bb)
  have h3 := Mo.mo (e2.bb.trans (e5.bb.trans e6.bb)) h3
  change tSeq _ _ _ [some (.ref d), some v1, some (.int (n : Int)), some u3, some (.ref M), some (.int great), some (.int fw), none, none] H6
  refine s_forD L e16 (Di.rng (K := K) (n := n) (.var (Dp.int _) rfl) (by omega)) (fun i σ B' H' => ∃ (v7 v8 : Option V) (xs : List V) (ls : List Lt), σ = [some (.ref d), some v1, some (.int (n : Int)), some u3, some (.ref M), some (.int great), some (.int fw), v7, v8] ∧ Ml d c B' H' M xs ∧ AllR ((ls.map ltD).map (dat K)) B' xs ∧ ls.length = i ∧ ∀ x ∈ ls, LtOk x ∧ x.1 < 2 ^ 57) (fun B7 H7 e7 => ⟨none, none, [], [], rfl, ml.ext e7, rfl, rfl, fun x h => nomatch h⟩) ?_ ?_
  · rintro B7 i R x σ' Bc Hc Bn Hn s1 hR e7 s3 ⟨v7, v8, xs, ls, rfl, m, hxs, li, lok⟩ e8 hx
    rw [List.getElem?_map] at hR
    obtain ⟨i', hi', rfl⟩ := Option.map_eq_some_iff.mp hR
    have il : i < n := by
      have := (List.getElem?_eq_some_iff.mp hi').1
      rwa [List.length_range] at this
    have hx := dat_int hx
    subst hx
    have e78 := e7.trans L e8
    have m8 := m.ext e8
    have h3 := Mo.mo ((s1.trans s3).trans e8.bb) h3
    change tSeq _ _ _ [some (.ref d), some v1, some (.int (n : Int)), some u3, some (.ref M), some (.int great), some (.int fw), some (.int (i' : Int)), v8] Hn
    -- a word
    have ne : sheets.map rowD ≠ [] := fun z => by
      have := congrArg List.length z
      rw [List.length_map] at this
      show False
      have h0 : sheets.length = 0 := this
      omega
    have sw : ∀ {B : Hp} {v : V}, datP K (fun x => x ∈ sheets.map rowD) B v → datP K WdP B v := fun {B v} ⟨x, hx, hv⟩ => by
      obtain ⟨a, ha, rfl⟩ := List.mem_map.mp hx
      exact ⟨_, ⟨a, rfl, (sg a ha).1, (sg a ha).2⟩, hv⟩
    have h3' : dat K (.list (sheets.map rowD)) Bn u3 := h3
    have pick : Dw (tCall (spOf K) [] E0 (tCons (tVar 0) (tCons (tVar 3) tNil))) [some (.ref d), some v1, some (.int (n : Int)), some u3, some (.ref M), some (.int great), some (.int fw), some (.int (i' : Int)), v8] d c Bn (datP K WdP) :=
      .cv (Dw.ofL rfl (.var h3' rfl) ne (by rw [List.length_map]; exact sl)) fun B v h => sw h
    refine s_w e78.dl (Dw.pick (S := datP K WdP) rfl (.cons (.cv (Dw.of (De.tupD (K := K) (ds := []) .nil (by show 0 ≤ sizeLine; omega))) fun B v hv => ⟨_, ⟨[], rfl, by decide, fun i h => nomatch h⟩, hv⟩) (.cons pick (.cons pick (.cons ?_ .nil)))) (by decide) (by decide)) fun u9 B9 H9 e9 h9 => ?_
    · intro B0 H0 s L0 Q0 k0
      refine ⟨u3, rfl, c_any (K := K) L0 rfl .int (by decide) (by decide) fun r B2 H2 r0 r1 e => ?_⟩
      have lt : r.toNat < sheets.length := by omega
      have at_ : atI (sheets.map rowD) r = some (rowD sheets[r.toNat]) := by
        have h : atI (sheets.map rowD) ((r.toNat : Nat) : Int) = some (rowD sheets[r.toNat]) := atI_nat (by rw [List.getElem?_map, List.getElem?_eq_getElem lt]; rfl)
        rwa [show ((r.toNat : Nat) : Int) = r by omega] at h
      have hm : sheets[r.toNat] ∈ sheets := List.getElem_mem lt
      exact Rv.ixLD at_ u3 (.int r) B2 H2 (Same.refl _) e.dl.bh (Mo.mo (s.trans e.bb) h3') (.int r) Q0 fun v B3 H3 e3 hv => k0 v B3 H3 (e.trans L0 (.of e.dl e3)) ⟨_, ⟨_, rfl, (sg _ hm).1, (sg _ hm).2⟩, hv⟩
    obtain ⟨_, ⟨wd, rfl, wl, ws⟩, h9⟩ := h9
    have e79 := e78.trans L e9
    have m9 := m8.ext e9
    refine ⟨_, rfl, .inl ⟨rfl, _, SqL.of m9.at_⟩, ?_⟩
    have tup : Dw (tTup (tCons (tOp (rI CMulW fun i j => V.int (i * j)) (tCall spAny [] E0 (tCons (tVar 0) (tCons (tVar 6) tNil))) (tVar 5)) (tCons (tOp (rI CMulW fun i j => V.int (i * j)) (tCall spAny [] E0 (tCons (tVar 0) (tCons (tC (.int 3)) tNil))) (tVar 5)) (tCons (tVar 8) tNil)))) [some (.ref d), some v1, some (.int (n : Int)), some u3, some (.ref M), some (.int great), some (.int fw), some (.int (i' : Int)), some u9] d c B9 (tupR K [intP fun k => 0 ≤ k ∧ k < 2 ^ 57, intP fun k => 0 ≤ k ∧ k < 2 ^ 57, dat K (wdD wd)]) := by
      have go : ∀ {i j b : Int}, 0 ≤ i → i < b → b ≤ 9 → j = great → CMulW i j ∧ 0 ≤ i * j ∧ i * j < 2 ^ 57 := fun {i j b} h0 h1 h2 h3 => by
        rw [h3]
        refine ⟨wide_mul (a := 60) (b := 60) (by omega) (by omega) (by decide) (by decide) (by decide), Int.mul_nonneg h0 hg.1, ?_⟩
        have a : i * great ≤ 9 * 10 ^ 15 := Int.mul_le_mul (by omega) hg.2 hg.1 (by decide)
        omega
      exact Dw.tup (K := K) (Dwa.cons (Dw.op (Dw.any (K := K) rfl (.var (Dp.int fw) rfl) (by omega) (by omega)) (Dw.intV rfl) fun B => intC fun i j hi hj => go hi.1 hi.2 hf.2 hj) (Dwa.cons (Dw.op (Dw.any (K := K) rfl .int (by decide) (by decide)) (Dw.intV rfl) fun B => intC fun i j hi hj => go hi.1 hi.2 (by decide) hj) (Dwa.one (.of (.var (R := dat K (wdD wd)) h9 rfl))))) (by rw [line]; show 3 ≤ _; decide)
    refine tup B9 H9 (Same.refl _) e79.dl _ fun y B10 H10 e10 hy => ?_
    obtain ⟨a, zs, rfl, hs, x1, r1, rfl, ⟨n1, hn1, hx1⟩, x2, r2, rfl, ⟨n2, hn2, hx2⟩, x3, r3, rfl, hx3, hr⟩ := hy
    have hr : r3 = [] := hr
    subst hr hx1 hx2
    have m10 := m9.ext e10
    have len := allR_len hxs
    rw [List.length_map, List.length_map, li] at len
    refine ⟨M, xs, .ref a, rfl, rfl, m10.at_, by omega, ?_⟩
    have e710 := e79.trans L e10
    refine ⟨B10, e710.setL m10 hHM, ((s3.trans e8.bb).trans e9.bb).trans e10.bb, _, _, xs ++ [.ref a], ls ++ [(n1, n2, wd)], rfl, (Ml.set e710.dl m10).1, ?_, by rw [List.length_append, li]; rfl, fun x hx => ?_⟩
    · rw [List.map_append, List.map_append]
      exact allR_snoc (MoA.mo ((e8.bb.trans e9.bb).trans e10.bb) hxs) (Dp.tup hs (.cons (.int n1) (.cons (.int n2) (.cons hx3 .nil))))
    · rcases List.mem_append.mp hx with hx | hx
      · exact lok x hx
      · rw [List.mem_singleton] at hx
        subst hx
        have b1 : n1 < 2 ^ 57 := hn1.2
        have b2 : n2 < 2 ^ 57 := hn2.2
        exact ⟨⟨hn1.1, (by show n1 < 2 ^ 60; omega), hn2.1, (by show n2 < 2 ^ 60; omega), wl, ws⟩, b1⟩
  · rintro σ1 B7 H7 e7 s1 ⟨v7, v8, xs, ls, rfl, m, hxs, li, lok⟩
    rw [List.length_map, List.length_range] at li
    have h4 : dat K (.list (ls.map ltD)) (upd B7 M (.lst xs)) (.ref M) := m.dat hxs
    exact s_retW (ExtD.settle e7 m hHM).dl (Dw.of (.var (R := dat K (.list (ls.map ltD))) h4 rfl)) fun v B8 H8 e8 h8 => k v B8 H8 ((ExtD.settle e7 m hHM).trans L e8) ⟨_, ⟨ls, rfl, by omega, lok⟩, h8⟩
end
end K33

set_option Elab.async false
set_option linter.all false
set_option maxRecDepth 100000
set_option maxHeartbeats 4000000
/-! K33k: what the law rests on. -/
namespace K33
open PySem PySem.Spec PyProof.Rows L2 Wb Wv Fm Ta Wf Fq
theorem nodup_once_nums (x : List Lt) : (sortI (once (nums x))).Nodup := (sortI_perm _).nodup_iff.mpr (nd_once _)
theorem letters_nodup (x : List Lt) : (letters (tally x)).Nodup := by
  unfold letters tally
  refine List.pairwise_flatMap.mpr ⟨fun r hr => ?_, ?_⟩
  · obtain ⟨n, _, rfl⟩ := List.mem_map.mp hr
    refine List.pairwise_map.mpr ?_
    have : (sortW (once (Ta.wordsOf x n))).Nodup := (sortW_perm _).nodup_iff.mpr (nd_once _)
    exact this.imp fun h e => h (by cases e; rfl)
  · refine List.pairwise_map.mpr ((nodup_once_nums x).imp fun {n m} h a ha b hb e => ?_)
    obtain ⟨u, _, rfl⟩ := List.mem_map.mp ha
    obtain ⟨v, _, rfl⟩ := List.mem_map.mp hb
    exact h (by cases e; rfl)
theorem hok {x U : List Lt} (sub : ∀ l ∈ x, l ∈ U) (few : U.length ≤ 30) (ok : ∀ l ∈ U, LtOk l) : HOk x :=
  ⟨Nat.le_trans (nodup_len (letters_nodup x) fun l hl => sub l (mem_letters.mp hl).1) few, fun l hl => (ok l (sub l hl)).e0⟩
theorem lay_q {q : Str × Nat} (h : Nm q.1) : PyData.canLay0 (encQ q) = true := by
  unfold encQ
  simp only [PyData.canLay0, PyData.canLayAll0, h.ok, Bool.and_self]
theorem nm_qs {qs : Qs} (fo : FOk qs) : ∀ q ∈ qs, Nm q.1 := fun q hq => (fo.nm q.1 (List.mem_map.mpr ⟨q, hq, rfl⟩)).mono (by decide)
theorem lay_qs {qs : Qs} (fo : FOk qs) : PyData.canLay0 (qsD qs) = true := by
  unfold qsD
  simp only [PyData.canLay0]
  exact lay_map fun q hq => lay_q (nm_qs fo q hq)
theorem shaped_qs {qs : Qs} (fo : FOk qs) : SeqAt.shaped (qsD qs) = true := by
  have h2 : (qsD qs).depth ≤ 2 := by
    have := depth_map (f := encQ) (n := 1) (l := qs) fun q _ => by
      unfold encQ
      simp [PyData.depth, PyData.depthAll]
    unfold qsD
    simp only [PyData.depth]
    omega
  unfold SeqAt.shaped
  rw [lay_qs fo, Bool.true_and]
  exact decide_eq_true (by omega)
theorem rows_self (rs : List Rw) : PyData.eqv (rwsD rs) (rwsD rs) = true := SeqAt.eqv_refl _ (by
  unfold rwsD
  simp only [PyData.canLay0]
  exact lay_map fun r _ => lay_rw r)
theorem qs_self {qs : Qs} (fo : FOk qs) : PyData.eqv (qsD qs) (qsD qs) = true := SeqAt.eqv_refl _ (lay_qs fo)
/-- a question asked with the other number of answers: another form -/
theorem qs_other {qs : Qs} {q : Str × Nat} {m : Nat} (hm : m ≠ q.2) : PyData.eqv (qsD (qs ++ [q])) (qsD (qs ++ [(q.1, m)])) = false ∧ PyData.eqv (qsD (qs ++ [(q.1, m)])) (qsD (qs ++ [q])) = false := by
  have key : ∀ {a b : Str × Nat}, a.2 ≠ b.2 → ∀ l : Qs, PyData.eqvAll ((l ++ [a]).map encQ) ((l ++ [b]).map encQ) = false := fun {a b} hab l => by
    induction l with
    | nil =>
      have : ¬ (a.2 : Int) = b.2 := by omega
      simp [encQ, PyData.eqvAll, PyData.eqv, this]
    | cons x l ih =>
      simp only [List.cons_append, List.map_cons, PyData.eqvAll]
      rw [ih, Bool.and_false]
  unfold qsD
  simp only [PyData.eqv]
  exact ⟨key (Ne.symm hm) qs, key hm qs⟩
theorem tb_word2 {u : Wd} (h : u.length ≤ 3 ∧ ∀ i ∈ u, i.natAbs ≤ 8) : Tb 1 3 (wordD u) := by
  have a := TbAll.of (n := 0) (W := 0) (es := u.map PyData.int) fun e he => by
    obtain ⟨i, hi, rfl⟩ := List.mem_map.mp he
    have := h.2 i hi
    exact tb_int (Nat.lt_of_le_of_lt this (Nat.lt_of_lt_of_le (show 8 < 2 ^ 4 by decide) (Nat.pow_le_pow_right (by decide) (by decide))))
  rw [List.length_map] at a
  exact (a.more (Nat.le_refl _) (by have := h.1; omega)).tuple
theorem shw_rows {x U : List Lt} {N : Nat} (sub : ∀ l ∈ x, l ∈ U) (few : U.length ≤ N) (ok : ∀ l ∈ U, LtOk l) (pos : Pos x) : Tb 4 (N * (4 * N + 21)) (rwsD (tally x)) := by
  have lw : ∀ n, (sortW (once (Ta.wordsOf x n))).length ≤ N ∧ ∀ u ∈ sortW (once (Ta.wordsOf x n)), (n, last x n, u) ∈ U := fun n => by
    have m : ∀ u ∈ sortW (once (Ta.wordsOf x n)), (n, last x n, u) ∈ U := fun u hu => sub _ (mem_words.mp (mem_once.mp (mem_sortW.mp hu)))
    refine ⟨?_, m⟩
    have nd : ((sortW (once (Ta.wordsOf x n))).map fun u => ((n, last x n, u) : Lt)).Nodup := List.pairwise_map.mpr (((sortW_perm _).nodup_iff.mpr (nd_once _)).imp fun h e => h (by cases e; rfl))
    have := nodup_len nd fun l hl => by
      obtain ⟨u, hu, rfl⟩ := List.mem_map.mp hl
      exact m u hu
    rw [List.length_map] at this
    omega
  have row : ∀ n ∈ nums x, Tb 3 (4 * N + 20) (rwD (n, last x n, sortW (once (Ta.wordsOf x n)))) := fun n hn => by
    obtain ⟨u, hu⟩ := last_at pos hn
    have lo := ok _ (sub _ hu)
    have b1 : n.natAbs < 2 ^ 60 := by have h1 : 0 ≤ n := lo.n0; have h2 : n < 2 ^ 60 := lo.nb; omega
    have b2 : (last x n).natAbs < 2 ^ 60 := by have h1 : 0 ≤ last x n := lo.e0; have h2 : last x n < 2 ^ 60 := lo.eb; omega
    have w60 : (2 : Nat) ^ 60 ≤ 2 ^ 1900 := Nat.pow_le_pow_right (by decide) (by decide)
    have a := TbAll.of (n := 1) (W := 3) (es := (sortW (once (Ta.wordsOf x n))).map wordD) fun e he => by
      obtain ⟨u, hu, rfl⟩ := List.mem_map.mp he
      have := ok _ ((lw n).2 u hu)
      exact tb_word2 ⟨this.wl, this.ws⟩
    rw [List.length_map] at a
    have a := (a.more (Nat.le_refl _) (Z := 4 * N) (by have := (lw n).1; omega)).tuple
    exact ((TbAll.cons ((tb_int (Nat.lt_of_lt_of_le b1 w60)).more (Nat.zero_le _) (Nat.le_refl _)) (.cons ((tb_int (Nat.lt_of_lt_of_le b2 w60)).more (Nat.zero_le _) (Nat.le_refl _)) (.cons a (TbAll.nil.more (Nat.zero_le _) (Nat.le_refl _))))).tuple).more (by decide) (by omega)
  have a := TbAll.of (n := 3) (W := 4 * N + 20) (es := (tally x).map rwD) fun e he => by
    obtain ⟨r, hr, rfl⟩ := List.mem_map.mp he
    obtain ⟨n, hn, rfl⟩ := List.mem_map.mp hr
    exact row n (mem_once.mp (mem_sortI.mp hn))
  have lr : (tally x).length ≤ N := by
    -- each number by one of its letters
    have nd : ((sortI (once (nums x))).map fun n => ((n, last x n, ((Ta.wordsOf x n).head?).getD []) : Lt)).Nodup := List.pairwise_map.mpr ((nodup_once_nums x).imp fun h e => h (by cases e; rfl))
    have := nodup_len nd fun l hl => by
      obtain ⟨n, hn, rfl⟩ := List.mem_map.mp hl
      obtain ⟨u, hu⟩ := last_at pos (mem_once.mp (mem_sortI.mp hn))
      have hw : u ∈ Ta.wordsOf x n := mem_words.mpr hu
      cases q : Ta.wordsOf x n with
      | nil => rw [q] at hw; cases hw
      | cons y ys =>
        have : y ∈ Ta.wordsOf x n := by rw [q]; exact List.mem_cons_self
        exact sub _ (mem_words.mp this)
    rw [List.length_map] at this
    unfold tally
    rw [List.length_map]
    omega
  rw [List.length_map] at a
  exact (a.more (Nat.le_refl _) (Nat.mul_le_mul_right (4 * N + 20 + 1) lr)).tuple
end K33

set_option Elab.async false
set_option linter.all false
set_option maxRecDepth 100000
set_option maxHeartbeats 1000000
/-! K33l: the law's own fractions. -/
namespace K33
open PySem PySem.Spec PyProof.Rows L2 Wb Wv Fm Ta Wf Fq
abbrev sp_lcommon (K : PySem.W.Frag) : Sp := Pf (α := Int × Int) (fun a => [dat K (.int a.1), dat K (.int a.2)]) (fun a => a.2.natAbs < 2 ^ 4000) (fun a => dat K (.int ((Nat.gcd a.1.natAbs a.2.natAbs : Nat) : Int)))
abbrev sp_llow (K : PySem.W.Frag) : Sp := Pf (α := Int × Int) (fun a => [dat K (.int a.1), dat K (.int a.2)]) (fun a => 0 < a.2 ∧ a.2.natAbs < 2 ^ 4000) (fun a => dat K (frD (Rat.divInt a.1 a.2)))
section
variable {P : Program} {w : World} {K : PySem.W.Frag} {mg : Str → Option Value} {base : Heap} {C_Form C_Sheets C_Tally C_InvalidSize C_Refused C_BlankError C_InvalidSheets a_ZERO a_ONE : Addr}
theorem sc_lcommon : FnScope ["one", "other", "step"] ["one", "other"] (defScope s_lcommon) := ⟨rfl, rfl, rfl, by decide +kernel, rfl, by decide +kernel, by decide +kernel⟩
theorem ok_lcommon (D : Def K mg "_law_common" s_lcommon ["one", "other"]) (n_int : mg "int" = none) (n_abs : mg "abs" = none) (n_range : mg "range" = none) : Cal P w K mg base CX0 1 "_law_common" s_lcommon ["one", "other"] (sp_lcommon K) := by
  refine D.ok sc_lcommon (fun vs H Q E h => ?_) (fun cdv f A outer s H vs Q E hr h => ?_)
  · exact pf_len h fun _ => rfl
  replace h := pf2 h
  obtain ⟨v, v1, B, ⟨a, b⟩, rfl, hB, hv, hv1, lb, k⟩ := h
  refine ⟨_, (pss_cons (ps_par (i := 0) (j := 1) rfl sc_lcommon.nd rfl rfl (by decide) rfl rfl (pa_cons (pe_callB call_abs (by rfl) n_abs (by decide +kernel) (pa_cons (pe_callTy call_int1 (by rfl) n_int (by decide +kernel) (pa_cons (pv 0) pa_nil)) pa_nil)) (pa_cons (pe_callB call_abs (by rfl) n_abs (by decide +kernel) (pa_cons (pe_callTy call_int1 (by rfl) n_int (by decide +kernel) (pa_cons (pv 1) pa_nil)) pa_nil)) pa_nil)) (by rfl))
    (pss_cons (ps_for PassesOwn.never rfl (pi_range1 rfl n_range (pa_cons pe_int pa_nil)) (pg_name (i := 2) sc_lcommon.nd rfl (Or.inl rfl)) (pss_cons (ps_if (pt_cmpR op_eq (pv 1) pe_int (nomark _)) (pss_one ps_break) pss_nil)
      (pss_one (ps_par (i := 0) (j := 1) rfl sc_lcommon.nd rfl rfl (by decide) rfl rfl (pa_cons (pv 1) (pa_cons (pe_op op_mod (pe_callTy call_int1 (by rfl) n_int (by decide +kernel) (pa_cons (pv 0) pa_nil)) (pv 1)) pa_nil)) (by rfl)))))
    (pss_one (ps_ret (pv 0))))), ?_⟩
  have hv := dat_int hv
  subst hv
  have hv1 := dat_int hv1
  subst hv1
  have lb : b.natAbs < 2 ^ 4000 := lb
  have k : ∀ (v : V) (B' H' : Hp), Ext B H B' H' → dat K (.int ((Nat.gcd a.natAbs b.natAbs : Nat) : Int)) B' v → Q v H' := k
  have k : Q (.int ((Nat.gcd a.natAbs b.natAbs : Nat) : Int)) H := k _ B H (.refl hB) (.int _)
  have abs_ : ∀ x : Int, (if x < 0 then -x else x) = (x.natAbs : Int) := fun x => by split <;> omega
  refine ⟨_, rfl, .inl ⟨a, rfl, a, rfl, _, rfl, .inl ⟨b, rfl, b, rfl, _, _, rfl, ?_⟩⟩⟩
  rw [abs_, abs_]
  refine ⟨9000, rfl, by decide, by decide, for_range (n := 9000) (fun i σ H' => ∃ (x y : Nat) (v : Option V), σ = [some (.int (x : Int)), some (.int (y : Int)), v] ∧ H' = H ∧ Euc a.natAbs b.natAbs 4000 i x y) ⟨_, _, none, rfl, rfl, rfl, fun _ => ⟨rfl, rfl⟩, fun z => absurd z (by omega)⟩ ?_ ?_⟩
  · rintro i σ H' hi ⟨x, y, v, rfl, rfl, e⟩
    refine ⟨_, rfl, rfl, _, rfl, ?_⟩
    refine ite2 (fun h => ?_) (fun h => ?_)
    · have y0 : y = 0 := by
        have := V.int.inj (of_decide_eq_true h)
        omega
      subst y0
      refine ⟨_, rfl, ?_⟩
      rw [← euc_done e] at k
      exact k
    · have y0 : y ≠ 0 := fun z => h (decide_eq_true (by rw [z]; rfl))
      refine ⟨_, rfl, _, rfl, .inl ⟨_, rfl, _, rfl, _, _, rfl, rfl, (by show (0 : Int) < y; omega), _, _, rfl, ?_⟩⟩
      exact ⟨y, x % y, _, rfl, rfl, euc_step e lb y0⟩
  · rintro σ H' ⟨x, y, v, rfl, rfl, e⟩
    have y0 := euc_end e (by decide)
    subst y0
    refine ⟨_, rfl, ?_⟩
    rw [← euc_done e] at k
    exact k
theorem sc_llow : FnScope ["top", "bottom", "common"] ["top", "bottom"] (defScope s_llow) := ⟨rfl, rfl, rfl, by decide +kernel, rfl, by decide +kernel, by decide +kernel⟩
theorem ok_llow (D : Def K mg "_law_low" s_llow ["top", "bottom"]) (C_lcommon : Cal P w K mg base CX0 1 "_law_common" s_lcommon ["one", "other"] (sp_lcommon K)) (n_int : mg "int" = none) : Cal P w K mg base CX0 2 "_law_low" s_llow ["top", "bottom"] (sp_llow K) := by
  refine D.ok sc_llow (fun vs H Q E h => ?_) (fun cdv f A outer s H vs Q E hr h => ?_)
  · exact pf_len h fun _ => rfl
  replace h := pf2 h
  obtain ⟨v, v1, B, ⟨t, b⟩, rfl, hB, hv, hv1, ⟨b0, lb⟩, k⟩ := h
  refine ⟨_, (pss_cons (ps_set (i := 2) sc_llow.nd rfl (Or.inl rfl) (pe_cal C_lcommon (hr.mono (by decide)) (by rfl) pass0 (pa_cons (pv 0) (pa_cons (pv 1) pa_nil))))
    (pss_one (ps_ret (pe_tup (pa_cons (pe_op op_fdivW (pe_callTy call_int1 (by rfl) n_int (by decide +kernel) (pa_cons (pv 0) pa_nil)) (pv 2)) (pa_cons (pe_op op_fdivW (pe_callTy call_int1 (by rfl) n_int (by decide +kernel) (pa_cons (pv 1) pa_nil)) (pv 2)) pa_nil)))))), ?_⟩
  have b0 : 0 < b := b0
  have lb : b.natAbs < 2 ^ 4000 := lb
  have hv := dat_int hv
  subst hv
  have hv1 := dat_int hv1
  subst hv1
  have up : 2 ^ 4000 ≤ 2 ^ 7000 := Nat.pow_le_pow_right (by decide) (by decide)
  refine s_set (De.call (args := fun a : Int × Int => [dat K (.int a.1), dat K (.int a.2)]) (res := fun a => dat K (.int ((Nat.gcd a.1.natAbs a.2.natAbs : Nat) : Int))) (t, b) (.cons (.var (Dp.int t) rfl) (.one (.var (Dp.int b) rfl))) lb) hB fun v2 B1 H1 e1 h2 => ?_
  have gl : ((Nat.gcd t.natAbs b.natAbs : Nat) : Int).natAbs < 2 ^ 7000 := by
    rw [Int.natAbs_natCast]
    exact Nat.lt_of_le_of_lt (Nat.gcd_le_right _ (by omega)) (Nat.lt_of_lt_of_le lb up)
  have gp : (0 : Int) < ((Nat.gcd t.natAbs b.natAbs : Nat) : Int) := by have := gcd_pos (t := t) b0; omega
  obtain ⟨f1, f2⟩ := low_val t b b0
  refine s_ret (De.eq (De.tupI (K := K) (.cons (.op (De.intI (.var (Dp.int _) rfl)) (.var h2 rfl) (Rv.I (wide_div gp gl (by decide) (by decide)))) (.cons (.op (De.intI (.var (Dp.int _) rfl)) (.var h2 rfl) (Rv.I (wide_div gp gl (by decide) (by decide)))) .nil))) (e := frD (Rat.divInt t b)) ?_) e1.bh fun v B H e hv => k v B H (e1.trans e) hv
  unfold frD
  rw [← f1, ← f2]
theorem De.low4 {σ : L2.St} {B : Hp} {ta tb : TE} {E : XK} {t b : Int} (h : De ta σ B (dat K (.int t))) (h2 : De tb σ B (dat K (.int b))) (b0 : 0 < b) (lb : b.natAbs < 2 ^ 4000) : De (tCall (sp_llow K) [] E (tCons ta (tCons tb tNil))) σ B (dat K (frD (Rat.divInt t b))) := De.call (args := fun a : Int × Int => [dat K (.int a.1), dat K (.int a.2)]) (res := fun a => dat K (frD (Rat.divInt a.1 a.2))) (t, b) (.cons h (.cons h2 .nil)) ⟨b0, lb⟩
end
end K33

set_option Elab.async false
set_option linter.all false
set_option maxRecDepth 100000
set_option maxHeartbeats 1000000
/-! K33m: what is in doubt, gone, counted; even tables. -/
namespace K33
open PySem PySem.Spec PyProof.Rows L2 Wb Wv Fm Ta Wf Fq
abbrev Sr := List Int × Rat
def rdD (p : Sr) : PyData := .tuple [rowD p.1, frD p.2]
def gathS (ps : List Sr) : List Sr := sumsG rowD ps
def tabR (K : PySem.W.Frag) (CF CS : Addr) (qs : Qs) (ps : List Sr) : Rel := insR CS [("form", formR K CF qs), ("shares", dat K (.tuple (ps.map rdD)))]
instance {K : PySem.W.Frag} {CF CS : Addr} {qs : Qs} {ps : List Sr} : Mo (tabR K CF CS qs ps) := by unfold tabR; infer_instance
def spGathS (K : PySem.W.Frag) (CF CS CR : Addr) : Sp := fun vs H Q E => ∃ (x y : V) (B : Hp) (qs : Qs) (ps : List Sr) (way : Bool), vs = [x, y] ∧ Same B H ∧ formR K CF qs B x ∧ dat K (seqD way (ps.map rdD)) B y ∧ (Szs ps.length (ps.map (·.2)) ∧ Szs (gathS ps).length ((gathS ps).map (·.2))) ∧
  (sumR ((gathS ps).map (·.2)) = 1 → ∀ v B' H', Ext B H B' H' → tabR K CF CS qs (gathS ps) B' v → Q v H') ∧
  (sumR ((gathS ps).map (·.2)) ≠ 1 → ∀ B' H' dx, Ext B H B' H' → H' dx = none → E (.ref CR) (some dx) (upd H' dx (.xd [("word", .str "total")])))
theorem szs_few {n : Nat} {qs : List Rat} (h : Szs n qs) : n ≤ 6000 := by
  obtain ⟨k, k1, _, k3, _⟩ := h
  have : n * 1 ≤ n * k := Nat.mul_le_mul_left _ k1
  omega

/-! ### what each promises -/
def dbL (rs : List Rw) : List Int := (rs.filter fun r => decide (1 < r.2.2.length)).map (·.1)
def gnL (rs : List Rw) : List Int := (rs.filter fun r => decide (r.2.2 = [[]])).map (·.1)
def cnL (rs : List Rw) : List (Int × Wd) := (rs.filter fun r => decide (r.2.2.length = 1) && decide (r.2.2.headD [] ≠ [])).map fun r => (r.1, r.2.2.headD [])
def npD (p : Int × Wd) : PyData := .tuple [.int p.1, wdD p.2]
def edL (rs : List Rw) (n : Int) : List Int := (rs.filter fun r => decide (r.1 = n)).map (·.2.1)
def nextE (rs : List Rw) (n : Int) : Int := if edL rs n = [] then 0 else (edL rs n).headD 0 + 1
def evenT (ws : List Wd) : List Sr := ws.map fun w => (w, Rat.divInt 1 ws.length)
abbrev TlOk (ls : List Lt) : Prop := (tally ls).length ≤ 60
abbrev sp_doubts (K : PySem.W.Frag) (CF CT : Addr) : Sp := Pf (α := Qs × List Lt) (fun a => [tallyR K CF CT a.1 a.2]) (fun a => TlOk a.2) (fun a => dat K (.tuple ((dbL (tally a.2)).map .int)))
abbrev sp_gone (K : PySem.W.Frag) (CF CT : Addr) : Sp := Pf (α := Qs × List Lt) (fun a => [tallyR K CF CT a.1 a.2]) (fun a => TlOk a.2) (fun a => dat K (.tuple ((gnL (tally a.2)).map .int)))
abbrev sp_counted (K : PySem.W.Frag) (CF CT : Addr) : Sp := Pf (α := Qs × List Lt) (fun a => [tallyR K CF CT a.1 a.2]) (fun a => TlOk a.2) (fun a => dat K (.tuple ((cnL (tally a.2)).map npD)))
abbrev sp_nextLetter (K : PySem.W.Frag) (CF CT : Addr) : Sp := Pf (α := (Qs × List Lt) × Int × Wd) (fun a => [tallyR K CF CT a.1.1 a.1.2, dat K (.int a.2.1), dat K (wdD a.2.2)]) (fun a => TlOk a.1.2) (fun a => dat K (ltD (a.2.1, nextE (tally a.1.2) a.2.1, a.2.2)))
def spEven (K : PySem.W.Frag) (CF CS CR : Addr) : Sp := fun vs H Q E => ∃ (x y : V) (B : Hp) (qs : Qs) (ws : List Wd), vs = [x, y] ∧ Same B H ∧ formR K CF qs B x ∧ dat K (.list (ws.map wdD)) B y ∧ ws.length ≤ 60 ∧
  (ws ≠ [] → ∀ v B' H', Ext B H B' H' → tabR K CF CS qs (gathS (evenT ws)) B' v → Q v H') ∧
  (ws = [] → ∀ B' H' dx, Ext B H B' H' → H' dx = none → E (.ref CR) (some dx) (upd H' dx (.xd [("word", .str "none")])))
def spCountS (K : PySem.W.Frag) (CF CS CT CR : Addr) : Sp := fun vs H Q E => ∃ (x : V) (B : Hp) (qs : Qs) (ls : List Lt), vs = [x] ∧ Same B H ∧ tallyR K CF CT qs ls B x ∧ TlOk ls ∧
  (cnL (tally ls) ≠ [] → ∀ v B' H', Ext B H B' H' → tabR K CF CS qs (gathS (evenT ((cnL (tally ls)).map (·.2)))) B' v → Q v H') ∧
  (cnL (tally ls) = [] → ∀ B' H' dx, Ext B H B' H' → H' dx = none → E (.ref CR) (some dx) (upd H' dx (.xd [("word", .str "none")])))
theorem sum_div {S : Int} (h : S ≠ 0) : ∀ ns : List Int, sumR (ns.map fun n => Rat.divInt n S) = Rat.divInt ns.sum S
  | [] => by
    show (0 : Rat) = Rat.divInt 0 S
    exact (Rat.zero_divInt _).symm
  | n :: ns => by
    rw [List.map_cons, List.sum_cons, ← div_add h, ← sum_div h ns]
    rfl
theorem Dt.truL {K : PySem.W.Frag} {σ : L2.St} {B : Hp} {te : TE} {ds : List PyData} (h : De te σ B (dat K (.list ds))) : Dt (fun σ H Q => te σ H fun x H' => ∃ k, TruV K x H' k ∧ Q k H') σ B (!ds.isEmpty) := fun B1 H s1 s2 Q q => h B1 H s1 s2 _ fun x B2 H2 e hx => by
  obtain ⟨a, xs, rfl, hs, hR⟩ := dat_lstR hx
  refine ⟨!ds.isEmpty, .inl ⟨xs, e.bh.seq hs, ?_⟩, q B2 H2 e⟩
  have := allR_len hR
  rw [List.length_map] at this
  cases xs <;> cases ds <;> simp_all
theorem div_sum (n : Int) : ∀ k : Nat, sumR ((List.replicate k (1 : Int)).map fun m => Rat.divInt m n) = sumR (List.replicate k (Rat.divInt 1 n)) := fun k => by rw [List.map_replicate]
theorem sum_ones : ∀ k : Nat, (List.replicate k (1 : Int)).sum = (k : Int)
  | 0 => rfl
  | k + 1 => by rw [List.replicate_succ, List.sum_cons, sum_ones k]; omega
theorem even_wh {ws : List Wd} (ne : ws ≠ []) (few : ws.length ≤ 60) : Wh (ws.length : Int) 12 (evenT ws) := by
  have l1 : 0 < ws.length := len_pos ne
  have n0 : (ws.length : Int) ≠ 0 := by omega
  refine ⟨by omega, by omega, fun p hp => ?_, fun p hp => ?_, ?_⟩
  · obtain ⟨u, _, rfl⟩ := List.mem_map.mp hp
    exact ⟨1, rfl⟩
  · obtain ⟨u, _, rfl⟩ := List.mem_map.mp hp
    exact (Rat.divInt_nonneg_iff_of_pos_right (show (0 : Int) < ws.length by omega)).mpr (by decide)
  · have e : (evenT ws).map (·.2) = (List.replicate ws.length (1 : Int)).map fun m => Rat.divInt m ws.length := by
      unfold evenT
      rw [List.map_map, List.map_replicate]
      exact List.map_const' .. 
    rw [e, sum_div n0, sum_ones, div_one n0]
theorem even_szs {ws : List Wd} (ne : ws ≠ []) (few : ws.length ≤ 60) : Szs (evenT ws).length ((evenT ws).map (·.2)) ∧ Szs (gathS (evenT ws)).length ((gathS (evenT ws)).map (·.2)) ∧ sumR ((gathS (evenT ws)).map (·.2)) = 1 := by
  have w1 := even_wh ne few
  have w2 : Wh (ws.length : Int) 12 (gathS (evenT ws)) := w1.sums
  have l1 : (evenT ws).length ≤ 60 := by unfold evenT; rw [List.length_map]; exact few
  exact ⟨w1.szs l1, w2.szs (Nat.le_trans (sumsG_len _ _) l1), w2.sum⟩
section
variable {P : Program} {w : World} {K : PySem.W.Frag} {mg : Str → Option Value} {base : Heap} {C_Form C_Sheets C_Tally C_InvalidSize C_Refused C_BlankError C_InvalidSheets a_ZERO a_ONE : Addr}
theorem fldFS {σ : L2.St} {B : Hp} {te : TE} {qs : Qs} {ts : List Sr} (c : CalC P w K mg base "Sheets" C_Sheets ["form", "shares"]) (h : De te σ B (tabR K C_Form C_Sheets qs ts)) : De (tFld K te "form") σ B (formR K C_Form qs) := De.fld h c.c (c.na "form" (by simp)) rfl
theorem fldSS {σ : L2.St} {B : Hp} {te : TE} {qs : Qs} {ts : List Sr} (c : CalC P w K mg base "Sheets" C_Sheets ["form", "shares"]) (h : De te σ B (tabR K C_Form C_Sheets qs ts)) : De (tFld K te "shares") σ B (dat K (.tuple (ts.map rdD))) := De.fld h c.c (c.na "shares" (by simp)) rfl

theorem s_retCS {sp : Sp} {E : L2.St → XK} {t : TA} {Rs : List Rel} {σ : L2.St} {B H : Hp} {D : Ends} (h : Da t σ B Rs) (hB : Same B H) (k : ∀ vs B' H', Ext B H B' H' → AllR Rs B' vs → sp vs H' (fun v H1 => D.rt v H1) (E σ)) : tRet (tCallS sp E t) D σ H := h B H (Same.refl _) hB _ k

theorem De.tabMake {σ : L2.St} {B : Hp} {E : XK} {ta tb : TE} {qs : Qs} {ps : List Sr} (h1 : De ta σ B (formR K C_Form qs)) (h2 : De tb σ B (dat K (.tuple (ps.map rdD)))) : De (tMake C_Sheets (spIns C_Sheets ["form", "shares"]) [] E (tCons ta (tCons tb tNil))) σ B (tabR K C_Form C_Sheets qs ps) :=
  De.make (fs := ["form", "shares"]) (Rs := [formR K C_Form qs, dat K (.tuple (ps.map rdD))]) (.cons h1 (.cons h2 .nil)) rfl

theorem sc_gatheredSheets : FnScope ["form", "shares", "found", "pair"] ["form", "shares"] (defScope s_gatheredSheets) := ⟨rfl, rfl, rfl, by decide +kernel, rfl, by decide +kernel, by decide +kernel⟩
theorem ok_gatheredSheets (D : Def K mg "gathered_sheets" s_gatheredSheets ["form", "shares"]) (C_addedUp : Cal P w K mg base CX0 5 "added_up" s_addedUp ["pairs"] (spAddedQ K)) (C_totalOf : Cal P w K mg base CX0 4 "total_of" s_totalOf ["some"] (spTotalD K)) (m_ONE : mg "ONE" = some (.ref a_ONE)) (Z_Refused : Err P w K mg base "Refused" "word" C_Refused (topE C_BlankError)) (K_Sheets : CalC P w K mg base "Sheets" C_Sheets ["form", "shares"]) (c_ONE : ∀ H, SqT K H a_ONE [.int 1, .int 1]) : Cal P w K mg base (L2.CX P w) 6 "gathered_sheets" s_gatheredSheets ["form", "shares"] (spGathS K C_Form C_Sheets C_Refused) := by
  refine D.okX sc_gatheredSheets (fun vs H Q E h => ?_) (fun cdv f A outer s H vs Q E hr h => ?_)
  · obtain ⟨v, v1, B, qs, ps, way, rfl, _⟩ := h
    rfl
  obtain ⟨v, v1, B, qs, ps, way, rfl, hB, hv, hv1, ⟨sz, gz⟩, kr, kx⟩ := h
  refine ⟨_, (pss_cons (ps_set (i := 2) sc_gatheredSheets.nd rfl (Or.inl rfl) (pe_cal C_addedUp (hr.mono (by decide)) (by rfl) pass0 (pa_cons (pv 1) pa_nil)))
    (pss_cons (ps_if (pt_cmpR (op_neD hr.units) (pe_cal C_totalOf (hr.mono (by decide)) (by rfl) pass0 (pa_cons (pe_lc (own := [("pair", 3)]) (g := gName 3) (tt := tYes) rfl sc_gatheredSheets.nd (pi_tup (pv 2)) (blkOk_by (own := [("pair", 3)]) (N := ["form", "shares", "found", "pair"]) (sc := defScope s_gatheredSheets) (by decide +kernel)) (fun _ _ _ _ _ => (pg_name (i := 3) sc_gatheredSheets.nd rfl (Or.inl rfl))) (fun _ _ _ _ _ => pts_nil) (fun _ _ _ _ _ => (pe_ix (r := rIxT K) ix_tup (pv 3) pe_int (fun _ _ => rfl)))) pa_nil)) (pe_glob (by rfl) m_ONE (show RelV (.ref a_ONE) (.ref a_ONE) from rfl)) (nomark _)) (pss_one (ps_raise rfl (takes_of rfl rfl rfl rfl) (pmk_E Z_Refused hr (by decide) rfl (pa_cons pe_str pa_nil)))) pss_nil)
    (pss_one (ps_ret (pe_calC K_Sheets hr (by decide) (by rfl) (pa_cons (pv 0) (pa_cons (pv 2) pa_nil))))))), ?_⟩
  have few := szs_few sz
  have line := sizeLine_eq
  have gl : (gathS ps).length ≤ ps.length := sumsG_len _ _
  have e : (fun a => (rowK a).data) = rowD := funext rowK_data
  refine s_set (De.addedQ (ps := ps) way (κ := rowK) rowK_inj (kf_row sz) (De.eq (.var hv1 rfl) (by simp only [rowK_data]; rfl))) hB fun u B1 H1 e1 hu => ?_
  have hu : dat K (.tuple ((gathS ps).map rdD)) B1 u := by
    unfold gathS
    rw [← e]
    simp only [rowK_data] at hu ⊢
    exact hu
  have hv := Mo.mo e1.bb hv
  obtain ⟨m, m1, m3, mk, sz2⟩ := gz
  have tot : De (tCall (spTotalD K) [] E0 (tCons (tLc (iTup K (tVar 2)) (gName 3) tYes (tOp (rIxT K) (tVar 3) (tC (.int 1))) [3]) tNil)) [some v, some v1, some u, none] B1 (dat K (frD (sumR ((gathS ps).map (·.2))))) :=
    De.total (qs := (gathS ps).map (·.2)) (De.eq (De.lcA (K := K) (as := gathS ps) (r := fun p => dat K (rdD p)) (Di.tupM (f := rdD) (.var hu rfl)) (fun p => frD p.2) (by omega) fun p x Bn Hn hp sn sh hx => ⟨[some v, some v1, some u, some x], fun Q q => q, rfl, De.op (r := rIxT K) (.var hx rfl) .int (Rv.ixTD (i := ((1 : Nat) : Int)) (atI_nat rfl))⟩) (by rw [List.map_map]; rfl)) m1 m3 (by rw [List.length_map]; exact mk) sz2
  have o1 : PyData.tuple [.int 1, .int 1] = frD 1 := rfl
  refine s_ifS (b := !decide (sumR ((gathS ps).map (·.2)) = 1)) (Dt.eq (Dt.test (K := K) (De.op (r := rNeD K) tot (De.cstT c_ONE) (Rv.neD (frD_shaped _) rfl))) (by rw [o1, frD_eqv])) e1.bh (fun t B2 H2 e2 => ?_) fun f B2 H2 e2 => ?_
  · have t : sumR ((gathS ps).map (·.2)) ≠ 1 := by simpa using t
    exact ⟨.str "total", rfl, fun dx hdx => kx t B2 H2 dx (e1.trans e2) hdx⟩
  · have f : sumR ((gathS ps).map (·.2)) = 1 := by simpa using f
    exact s_ret (De.tabMake (.var (Mo.mo e2.bb hv) rfl) (.var (Mo.mo e2.bb hu) rfl)) e2.bh fun v B H e h => kr f v B H ((e1.trans e2).trans e) h

theorem sc_evenSheets : FnScope ["form", "some", "sheet"] ["form", "some"] (defScope s_evenSheets) := ⟨rfl, rfl, rfl, by decide +kernel, rfl, by decide +kernel, by decide +kernel⟩
theorem ok_evenSheets (D : Def K mg "even_sheets" s_evenSheets ["form", "some"]) (Z_Refused : Err P w K mg base "Refused" "word" C_Refused (topE C_BlankError)) (C_gatheredSheets : Cal P w K mg base (L2.CX P w) 6 "gathered_sheets" s_gatheredSheets ["form", "shares"] (spGathS K C_Form C_Sheets C_Refused)) (C_fraction : Cal P w K mg base (L2.CX P w) 3 "fraction" s_fraction ["top", "bottom"] (spFracD K C_InvalidSize)) (n_len : mg "len" = none) : Cal P w K mg base (L2.CX P w) 7 "even_sheets" s_evenSheets ["form", "some"] (spEven K C_Form C_Sheets C_Refused) := by
  refine D.okX sc_evenSheets (fun vs H Q E h => ?_) (fun cdv f A outer s H vs Q E hr h => ?_)
  · obtain ⟨v, v1, B, qs, ws, rfl, _⟩ := h
    rfl
  obtain ⟨v, v1, B, qs, ws, rfl, hB, hv, hv1, few, kr, kx⟩ := h
  refine ⟨_, (pss_cons (ps_if (pt_not (pt_truth (pv 1) (by intro _; rfl))) (pss_one (ps_raise rfl (takes_of rfl rfl rfl rfl) (pmk_E Z_Refused hr (by decide) rfl (pa_cons pe_str pa_nil)))) pss_nil)
    (pss_one (ps_ret (pe_calS C_gatheredSheets (hr.mono (by decide)) (by rfl) (fun σ => passAt (takes_of rfl rfl rfl rfl) σ) (pa_cons (pv 0) (pa_cons (pe_lc (own := [("sheet", 2)]) (g := gName 2) (tt := tYes) rfl sc_evenSheets.nd (pi_list (pv 1)) (blkOk_by (own := [("sheet", 2)]) (N := ["form", "some", "sheet"]) (sc := defScope s_evenSheets) (by decide +kernel)) (fun _ _ _ _ _ => (pg_name (i := 2) sc_evenSheets.nd rfl (Or.inl rfl))) (fun _ _ _ _ _ => pts_nil) (fun _ _ _ _ _ => (pe_tup (pa_cons (pv 2) (pa_cons (pe_cal C_fraction.quiet (hr.mono (by decide)) (by rfl) pass0 (pa_cons pe_int (pa_cons (pe_callB (id := "len") (r := Wv.rLen K) call_len (by rfl) n_len (by decide +kernel) (pa_cons (pv 1) pa_nil)) pa_nil))) pa_nil))))) pa_nil)))))), ?_⟩
  have line := sizeLine_eq
  refine s_ifS (b := ws.isEmpty) (Dt.eq (Dt.not (Dt.truL (K := K) (ds := ws.map wdD) (.var hv1 rfl))) (by cases ws <;> rfl)) hB (fun t B1 H1 e1 => ?_) fun f B1 H1 e1 => ?_
  · exact ⟨.str "none", rfl, fun dx hdx => kx (List.isEmpty_iff.mp t) B1 H1 dx e1 hdx⟩
  · have ne : ws ≠ [] := fun e => by rw [e] at f; cases f
    have hv := Mo.mo e1.bb hv
    have hv1 := Mo.mo e1.bb hv1
    have n0 : (ws.length : Int) ≠ 0 := by have := len_pos ne; omega
    dsimp only [tNext]
    change tRet _ _ [some v, some v1, none] H1
    refine s_retCS (Rs := [formR K C_Form qs, dat K (.list ((evenT ws).map rdD))]) (.cons (.var hv rfl) (.cons (De.eq (De.lcA (K := K) (as := ws) (r := fun w => dat K (wdD w)) (Di.listM (f := wdD) (.var hv1 rfl)) (fun w => rdD (w, Rat.divInt 1 ws.length)) (by omega) fun w x Bn Hn hw sn sh hx => ⟨[some v, some v1, some x], fun Q q => q, rfl, ?_⟩) (by unfold evenT; rw [List.map_map]; rfl)) .nil)) e1.bh fun vs B2 H2 e2 hvs => ?_
    · refine De.tupD (ds := [rowD w, frD (Rat.divInt 1 ws.length)]) (.cons (.var hx rfl) (.cons (De.frac (K := K) (t := 1) (b := (ws.length : Int)) (.cons .int (.cons (De.eq (De.lenL (ds := ws.map wdD) (.var (Mo.mo sn hv1) rfl)) (by rw [List.length_map])) .nil)) n0 ?_) .nil)) (by rw [line]; show 2 ≤ _; decide)
      exact Nat.lt_of_lt_of_le (show (ws.length : Int).natAbs < 2 ^ 12 by omega) (Nat.pow_le_pow_right (by decide) (by decide))
    · obtain ⟨x, r1, rfl, hx, y, r2, rfl, hy, hr⟩ := hvs
      have hr : r2 = [] := hr
      subst hr
      obtain ⟨z1, z2, one⟩ := even_szs ne few
      exact ⟨x, y, B2, qs, evenT ws, false, rfl, e2.bh, hx, hy, ⟨z1, z2⟩, fun _ v B' H' e' h => kr ne v B' H' ((e1.trans e2).trans e') h, fun n => absurd one n⟩
end
end K33

set_option Elab.async false
set_option linter.all false
set_option maxRecDepth 100000
set_option maxHeartbeats 1000000
/-! K33n: doubts, gone, counted, the next letter, sheets counted. -/
namespace K33
open PySem PySem.Spec PyProof.Rows L2 Wb Wv Fm Ta Wf Fq
theorem words_one (ws : List Wd) : PyData.eqv (.tuple (ws.map wdD)) (.tuple [.tuple []]) = decide (ws = [[]]) := by
  have e0 : PyData.tuple [] = wordD [] := rfl
  rw [e0]
  cases ws with
  | nil => simp [PyData.eqv, PyData.eqvAll]
  | cons u l => cases l with
    | nil =>
      rw [List.map_cons, List.map_nil]
      simp only [PyData.eqv, PyData.eqvAll, Bool.and_true]
      show PyData.eqv (wordD u) (wordD []) = _
      rw [eqv_word]
      simp
    | cons w l => simp [PyData.eqv, PyData.eqvAll]
theorem shaped_words (ws : List Wd) : SeqAt.shaped (.tuple (ws.map wdD)) = true := by
  have h1 : PyData.canLayAll0 (ws.map wdD) = true := lay_map fun x _ => lay_word x
  have h2 := depth_map (f := wdD) (n := 1) (l := ws) fun x _ => depth_word x
  unfold SeqAt.shaped
  simp only [PyData.canLay0, h1, PyData.depth, Bool.true_and]
  exact decide_eq_true (by omega)
theorem shaped_wd (u : Wd) : SeqAt.shaped (wdD u) = true := by
  have h := depth_word u
  unfold SeqAt.shaped
  rw [show PyData.canLay0 (wdD u) = true from lay_word u]
  have h : (wdD u).depth ≤ 1 := h
  exact decide_eq_true (by omega)
section
variable {P : Program} {w : World} {K : PySem.W.Frag} {mg : Str → Option Value} {base : Heap} {C_Form C_Sheets C_Tally C_InvalidSize C_Refused C_BlankError C_InvalidSheets a_ZERO a_ONE : Addr}
theorem sc_doubts : FnScope ["tally", "number", "_", "words"] ["tally"] (defScope s_doubts) := ⟨rfl, rfl, rfl, by decide +kernel, rfl, by decide +kernel, by decide +kernel⟩
theorem ok_doubts (D : Def K mg "doubts" s_doubts ["tally"]) (n_len : mg "len" = none) (n_tuple : mg "tuple" = none) (K_Tally : CalC P w K mg base "Tally" C_Tally ["form", "rows"]) : Cal P w K mg base CX0 1 "doubts" s_doubts ["tally"] (sp_doubts K C_Form C_Tally) := by
  refine D.ok sc_doubts (fun vs H Q E h => ?_) (fun cdv f A outer s H vs Q E hr h => ?_)
  · exact pf_len h fun _ => rfl
  replace h := pf1 h
  obtain ⟨v, B, ⟨qs, ls⟩, rfl, hB, hv, ok, k⟩ := h
  refine ⟨_, (pss_one (ps_ret (pe_callTy call_tuple_of (by rfl) n_tuple (by decide +kernel) (pa_cons (pe_lc (own := [("number", 1), ("_", 2), ("words", 3)]) (g := gTup K 3 (gCons (gName 1) (gCons (gName 2) (gCons (gName 3) gNil)))) rfl sc_doubts.nd (pi_tup (pe_fld (pv 0) rfl)) (blkOk_by (own := [("number", 1), ("_", 2), ("words", 3)]) (N := ["tally", "number", "_", "words"]) (sc := defScope s_doubts) (by decide +kernel)) (fun _ _ _ _ _ => (pg_tup rfl (pgs_cons (pg_name (i := 1) sc_doubts.nd rfl (Or.inl rfl)) (pgs_cons (pg_name (i := 2) sc_doubts.nd rfl (Or.inl rfl)) (pgs_cons (pg_name (i := 3) sc_doubts.nd rfl (Or.inl rfl)) pgs_nil))))) (fun _ _ _ _ _ => pts_one (pt_cmpR op_gt (pe_callB (id := "len") (r := Wv.rLen K) call_len (by rfl) n_len (by decide +kernel) (pa_cons (pv 3) pa_nil)) pe_int (nomark _))) (fun _ _ _ _ _ => (pv 1))) pa_nil)))), ?_⟩
  have line := sizeLine_eq
  have ok : (tally ls).length ≤ 60 := ok
  have hv : tallyR K C_Form C_Tally qs ls B v := hv
  refine s_ret (De.eq (De.tupleL (De.lcD (K := K) (as := tally ls) (r := fun r => dat K (rwD r)) (Di.tupM (f := rwD) (fldRows (P := P) (w := w) (mg := mg) (base := base) K_Tally (.var hv rfl))) (fun r : Rw => decide (1 < r.2.2.length)) (fun r : Rw => .int r.1) (by omega) fun r x Bn Hn hr sn sh hx => ?_)) (by unfold dbL; rw [List.map_map]; rfl)) hB k
  obtain ⟨x1, x2, x3, g1, g2, g3, go⟩ := gTup3 sh (dat_tupR (ds := [.int r.1, .int r.2.1, .tuple (r.2.2.map wdD)]) hx)
  refine ⟨_, fun Q q => go Q q, rfl, Dt.eq (Dt.test (K := K) (De.op (De.eq (De.lenT (ds := r.2.2.map wdD) (.var g3 rfl)) (by rw [List.length_map])) .int (Rv.I0b (f := fun i j => decide (j < i))))) ?_, fun _ => .var g1 rfl⟩
  exact decide_eq_decide.mpr ⟨fun h => by omega, fun h => by omega⟩
theorem sc_gone : FnScope ["tally", "number", "_", "words"] ["tally"] (defScope s_gone) := ⟨rfl, rfl, rfl, by decide +kernel, rfl, by decide +kernel, by decide +kernel⟩
theorem ok_gone (D : Def K mg "gone" s_gone ["tally"]) (n_tuple : mg "tuple" = none) (K_Tally : CalC P w K mg base "Tally" C_Tally ["form", "rows"]) : Cal P w K mg base CX0 1 "gone" s_gone ["tally"] (sp_gone K C_Form C_Tally) := by
  refine D.ok sc_gone (fun vs H Q E h => ?_) (fun cdv f A outer s H vs Q E hr h => ?_)
  · exact pf_len h fun _ => rfl
  replace h := pf1 h
  obtain ⟨v, B, ⟨qs, ls⟩, rfl, hB, hv, ok, k⟩ := h
  refine ⟨_, (pss_one (ps_ret (pe_callTy call_tuple_of (by rfl) n_tuple (by decide +kernel) (pa_cons (pe_lc (own := [("number", 1), ("_", 2), ("words", 3)]) (g := gTup K 3 (gCons (gName 1) (gCons (gName 2) (gCons (gName 3) gNil)))) rfl sc_gone.nd (pi_tup (pe_fld (pv 0) rfl)) (blkOk_by (own := [("number", 1), ("_", 2), ("words", 3)]) (N := ["tally", "number", "_", "words"]) (sc := defScope s_gone) (by decide +kernel)) (fun _ _ _ _ _ => (pg_tup rfl (pgs_cons (pg_name (i := 1) sc_gone.nd rfl (Or.inl rfl)) (pgs_cons (pg_name (i := 2) sc_gone.nd rfl (Or.inl rfl)) (pgs_cons (pg_name (i := 3) sc_gone.nd rfl (Or.inl rfl)) pgs_nil))))) (fun _ _ _ _ _ => pts_one (pt_cmpR (r := rEqD K) (op_eqD hr.units) (pv 3) (pe_tup (pa_cons (pe_tup pa_nil) pa_nil)) (nomark _))) (fun _ _ _ _ _ => (pv 1))) pa_nil)))), ?_⟩
  have line := sizeLine_eq
  have ok : (tally ls).length ≤ 60 := ok
  have hv : tallyR K C_Form C_Tally qs ls B v := hv
  refine s_ret (De.eq (De.tupleL (De.lcD (K := K) (as := tally ls) (r := fun r => dat K (rwD r)) (Di.tupM (f := rwD) (fldRows (P := P) (w := w) (mg := mg) (base := base) K_Tally (.var hv rfl))) (fun r : Rw => decide (r.2.2 = [[]])) (fun r : Rw => .int r.1) (by omega) fun r x Bn Hn hr sn sh hx => ?_)) (by unfold gnL; rw [List.map_map]; rfl)) hB k
  obtain ⟨x1, x2, x3, g1, g2, g3, go⟩ := gTup3 sh (dat_tupR (ds := [.int r.1, .int r.2.1, .tuple (r.2.2.map wdD)]) hx)
  exact ⟨_, fun Q q => go Q q, rfl, Dt.eq (Dt.test (K := K) (De.op (r := rEqD K) (.var g3 rfl) (De.tupD (ds := [.tuple []]) (.cons (De.tupD (ds := []) .nil (by rw [line]; show 0 ≤ _; decide)) .nil) (by rw [line]; show 1 ≤ _; decide)) (Rv.eqD (shaped_words _) rfl))) (words_one _), fun _ => .var g1 rfl⟩
theorem sc_counted : FnScope ["tally", "number", "_", "words"] ["tally"] (defScope s_counted) := ⟨rfl, rfl, rfl, by decide +kernel, rfl, by decide +kernel, by decide +kernel⟩
theorem ok_counted (D : Def K mg "counted" s_counted ["tally"]) (n_len : mg "len" = none) (n_tuple : mg "tuple" = none) (K_Tally : CalC P w K mg base "Tally" C_Tally ["form", "rows"]) : Cal P w K mg base CX0 1 "counted" s_counted ["tally"] (sp_counted K C_Form C_Tally) := by
  refine D.ok sc_counted (fun vs H Q E h => ?_) (fun cdv f A outer s H vs Q E hr h => ?_)
  · exact pf_len h fun _ => rfl
  replace h := pf1 h
  obtain ⟨v, B, ⟨qs, ls⟩, rfl, hB, hv, ok, k⟩ := h
  refine ⟨_, (pss_one (ps_ret (pe_callTy call_tuple_of (by rfl) n_tuple (by decide +kernel) (pa_cons (pe_lc (own := [("number", 1), ("_", 2), ("words", 3)]) (g := gTup K 3 (gCons (gName 1) (gCons (gName 2) (gCons (gName 3) gNil)))) rfl sc_counted.nd (pi_tup (pe_fld (pv 0) rfl)) (blkOk_by (own := [("number", 1), ("_", 2), ("words", 3)]) (N := ["tally", "number", "_", "words"]) (sc := defScope s_counted) (by decide +kernel)) (fun _ _ _ _ _ => (pg_tup rfl (pgs_cons (pg_name (i := 1) sc_counted.nd rfl (Or.inl rfl)) (pgs_cons (pg_name (i := 2) sc_counted.nd rfl (Or.inl rfl)) (pgs_cons (pg_name (i := 3) sc_counted.nd rfl (Or.inl rfl)) pgs_nil))))) (fun _ _ _ _ _ => pts_one (PW.pt (pw_and (pt_cmpR op_eq (pe_callB (id := "len") (r := Wv.rLen K) call_len (by rfl) n_len (by decide +kernel) (pa_cons (pv 3) pa_nil)) pe_int (nomark _)) (pw_and1 (pt_cmpR (r := rNeD K) (op_neD hr.units) (pe_ix (r := rIxT K) ix_tup (pv 3) pe_int (fun _ _ => rfl)) (pe_tup pa_nil) (nomark _)))))) (fun _ _ _ _ _ => (pe_tup (pa_cons (pv 1) (pa_cons (pe_ix (r := rIxT K) ix_tup (pv 3) pe_int (fun _ _ => rfl)) pa_nil))))) pa_nil)))), ?_⟩
  have line := sizeLine_eq
  have ok : (tally ls).length ≤ 60 := ok
  have hv : tallyR K C_Form C_Tally qs ls B v := hv
  refine s_ret (De.eq (De.tupleL (De.lcD (K := K) (as := tally ls) (r := fun r => dat K (rwD r)) (Di.tupM (f := rwD) (fldRows (P := P) (w := w) (mg := mg) (base := base) K_Tally (.var hv rfl))) (fun r : Rw => decide (r.2.2.length = 1) && decide (r.2.2.headD [] ≠ [])) (fun r : Rw => npD (r.1, r.2.2.headD [])) (by omega) fun r x Bn Hn hr sn sh hx => ?_)) (by unfold cnL; rw [List.map_map]; rfl)) hB k
  obtain ⟨x1, x2, x3, g1, g2, g3, go⟩ := gTup3 sh (dat_tupR (ds := [.int r.1, .int r.2.1, .tuple (r.2.2.map wdD)]) hx)
  have at0 : ∀ {te : TE} {σ : L2.St} {B : Hp}, r.2.2.length = 1 → De te σ B (dat K (.tuple (r.2.2.map wdD))) → De (tOp (rIxT K) te (tC (.int 0))) σ B (dat K (wdD (r.2.2.headD []))) := fun l h => by
    refine De.op (r := rIxT K) h .int (Rv.ixTD (i := ((0 : Nat) : Int)) (atI_nat ?_))
    cases e : r.2.2 with
    | nil => rw [e] at l; cases l
    | cons u m => rfl
  refine ⟨_, fun Q q => go Q q, rfl, Dt.and (Dt.eq (Dt.test (K := K) (De.op (r := rEq) (De.eq (De.lenT (ds := r.2.2.map wdD) (.var g3 rfl)) (by rw [List.length_map])) .int Rv.eqI)) (decide_eq_decide.mpr ⟨fun h => by omega, fun h => by omega⟩)) fun l => ?_, fun t => ?_⟩
  · have l : r.2.2.length = 1 := of_decide_eq_true l
    refine Dt.eq (Dt.test (K := K) (De.op (r := rNeD K) (at0 l (.var g3 rfl)) (De.tupD (ds := []) .nil (by rw [line]; show 0 ≤ _; decide)) (Rv.neD (shaped_wd _) rfl))) ?_
    have e : PyData.eqv (wdD (r.2.2.headD [])) (.tuple []) = decide (r.2.2.headD [] = []) := eqv_word _ []
    rw [e]
    simp
  · have l : r.2.2.length = 1 := of_decide_eq_true ((Bool.and_eq_true _ _).mp t).1
    exact De.tupD (ds := [.int r.1, wdD (r.2.2.headD [])]) (.cons (.var g1 rfl) (.cons (at0 l (.var g3 rfl)) .nil)) (by rw [line]; show 2 ≤ _; decide)
theorem sc_nextLetter : FnScope ["tally", "number", "word", "editions", "row"] ["tally", "number", "word"] (defScope s_nextLetter) := ⟨rfl, rfl, rfl, by decide +kernel, rfl, by decide +kernel, by decide +kernel⟩
theorem ok_nextLetter (D : Def K mg "next_letter" s_nextLetter ["tally", "number", "word"]) (K_Tally : CalC P w K mg base "Tally" C_Tally ["form", "rows"]) : Cal P w K mg base CX0 1 "next_letter" s_nextLetter ["tally", "number", "word"] (sp_nextLetter K C_Form C_Tally) := by
  refine D.ok sc_nextLetter (fun vs H Q E h => ?_) (fun cdv f A outer s H vs Q E hr h => ?_)
  · exact pf_len h fun _ => rfl
  replace h := pf3 h
  obtain ⟨v, v1, v2, B, ⟨⟨qs, ls⟩, n, u⟩, rfl, hB, hv, hv1, hv2, ok, k⟩ := h
  refine ⟨_, (pss_cons (ps_setLc (i := 3) (own := [("row", 4)]) (g := gName 4) rfl sc_nextLetter.nd rfl rfl (sw_true rfl rfl rfl (by decide +kernel)) (pi_tup (pe_fld (pv 0) rfl)) (blkOk_by (own := [("row", 4)]) (N := ["tally", "number", "word", "editions", "row"]) (sc := defScope s_nextLetter) (by decide +kernel)) (fun _ _ _ _ _ => (pg_name (i := 4) sc_nextLetter.nd rfl (Or.inl rfl))) (fun _ _ _ _ _ => pts_one (pt_cmpR op_eq (pe_ix (r := rIxT K) ix_tup (pv 4) pe_int (fun _ _ => rfl)) (pv 1) (nomark _))) (fun _ _ _ _ _ => (pe_ix (r := rIxT K) ix_tup (pv 4) pe_int (fun _ _ => rfl))))
    (pss_one (ps_ret (pe_tup (pa_cons (pv 1) (pa_cons (pe_ifExp (pt_truth (pv 3) (by intro _; rfl)) (pe_op op_add (pe_ix ix_list (pv 3) pe_int (fun _ _ => rfl)) pe_int) pe_int) (pa_cons (pv 2) pa_nil))))))), ?_⟩
  have line := sizeLine_eq
  have ok : (tally ls).length ≤ 60 := ok
  have hv : tallyR K C_Form C_Tally qs ls B v := hv
  have hv1 : dat K (.int n) B v1 := hv1
  have hv2 : dat K (wdD u) B v2 := hv2
  have k : ∀ (v : V) (B' H' : Hp), Ext B H B' H' → dat K (ltD (n, nextE (tally ls) n, u)) B' v → Q v H' := k
  refine s_set (De.lcD (K := K) (as := tally ls) (r := fun r => dat K (rwD r)) (Di.tupM (f := rwD) (fldRows (P := P) (w := w) (mg := mg) (base := base) K_Tally (.var hv rfl))) (fun r : Rw => decide (r.1 = n)) (fun r : Rw => .int r.2.1) (by omega) fun r x Bn Hn hr sn sh hx => ⟨[some v, some v1, some v2, none, some x], fun Q q => q, rfl, Dt.test (K := K) (De.op (r := rEq) (De.op (r := rIxT K) (.var hx rfl) .int (Rv.ixTD (i := ((0 : Nat) : Int)) (atI_nat rfl))) (.var (Mo.mo sn hv1) rfl) Rv.eqI), fun _ => De.op (r := rIxT K) (.var hx rfl) .int (Rv.ixTD (i := ((1 : Nat) : Int)) (atI_nat rfl))⟩) hB fun v3 B1 H1 e1 h3 => ?_
  have hv1 := Mo.mo e1.bb hv1
  have hv2 := Mo.mo e1.bb hv2
  have h3 : dat K (.list ((edL (tally ls) n).map .int)) B1 v3 := by unfold edL; rw [List.map_map]; exact h3
  have val : ∀ l : List Int, (if (!(l.map PyData.int).isEmpty) = true then PyData.int (l.headD 0 + 1) else PyData.int 0) = .int (if l = [] then 0 else l.headD 0 + 1) := fun l => by cases l <;> simp
  refine s_ret (De.tupD (ds := [.int n, .int (nextE (tally ls) n), wdD u]) (.cons (.var hv1 rfl) (.cons (De.eq (De.iteD (K := K) (d := .int ((edL (tally ls) n).headD 0 + 1)) (e := .int 0) (Dt.truL (K := K) (ds := (edL (tally ls) n).map .int) (.var h3 rfl)) (fun t => ?_) fun _ => .int) (val _)) (.cons (.var hv2 rfl) .nil))) (by rw [line]; show 3 ≤ _; decide)) e1.bh fun v B H e h => k v B H (e1.trans e) h
  refine De.op (De.op (r := rIxL K) (.var h3 rfl) .int (Rv.ixLD (i := ((0 : Nat) : Int)) (d := .int ((edL (tally ls) n).headD 0)) (atI_nat ?_))) .int Rv.I0
  cases e : edL (tally ls) n with
  | nil => rw [e] at t; cases t
  | cons m l => rfl
end
end K33

set_option Elab.async false
set_option linter.all false
set_option maxRecDepth 100000
set_option maxHeartbeats 200000
/-! K33o: sheets counted. -/
namespace K33
open PySem PySem.Spec PyProof.Rows L2 Wb Wv Fm Ta Wf Fq
section
variable {P : Program} {w : World} {K : PySem.W.Frag} {mg : Str → Option Value} {base : Heap} {C_Form C_Sheets C_Tally C_InvalidSize C_Refused C_BlankError C_InvalidSheets a_ZERO a_ONE : Addr}
theorem sc_sheetsCounted : FnScope ["tally", "_", "sheet"] ["tally"] (defScope s_sheetsCounted) := ⟨rfl, rfl, rfl, by decide +kernel, rfl, by decide +kernel, by decide +kernel⟩
theorem ok_sheetsCounted (D : Def K mg "sheets_counted" s_sheetsCounted ["tally"]) (C_evenSheets : Cal P w K mg base (L2.CX P w) 7 "even_sheets" s_evenSheets ["form", "some"] (spEven K C_Form C_Sheets C_Refused)) (C_counted : Cal P w K mg base CX0 1 "counted" s_counted ["tally"] (sp_counted K C_Form C_Tally)) (K_Tally : CalC P w K mg base "Tally" C_Tally ["form", "rows"]) : Cal P w K mg base (L2.CX P w) 8 "sheets_counted" s_sheetsCounted ["tally"] (spCountS K C_Form C_Sheets C_Tally C_Refused) := by
  refine D.okX sc_sheetsCounted (fun vs H Q E h => ?_) (fun cdv f A outer s H vs Q E hr h => ?_)
  · obtain ⟨v, B, qs, ls, rfl, _⟩ := h
    rfl
  obtain ⟨v, B, qs, ls, rfl, hB, hv, ok, kr, kx⟩ := h
  refine ⟨_, (pss_one (ps_ret (pe_calS C_evenSheets (hr.mono (by decide)) (by rfl) (fun σ => passAt (takes_of rfl rfl rfl rfl) σ) (pa_cons (pe_fld (pv 0) rfl) (pa_cons (pe_lc (own := [("_", 1), ("sheet", 2)]) (g := gTup K 2 (gCons (gName 1) (gCons (gName 2) gNil))) (tt := tYes) rfl sc_sheetsCounted.nd (pi_tup (pe_cal C_counted (hr.mono (by decide)) (by rfl) pass0 (pa_cons (pv 0) pa_nil))) (blkOk_by (own := [("_", 1), ("sheet", 2)]) (N := ["tally", "_", "sheet"]) (sc := defScope s_sheetsCounted) (by decide +kernel)) (fun _ _ _ _ _ => (pg_tup rfl (pgs_cons (pg_name (i := 1) sc_sheetsCounted.nd rfl (Or.inl rfl)) (pgs_cons (pg_name (i := 2) sc_sheetsCounted.nd rfl (Or.inl rfl)) pgs_nil)))) (fun _ _ _ _ _ => pts_nil) (fun _ _ _ _ _ => (pv 2))) pa_nil))))), ?_⟩
  have line := sizeLine_eq
  have ok : (tally ls).length ≤ 60 := ok
  have cl : (cnL (tally ls)).length ≤ 60 := by unfold cnL; rw [List.length_map]; exact Nat.le_trans (List.length_filter_le _ _) ok
  have cd : ∀ {σ : L2.St} {B : Hp} {ta : TE} {E : XK}, De ta σ B (tallyR K C_Form C_Tally qs ls) → De (tCall (sp_counted K C_Form C_Tally) [] E (tCons ta tNil)) σ B (dat K (.tuple ((cnL (tally ls)).map npD))) := fun h =>
    De.call (qs, ls) (.cons h .nil) ok
  refine s_retCS (Rs := [formR K C_Form qs, dat K (.list (((cnL (tally ls)).map (·.2)).map wdD))]) (.cons (fldForm (P := P) (w := w) (mg := mg) (base := base) K_Tally (.var hv rfl)) (.cons (De.eq (De.lcA (K := K) (as := cnL (tally ls)) (r := fun p => dat K (npD p)) (Di.tupM (f := npD) (cd (.var hv rfl))) (fun p => wdD p.2) (by omega) fun p x Bn Hn hp sn sh hx => ?_) (by rw [List.map_map]; rfl)) .nil)) hB fun vs B2 H2 e2 hvs => ?_
  · obtain ⟨y, z, hy, hz, go⟩ := gTup2 sh (dat_pair hx)
    exact ⟨_, fun Q q => go Q q, rfl, .var hz rfl⟩
  obtain ⟨x, r1, rfl, hx, y, r2, rfl, hy, hr⟩ := hvs
  have hr : r2 = [] := hr
  subst hr
  have wl : ((cnL (tally ls)).map (·.2)).length ≤ 60 := by rw [List.length_map]; exact cl
  have n1 : (cnL (tally ls)).map (·.2) ≠ [] → cnL (tally ls) ≠ [] := fun h z => h (List.map_eq_nil_iff.mpr z)
  have n2 : (cnL (tally ls)).map (·.2) = [] → cnL (tally ls) = [] := fun h => List.map_eq_nil_iff.mp h
  generalize (cnL (tally ls)).map (·.2) = ws at hy wl n1 n2 kr kx
  refine ⟨x, y, B2, qs, ws, rfl, e2.bh, hx, hy, wl, fun ne v B' H' e' h => ?_, fun z B' H' dx e hdx => ?_⟩
  · exact kr (n1 ne) v B' H' (e2.trans e') h
  · exact kx (n2 z) B' H' dx (e2.trans e) hdx
end
end K33

set_option Elab.async false
set_option linter.all false
set_option maxRecDepth 100000
set_option maxHeartbeats 1000000
/-! K33p: kinds, tables by counts, what is told. -/
namespace K33
open PySem PySem.Spec PyProof.Rows L2 Wb Wv Fm Ta Wf Fq
def kdD (rs : List Rw) : PyData := .tuple [.tuple ((dbL rs).map .int), .tuple ((gnL rs).map .int), .tuple ((cnL rs).map npD)]
def cntW (ws : List Wd) (u : Wd) : Nat := (ws.filter fun w => decide (w = u)).length
def tabL (ws : List Wd) : List Sr := (sortW (once ws)).map fun u => (u, Rat.divInt (cntW ws u : Nat) ws.length)
abbrev sp_lkinds (K : PySem.W.Frag) : Sp := Pf (α := List Rw) (fun rs => [dat K (rwsD rs)]) (fun rs => rs.length ≤ 60) (fun rs => dat K (kdD rs))
abbrev sp_ltable (K : PySem.W.Frag) : Sp := Pf (α := List (Int × Wd)) (fun ps => [dat K (.tuple (ps.map npD))]) (fun ps => 1 ≤ ps.length ∧ ps.length ≤ 60) (fun ps => dat K (.tuple ((tabL (ps.map (·.2))).map rdD)))
abbrev sp_told (K : PySem.W.Frag) (CF CT : Addr) : Sp := Pf (α := Qs × List Lt) (fun a => [tallyR K CF CT a.1 a.2]) (fun a => TlOk a.2 ∧ cnL (tally a.2) = []) (fun _ => dat K (.str "none"))
theorem sumG_even (ws : List Wd) (q : Rat) (n : Int) (hn : n ≠ 0) (hq : q = Rat.divInt 1 n) (u : Wd) : sumG (ws.map fun w => (w, q)) u = Rat.divInt (cntW ws u : Nat) n := by
  unfold sumG cntW
  rw [List.filter_map, List.map_map]
  have e : ((ws.filter ((fun p : Sr => decide (p.1 = u)) ∘ fun w => (w, q))).map ((fun p : Sr => p.2) ∘ fun w => (w, q))) = (List.replicate (ws.filter fun w => decide (w = u)).length (1 : Int)).map fun m => Rat.divInt m n := by
    rw [List.map_replicate, ← hq]
    exact List.map_const' ..
  rw [e, sum_div hn, sum_ones]
theorem even_tab {ws : List Wd} (ne : ws ≠ []) : gathS (evenT ws) = tabL ws := by
  have l1 : 0 < ws.length := len_pos ne
  have n0 : (ws.length : Int) ≠ 0 := by omega
  have keys : (evenT ws).map (·.1) = ws := by
    unfold evenT
    rw [List.map_map]
    exact List.map_id' ws
  have srt : (firsts ws).mergeSort (fun a b => dle (rowD a) (rowD b)) = sortW (once ws) := by
    have e : (fun a b : Wd => dle (rowD a) (rowD b)) = fun a b => decide (a ≤ b) := funext fun a => funext fun b => dle_word a b
    rw [e]
    rfl
  unfold gathS sumsG tabL
  rw [keys, srt]
  have val : ∀ u, sumG (evenT ws) u = Rat.divInt (cntW ws u : Nat) ws.length := fun u => sumG_even ws _ _ n0 rfl u
  simp only [val]
  refine List.filter_eq_self.mpr fun p hp => ?_
  obtain ⟨u, hu, rfl⟩ := List.mem_map.mp hp
  have mu : u ∈ ws := mem_once.mp (mem_sortW.mp hu)
  have pos : 0 < cntW ws u := List.length_pos_of_mem (List.mem_filter.mpr ⟨mu, decide_eq_true rfl⟩)
  refine decide_eq_true fun z => ?_
  have z : Rat.divInt (cntW ws u : Nat) ws.length = 0 := z
  rw [← Rat.zero_divInt (ws.length : Int)] at z
  have := divInt_inj n0 z
  omega
section
variable {P : Program} {w : World} {K : PySem.W.Frag} {mg : Str → Option Value} {base : Heap} {C_Form C_Sheets C_Tally C_InvalidSize C_Refused C_BlankError C_InvalidSheets a_ZERO a_ONE : Addr}
theorem cn_len {rs : List Rw} (h : rs.length ≤ 60) : (cnL rs).length ≤ 60 := by unfold cnL; rw [List.length_map]; exact Nat.le_trans (List.length_filter_le _ _) h
theorem sc_lkinds : FnScope ["due", "some", "row", "away"] ["due"] (defScope s_lkinds) := ⟨rfl, rfl, rfl, by decide +kernel, rfl, by decide +kernel, by decide +kernel⟩
theorem ok_lkinds (D : Def K mg "_law_kinds" s_lkinds ["due"]) (n_len : mg "len" = none) (n_tuple : mg "tuple" = none) : Cal P w K mg base CX0 1 "_law_kinds" s_lkinds ["due"] (sp_lkinds K) := by
  refine D.ok sc_lkinds (fun vs H Q E h => ?_) (fun cdv f A outer s H vs Q E hr h => ?_)
  · exact pf_len h fun _ => rfl
  replace h := pf1 h
  obtain ⟨v, B, rs, rfl, hB, hv, few, k⟩ := h
  refine ⟨_, (pss_cons (ps_set (i := 1) sc_lkinds.nd rfl (Or.inl rfl) (pe_callTy call_tuple_of (by rfl) n_tuple (by decide +kernel) (pa_cons (pe_lc (own := [("row", 2)]) (g := gName 2) rfl sc_lkinds.nd (pi_tup (pv 0)) (blkOk_by (own := [("row", 2)]) (N := ["due", "some", "row", "away"]) (sc := defScope s_lkinds) (by decide +kernel)) (fun _ _ _ _ _ => (pg_name (i := 2) sc_lkinds.nd rfl (Or.inl rfl))) (fun _ _ _ _ _ => pts_one (pt_cmpR op_gt (pe_callB (id := "len") (r := Wv.rLen K) call_len (by rfl) n_len (by decide +kernel) (pa_cons (pe_ix (r := rIxT K) ix_tup (pv 2) pe_int (fun _ _ => rfl)) pa_nil)) pe_int (nomark _))) (fun _ _ _ _ _ => (pe_ix (r := rIxT K) ix_tup (pv 2) pe_int (fun _ _ => rfl)))) pa_nil)))
    (pss_cons (ps_set (i := 3) sc_lkinds.nd rfl (Or.inl rfl) (pe_callTy call_tuple_of (by rfl) n_tuple (by decide +kernel) (pa_cons (pe_lc (own := [("row", 2)]) (g := gName 2) rfl sc_lkinds.nd (pi_tup (pv 0)) (blkOk_by (own := [("row", 2)]) (N := ["due", "some", "row", "away"]) (sc := defScope s_lkinds) (by decide +kernel)) (fun _ _ _ _ _ => (pg_name (i := 2) sc_lkinds.nd rfl (Or.inl rfl))) (fun _ _ _ _ _ => pts_one (pt_cmpR (r := rEqD K) (op_eqD hr.units) (pe_ix (r := rIxT K) ix_tup (pv 2) pe_int (fun _ _ => rfl)) (pe_tup (pa_cons (pe_tup pa_nil) pa_nil)) (nomark _))) (fun _ _ _ _ _ => (pe_ix (r := rIxT K) ix_tup (pv 2) pe_int (fun _ _ => rfl)))) pa_nil)))
    (pss_one (ps_ret (pe_tup (pa_cons (pv 1) (pa_cons (pv 3) (pa_cons (pe_callTy call_tuple_of (by rfl) n_tuple (by decide +kernel) (pa_cons (pe_lc (own := [("row", 2)]) (g := gName 2) rfl sc_lkinds.nd (pi_tup (pv 0)) (blkOk_by (own := [("row", 2)]) (N := ["due", "some", "row", "away"]) (sc := defScope s_lkinds) (by decide +kernel)) (fun _ _ _ _ _ => (pg_name (i := 2) sc_lkinds.nd rfl (Or.inl rfl))) (fun _ _ _ _ _ => pts_one (PW.pt (pw_and (pt_cmpR op_eq (pe_callB (id := "len") (r := Wv.rLen K) call_len (by rfl) n_len (by decide +kernel) (pa_cons (pe_ix (r := rIxT K) ix_tup (pv 2) pe_int (fun _ _ => rfl)) pa_nil)) pe_int (nomark _)) (pw_and1 (pt_cmpR (r := rNeD K) (op_neD hr.units) (pe_ix (r := rIxT K) ix_tup (pe_ix (r := rIxT K) ix_tup (pv 2) pe_int (fun _ _ => rfl)) pe_int (fun _ _ => rfl)) (pe_tup pa_nil) (nomark _)))))) (fun _ _ _ _ _ => (pe_tup (pa_cons (pe_ix (r := rIxT K) ix_tup (pv 2) pe_int (fun _ _ => rfl)) (pa_cons (pe_ix (r := rIxT K) ix_tup (pe_ix (r := rIxT K) ix_tup (pv 2) pe_int (fun _ _ => rfl)) pe_int (fun _ _ => rfl)) pa_nil))))) pa_nil)) pa_nil)))))))), ?_⟩
  have line := sizeLine_eq
  have few : rs.length ≤ 60 := few
  have hv : dat K (.tuple (rs.map rwD)) B v := hv
  have ix : ∀ {te : TE} {σ : L2.St} {B : Hp} {r : Rw}, De te σ B (dat K (rwD r)) → De (tOp (rIxT K) te (tC (.int 0))) σ B (dat K (.int r.1)) ∧ De (tOp (rIxT K) te (tC (.int 2))) σ B (dat K (.tuple (r.2.2.map wdD))) := fun {_ _ _ r} h =>
    ⟨De.op (r := rIxT K) h .int (Rv.ixTD (ds := [.int r.1, .int r.2.1, .tuple (r.2.2.map wdD)]) (i := ((0 : Nat) : Int)) (atI_nat rfl)), De.op (r := rIxT K) h .int (Rv.ixTD (ds := [.int r.1, .int r.2.1, .tuple (r.2.2.map wdD)]) (i := ((2 : Nat) : Int)) (atI_nat rfl))⟩
  refine s_set (De.eq (De.tupleL (De.lcD (K := K) (as := rs) (r := fun r => dat K (rwD r)) (Di.tupM (f := rwD) (.var hv rfl)) (fun r : Rw => decide (1 < r.2.2.length)) (fun r : Rw => .int r.1) (by omega) fun r x Bn Hn hr sn sh hx => ⟨[some v, none, some x, none], fun Q q => q, rfl, ?_, fun _ => (ix (.var hx rfl)).1⟩)) (e := .tuple ((dbL rs).map .int)) (by unfold dbL; rw [List.map_map]; rfl)) hB fun v1 B1 H1 e1 h1 => ?_
  · exact Dt.eq (Dt.test (K := K) (De.op (De.eq (De.lenT (ds := r.2.2.map wdD) (ix (.var hx rfl)).2) (by rw [List.length_map])) .int (Rv.I0b (f := fun i j => decide (j < i))))) (decide_eq_decide.mpr ⟨fun h => by omega, fun h => by omega⟩)
  have hv := Mo.mo e1.bb hv
  change tSeq _ _ _ [some v, some v1, none, none] H1
  refine s_set (De.eq (De.tupleL (De.lcD (K := K) (as := rs) (r := fun r => dat K (rwD r)) (Di.tupM (f := rwD) (.var hv rfl)) (fun r : Rw => decide (r.2.2 = [[]])) (fun r : Rw => .int r.1) (by omega) fun r x Bn Hn hr sn sh hx => ⟨[some v, some v1, some x, none], fun Q q => q, rfl, ?_, fun _ => (ix (.var hx rfl)).1⟩)) (e := .tuple ((gnL rs).map .int)) (by unfold gnL; rw [List.map_map]; rfl)) e1.bh fun v3 B2 H2 e2 h3 => ?_
  · exact Dt.eq (Dt.test (K := K) (De.op (r := rEqD K) (ix (.var hx rfl)).2 (De.tupD (ds := [.tuple []]) (.cons (De.tupD (ds := []) .nil (by rw [line]; show 0 ≤ _; decide)) .nil) (by rw [line]; show 1 ≤ _; decide)) (Rv.eqD (shaped_words _) rfl))) (words_one _)
  have hv := Mo.mo e2.bb hv
  have h1 := Mo.mo e2.bb h1
  change tRet _ _ [some v, some v1, none, some v3] H2
  refine s_ret (De.tupD (ds := [.tuple ((dbL rs).map .int), .tuple ((gnL rs).map .int), .tuple ((cnL rs).map npD)]) (.cons (.var h1 rfl) (.cons (.var h3 rfl) (.cons (De.eq (De.tupleL (De.lcD (K := K) (as := rs) (r := fun r => dat K (rwD r)) (Di.tupM (f := rwD) (.var hv rfl)) (fun r : Rw => decide (r.2.2.length = 1) && decide (r.2.2.headD [] ≠ [])) (fun r : Rw => npD (r.1, r.2.2.headD [])) (by omega) fun r x Bn Hn hr sn sh hx => ⟨[some v, some v1, some x, some v3], fun Q q => q, rfl, ?_, fun t => ?_⟩)) (e := .tuple ((cnL rs).map npD)) (by unfold cnL; rw [List.map_map]; rfl)) .nil))) (by rw [line]; show 3 ≤ _; decide)) e2.bh fun v B H e h => k v B H ((e1.trans e2).trans e) h
  · have at0 : ∀ {te : TE} {σ : L2.St} {B : Hp}, r.2.2.length = 1 → De te σ B (dat K (.tuple (r.2.2.map wdD))) → De (tOp (rIxT K) te (tC (.int 0))) σ B (dat K (wdD (r.2.2.headD []))) := fun l h => by
      refine De.op (r := rIxT K) h .int (Rv.ixTD (i := ((0 : Nat) : Int)) (atI_nat ?_))
      cases e : r.2.2 with
      | nil => rw [e] at l; cases l
      | cons u m => rfl
    refine Dt.and (Dt.eq (Dt.test (K := K) (De.op (r := rEq) (De.eq (De.lenT (ds := r.2.2.map wdD) (ix (.var hx rfl)).2) (by rw [List.length_map])) .int Rv.eqI)) (decide_eq_decide.mpr ⟨fun h => by omega, fun h => by omega⟩)) fun l => ?_
    have l : r.2.2.length = 1 := of_decide_eq_true l
    refine Dt.eq (Dt.test (K := K) (De.op (r := rNeD K) (at0 l (ix (.var hx rfl)).2) (De.tupD (ds := []) .nil (by rw [line]; show 0 ≤ _; decide)) (Rv.neD (shaped_wd _) rfl))) ?_
    have e : PyData.eqv (wdD (r.2.2.headD [])) (.tuple []) = decide (r.2.2.headD [] = []) := eqv_word _ []
    rw [e]
    simp
  · have l : r.2.2.length = 1 := of_decide_eq_true ((Bool.and_eq_true _ _).mp t).1
    refine De.tupD (ds := [.int r.1, wdD (r.2.2.headD [])]) (.cons (ix (.var hx rfl)).1 (.cons (De.op (r := rIxT K) (ix (.var hx rfl)).2 .int (Rv.ixTD (i := ((0 : Nat) : Int)) (atI_nat ?_))) .nil)) (by rw [line]; show 2 ≤ _; decide)
    cases e : r.2.2 with
    | nil => rw [e] at l; cases l
    | cons u m => rfl
theorem sc_ltable : FnScope ["pairs", "sheets", "pair", "sheet"] ["pairs"] (defScope s_ltable) := ⟨rfl, rfl, rfl, by decide +kernel, rfl, by decide +kernel, by decide +kernel⟩
theorem ok_ltable (D : Def K mg "_law_table" s_ltable ["pairs"]) (C_once : Cal P w K mg base CX0 1 "_law_once" s_once ["some"] (sp_once K)) (n_sorted : mg "sorted" = none) (C_llow : Cal P w K mg base CX0 2 "_law_low" s_llow ["top", "bottom"] (sp_llow K)) (n_len : mg "len" = none) (n_tuple : mg "tuple" = none) : Cal P w K mg base CX0 3 "_law_table" s_ltable ["pairs"] (sp_ltable K) := by
  refine D.ok sc_ltable (fun vs H Q E h => ?_) (fun cdv f A outer s H vs Q E hr h => ?_)
  · exact pf_len h fun _ => rfl
  replace h := pf1 h
  obtain ⟨v, B, ps, rfl, hB, hv, ⟨one, few⟩, k⟩ := h
  refine ⟨_, (pss_cons (ps_set (i := 1) sc_ltable.nd rfl (Or.inl rfl) (pe_callB (cr_sortedD hr.units) (by rfl) n_sorted (by decide +kernel) (pa_cons (pe_cal C_once (hr.mono (by decide)) (by rfl) pass0 (pa_cons (pe_lc (own := [("pair", 2)]) (g := gName 2) (tt := tYes) rfl sc_ltable.nd (pi_tup (pv 0)) (blkOk_by (own := [("pair", 2)]) (N := ["pairs", "sheets", "pair", "sheet"]) (sc := defScope s_ltable) (by decide +kernel)) (fun _ _ _ _ _ => (pg_name (i := 2) sc_ltable.nd rfl (Or.inl rfl))) (fun _ _ _ _ _ => pts_nil) (fun _ _ _ _ _ => (pe_ix (r := rIxT K) ix_tup (pv 2) pe_int (fun _ _ => rfl)))) pa_nil)) pa_nil)))
    (pss_one (ps_ret (pe_callTy call_tuple_of (by rfl) n_tuple (by decide +kernel) (pa_cons (pe_lc (own := [("sheet", 3)]) (g := gName 3) (tt := tYes) rfl sc_ltable.nd (pi_list (pv 1)) (blkOk_by (own := [("sheet", 3)]) (N := ["pairs", "sheets", "pair", "sheet"]) (sc := defScope s_ltable) (by decide +kernel)) (fun _ _ _ _ _ => (pg_name (i := 3) sc_ltable.nd rfl (Or.inr rfl))) (fun _ _ _ _ _ => pts_nil) (fun _ _ _ _ _ => (pe_tup (pa_cons (pv 3) (pa_cons (pe_cal C_llow (hr.mono (by decide)) (by rfl) pass0 (pa_cons (pe_callB (id := "len") (r := Wv.rLen K) call_len (by rfl) n_len (by decide +kernel) (pa_cons (pe_lc (own := [("pair", 2)]) (g := gName 2) (wi := iTup K (tVar 0)) rfl sc_ltable.nd (pi_tup (pv 0)) (by exact blkOk_by (own := [("pair", 2)]) (N := ["pairs", "sheets", "pair", "sheet"]) (sc := ⟨.function, [(".0", .local), ("sheet", .cell), ("_law_low", .globalImplicit), ("len", .globalImplicit), ("pairs", .cell)], false, false, []⟩) (by decide +kernel)) (fun _ _ _ _ _ => (pg_name (i := 2) sc_ltable.nd rfl (Or.inl rfl))) (fun _ _ _ _ _ => pts_one (pt_cmpR (r := rEqD K) (op_eqD hr.units) (pe_ix (r := rIxT K) ix_tup (pv 2) pe_int (fun _ _ => rfl)) (pv 3) (nomark _))) (fun _ _ _ _ _ => (pv 2))) pa_nil)) (pa_cons (pe_callB (id := "len") (r := Wv.rLen K) call_len (by rfl) n_len (by decide +kernel) (pa_cons (pv 0) pa_nil)) pa_nil))) pa_nil))))) pa_nil))))), ?_⟩
  have line := sizeLine_eq
  have one : 1 ≤ ps.length := one
  have few : ps.length ≤ 60 := few
  have hv : dat K (.tuple (ps.map npD)) B v := hv
  have ix1 : ∀ {te : TE} {σ : L2.St} {B : Hp} {p : Int × Wd}, De te σ B (dat K (npD p)) → De (tOp (rIxT K) te (tC (.int 1))) σ B (dat K (wdD p.2)) := fun {_ _ _ p} h => De.op (r := rIxT K) h .int (Rv.ixTD (ds := [.int p.1, wdD p.2]) (i := ((1 : Nat) : Int)) (atI_nat rfl))
  refine s_set (De.eq (De.sorted (ds := (once (ps.map fun p : Int × Wd => p.2)).map wordD) (De.once (enc := wordD) (l := ps.map fun p : Int × Wd => p.2) (De.eq (De.lcA (K := K) (as := ps) (r := fun p => dat K (npD p)) (Di.tupM (f := npD) (.var hv rfl)) (fun p => wdD p.2) (by omega) fun p x Bn Hn hp sn sh hx => ⟨[some v, none, some x, none], fun Q q => q, rfl, ix1 (.var hx rfl)⟩) (by rw [List.map_map]; rfl)) (by rw [List.length_map]; exact few) eqv_word lay_word fun a => Nat.le_trans (depth_word a) (by decide)) (alike_words _) (.inl fun d hd => ?_) fun d hd => ?_) (e := .list ((sortW (once (ps.map fun p : Int × Wd => p.2))).map wordD)) (by rw [sortD_words])) hB fun v1 B1 H1 e1 h1 => ?_
  · obtain ⟨a, _, rfl⟩ := List.mem_map.mp hd
    exact ⟨_, rfl⟩
  · obtain ⟨a, _, rfl⟩ := List.mem_map.mp hd
    exact Nat.le_trans (depth_word a) (by decide)
  have hv := Mo.mo e1.bb hv
  have sl : (sortW (once (ps.map fun p : Int × Wd => p.2))).length ≤ 60 := by
    rw [(sortW_perm _).length_eq]
    exact Nat.le_trans (once_len _) (by rw [List.length_map]; exact few)
  change tRet _ _ [some v, some v1, none, none] H1
  refine s_ret (De.eq (De.tupleL (De.lcA (K := K) (as := sortW (once (ps.map fun p : Int × Wd => p.2))) (r := fun u => dat K (wordD u)) (Di.listM (f := wordD) (.var h1 rfl)) (fun u => rdD (u, Rat.divInt (cntW (ps.map fun p : Int × Wd => p.2) u : Nat) (ps.map fun p : Int × Wd => p.2).length)) (by omega) fun u x Bn Hn hu sn sh hx => ⟨[some v, some v1, none, some x], fun Q q => q, rfl, ?_⟩)) (e := .tuple ((tabL (ps.map fun p : Int × Wd => p.2)).map rdD)) (by unfold tabL; rw [List.map_map]; rfl)) e1.bh fun v B H e h => k v B H (e1.trans e) h
  have hv := Mo.mo sn hv
  refine De.tupD (ds := [rowD u, frD (Rat.divInt (cntW (ps.map fun p : Int × Wd => p.2) u : Nat) (ps.map fun p : Int × Wd => p.2).length)]) (.cons (.var hx rfl) (.cons (De.low4 (t := ((cntW (ps.map fun p : Int × Wd => p.2) u : Nat) : Int)) (b := ((ps.map fun p : Int × Wd => p.2).length : Int)) (De.eq (De.lenL (K := K) (De.lcD (K := K) (as := ps) (r := fun p => dat K (npD p)) (Di.tupM (f := npD) (.var hv rfl)) (fun p : Int × Wd => decide (p.2 = u)) (fun p => npD p) (by omega) fun p y Bk Hk hp sk shk hy => ⟨[some v, some v1, some y, some x], fun Q q => q, rfl, Dt.eq (Dt.test (K := K) (De.op (r := rEqD K) (ix1 (.var hy rfl)) (.var (Mo.mo sk hx) rfl) (Rv.eqD (shaped_wd _) (shaped_wd _)))) (eqv_word _ _), fun _ => .var hy rfl⟩)) ?_) (De.eq (De.lenT (ds := ps.map npD) (.var hv rfl)) (by rw [List.length_map, List.length_map])) (by rw [List.length_map]; omega) ?_) .nil)) (by rw [line]; show 2 ≤ _; decide)
  · unfold cntW
    rw [List.length_map, List.filter_map, List.length_map]
    rfl
  · rw [List.length_map]
    exact Nat.lt_of_lt_of_le (show (ps.length : Int).natAbs < 2 ^ 12 by omega) (Nat.pow_le_pow_right (by decide) (by decide))
theorem sc_told : FnScope ["tally", "e"] ["tally"] (defScope s_told) := ⟨rfl, rfl, rfl, by decide +kernel, rfl, by decide +kernel, by decide +kernel⟩
theorem ok_told (D : Def K mg "_law_told" s_told ["tally"]) (C_sheetsCounted : Cal P w K mg base (L2.CX P w) 8 "sheets_counted" s_sheetsCounted ["tally"] (spCountS K C_Form C_Sheets C_Tally C_Refused)) (Z_BlankError : ErrB K mg "BlankError" C_BlankError topB) (n_isinstance : mg "isinstance" = none) (Z_InvalidSheets : Err P w K mg base "InvalidSheets" "at" C_InvalidSheets (topE C_BlankError)) (Z_Refused : Err P w K mg base "Refused" "word" C_Refused (topE C_BlankError)) (ne1 : C_Refused ≠ C_InvalidSheets) (ne2 : C_InvalidSheets ≠ C_BlankError) : Cal P w K mg base CX0 9 "_law_told" s_told ["tally"] (sp_told K C_Form C_Tally) := by
  refine D.ok sc_told (fun vs H Q E h => ?_) (fun cdv f A outer s H vs Q E hr h => ?_)
  · exact pf_len h fun _ => rfl
  replace h := pf1 h
  obtain ⟨v, B, ⟨qs, ls⟩, rfl, hB, hv, ⟨ok, z⟩, k⟩ := h
  refine ⟨_, (pss_one (ps_try_as (i := 1) rfl rfl sc_told.nd rfl rfl ⟨rfl, by decide, .inl Z_Refused.g⟩ takes0 (fun W pn xe tk _ => (pss_one (ps_ret (pe_calS C_sheetsCounted (hr.mono (by decide)) (by rfl) (fun σ => passAt tk σ) (pa_cons (pv 0) pa_nil))))) (fun a oe cls d pn hz hf => (pss_one (ps_ret (pe_ifExp (PW.pt (pw_and (pt_val (pe_callB (call_isX hz hf) (by rfl) n_isinstance (by decide +kernel) (pa_cons (pv 1) (pa_cons (pe_glob (by rfl) Z_BlankError.g (show RelV (.ref C_BlankError) (.ref C_BlankError) from rfl)) pa_nil)))) (pw_and1 (pt_not (pt_val (pe_callB (call_isX hz hf) (by rfl) n_isinstance (by decide +kernel) (pa_cons (pv 1) (pa_cons (pe_glob (by rfl) Z_InvalidSheets.g (show RelV (.ref C_InvalidSheets) (.ref C_InvalidSheets) from rfl)) pa_nil)))))))) (pe_errF hz hf (pv 1)) pe_str)))))), ?_⟩
  have ok : (tally ls).length ≤ 60 := ok
  have hv : tallyR K C_Form C_Tally qs ls B v := hv
  have isB : PySem.W.kitOne K (.ref C_Refused) (.ref C_BlankError) = some true := by
    rw [Z_Refused.row.one_ref Z_BlankError.row]
    simp [topE]
  have isS : PySem.W.kitOne K (.ref C_Refused) (.ref C_InvalidSheets) = some false := by
    rw [Z_Refused.row.one_ref Z_InvalidSheets.row]
    simp [topE, ne1, ne1.symm, ne2, ne2.symm]
  refine ⟨_, rfl, v, B, qs, ls, rfl, hB, hv, ok, fun ne => absurd z ne, fun _ B' H' dx e hdx => ?_⟩
  have atd : upd H' dx (.xd [("word", .str "none")]) dx = some (.xd [("word", .str "none")]) := upd_same
  refine ⟨true, Z_Refused.exm_self rfl, fun _ ae hae => ?_, fun q => nomatch q⟩
  refine ⟨_, rfl, C_Refused, _, _, true, rfl, rfl, (fun dd e => by cases e; exact ⟨_, atd⟩), Z_Refused.T, .own _, isB, _, rfl, ?_⟩
  refine ite2 (fun _ => ?_) (fun z => absurd rfl z)
  refine ⟨_, rfl, C_Refused, _, _, false, rfl, rfl, (fun dd e => by cases e; exact ⟨_, atd⟩), Z_Refused.T, .own _, isS, _, rfl, ?_⟩
  refine ite2 (fun _ => ?_) (fun z => absurd rfl z)
  have e2 := e.trans (.own (o := .xd [("word", .str "none")]) e.bh hdx)
  exact ⟨_, rfl, rfl, C_Refused, dx, _, rfl, rfl, Z_Refused.T, Z_Refused.no, atd, k _ _ _ e2 (Dp.str "none")⟩
end
end K33

set_option Elab.async false
set_option linter.all false
set_option maxRecDepth 100000
set_option maxHeartbeats 4000000
/-! As0: tests and worths, as what they are and as data. -/
namespace As
open PySem PySem.Spec PyProof.Rows L2 Wb Wv Fm
inductive Tst where
  | all
  | is (z : Str) (n : Int)
  | blank (z : Str)
  | nt (t : Tst)
  | both (a b : Tst)
  | either (a b : Tst)
inductive Wth where
  | number (n : Int)
  | answer (z : Str)
  | ifT (t : Tst)
  | plus (a b : Wth)
  | times (a b : Wth)
def Tst.enc : Tst → PyData
  | .all => .tuple [.str "all"]
  | .is z n => .tuple [.str "is", .str z, .int n]
  | .blank z => .tuple [.str "blank", .str z]
  | .nt t => .tuple [.str "not", t.enc]
  | .both a b => .tuple [.str "both", a.enc, b.enc]
  | .either a b => .tuple [.str "either", a.enc, b.enc]
def Wth.enc : Wth → PyData
  | .number n => .tuple [.str "number", .int n]
  | .answer z => .tuple [.str "answer", .str z]
  | .ifT t => .tuple [.str "if", t.enc]
  | .plus a b => .tuple [.str "plus", a.enc, b.enc]
  | .times a b => .tuple [.str "times", a.enc, b.enc]
def Tst.dp : Tst → Nat
  | .nt t => t.dp + 1
  | .both a b => max a.dp b.dp + 1
  | .either a b => max a.dp b.dp + 1
  | _ => 1
def Wth.dp : Wth → Nat
  | .ifT t => t.dp + 1
  | .plus a b => max a.dp b.dp + 1
  | .times a b => max a.dp b.dp + 1
  | _ => 1
def Tst.ok (ns : List Str) : Tst → Prop
  | .all => True
  | .is z n => z ∈ ns ∧ n.natAbs ≤ 100
  | .blank z => z ∈ ns
  | .nt t => t.ok ns
  | .both a b => a.ok ns ∧ b.ok ns
  | .either a b => a.ok ns ∧ b.ok ns
def Wth.ok (ns : List Str) : Wth → Prop
  | .number n => n.natAbs ≤ 10 ^ 9
  | .answer z => z ∈ ns
  | .ifT t => t.ok ns
  | .plus a b => a.ok ns ∧ b.ok ns
  | .times a b => a.ok ns ∧ b.ok ns
def Tst.holds (ns lot : List Str) (tr : List Int) : Tst → Bool
  | .all => true
  | .is z n => decide (tr.getD (ns.idxOf z) 0 = n)
  | .blank z => decide (z ∈ lot)
  | .nt t => !t.holds ns lot tr
  | .both a b => a.holds ns lot tr && b.holds ns lot tr
  | .either a b => a.holds ns lot tr || b.holds ns lot tr
def Wth.val (ns lot : List Str) (tr : List Int) : Wth → Int
  | .number n => n
  | .answer z => tr.getD (ns.idxOf z) 0
  | .ifT t => if t.holds ns lot tr then 1 else 0
  | .plus a b => a.val ns lot tr + b.val ns lot tr
  | .times a b => a.val ns lot tr * b.val ns lot tr
theorem Tst.dp_pos (t : Tst) : 1 ≤ t.dp := by cases t <;> simp [Tst.dp]
theorem Wth.dp_pos (t : Wth) : 1 ≤ t.dp := by cases t <;> simp [Wth.dp]
/-- how great a worth can be -/
theorem Wth.val_lt {ns lot : List Str} {tr : List Int} (h : ∀ i ∈ tr, i.natAbs ≤ 100) : ∀ w : Wth, w.ok ns → (w.val ns lot tr).natAbs < 2 ^ (31 * 2 ^ w.dp)
  | .number n, hw => by
    have hw : n.natAbs ≤ 10 ^ 9 := hw
    have : (2 : Nat) ^ 31 ≤ 2 ^ (31 * 2 ^ 1) := Nat.pow_le_pow_right (by decide) (by decide)
    show n.natAbs < 2 ^ (31 * 2 ^ 1)
    omega
  | .answer z, _ => by
    have a : (tr.getD (ns.idxOf z) 0).natAbs ≤ 100 := by
      rw [List.getD_eq_getElem?_getD]
      cases e : tr[ns.idxOf z]? with
      | none => decide
      | some x => exact h x (List.mem_of_getElem? e)
    have : (2 : Nat) ^ 31 ≤ 2 ^ (31 * 2 ^ 1) := Nat.pow_le_pow_right (by decide) (by decide)
    show (tr.getD (ns.idxOf z) 0).natAbs < 2 ^ (31 * 2 ^ 1)
    omega
  | .ifT t, _ => by
    have : (2 : Nat) ^ 1 ≤ 2 ^ (31 * 2 ^ (t.dp + 1)) := Nat.pow_le_pow_right (by decide) (by have := Nat.one_le_two_pow (n := t.dp + 1); omega)
    show (if t.holds ns lot tr then (1 : Int) else 0).natAbs < 2 ^ (31 * 2 ^ (t.dp + 1))
    split <;> omega
  | .plus a b, hw => by
    have ha := Wth.val_lt (lot := lot) h a hw.1
    have hb := Wth.val_lt (lot := lot) h b hw.2
    have la : 2 ^ (31 * 2 ^ a.dp) ≤ 2 ^ (31 * 2 ^ (max a.dp b.dp)) := Nat.pow_le_pow_right (by decide) (Nat.mul_le_mul_left _ (Nat.pow_le_pow_right (by decide) (Nat.le_max_left _ _)))
    have lb : 2 ^ (31 * 2 ^ b.dp) ≤ 2 ^ (31 * 2 ^ (max a.dp b.dp)) := Nat.pow_le_pow_right (by decide) (Nat.mul_le_mul_left _ (Nat.pow_le_pow_right (by decide) (Nat.le_max_right _ _)))
    show (a.val ns lot tr + b.val ns lot tr).natAbs < 2 ^ (31 * 2 ^ (max a.dp b.dp + 1))
    have s := Int.natAbs_add_le (a.val ns lot tr) (b.val ns lot tr)
    have e : 31 * 2 ^ (max a.dp b.dp + 1) = 31 * 2 ^ (max a.dp b.dp) + 31 * 2 ^ (max a.dp b.dp) := by rw [Nat.pow_succ]; omega
    rw [e]
    generalize max a.dp b.dp = m at *
    have p : 2 ^ (31 * 2 ^ m) * 2 ≤ 2 ^ (31 * 2 ^ m + 31 * 2 ^ m) := by
      rw [← Nat.pow_succ]
      exact Nat.pow_le_pow_right (by decide) (by have := Nat.one_le_two_pow (n := m); omega)
    omega
  | .times a b, hw => by
    have ha := Wth.val_lt (lot := lot) h a hw.1
    have hb := Wth.val_lt (lot := lot) h b hw.2
    have la : 2 ^ (31 * 2 ^ a.dp) ≤ 2 ^ (31 * 2 ^ (max a.dp b.dp)) := Nat.pow_le_pow_right (by decide) (Nat.mul_le_mul_left _ (Nat.pow_le_pow_right (by decide) (Nat.le_max_left _ _)))
    have lb : 2 ^ (31 * 2 ^ b.dp) ≤ 2 ^ (31 * 2 ^ (max a.dp b.dp)) := Nat.pow_le_pow_right (by decide) (Nat.mul_le_mul_left _ (Nat.pow_le_pow_right (by decide) (Nat.le_max_right _ _)))
    show (a.val ns lot tr * b.val ns lot tr).natAbs < 2 ^ (31 * 2 ^ (max a.dp b.dp + 1))
    have e : 31 * 2 ^ (max a.dp b.dp + 1) = 31 * 2 ^ (max a.dp b.dp) + 31 * 2 ^ (max a.dp b.dp) := by rw [Nat.pow_succ]; omega
    rw [e]
    exact wide_lt (Nat.lt_of_lt_of_le ha la) (Nat.lt_of_lt_of_le hb lb)
/-! ### phrases: a word, and what follows in it -/
def isTup (d : PyData) : Bool := isD "tuple" d
def Phr : Nat → PyData → Prop
  | 0, _ => False
  | n + 1, d => ∃ w ps, d = .tuple (.str w :: ps) ∧ (ps.length ≤ 2 ∧ Nm w) ∧ ∀ p ∈ ps, isTup p = true → Phr n p
def hasB : Nat → PyData → Bool
  | n + 1, .tuple (.str w :: ps) => decide (w = "blank") || ps.any fun p => isTup p && hasB n p
  | _, _ => false
def plainD : Nat → PyData → PyData
  | n + 1, .tuple (.str w :: ps) => if w = "blank" then .tuple [.str "all"] else .tuple (.str w :: ps.map fun p => if isTup p = true then plainD n p else p)
  | _, d => d
def headsD : Nat → PyData → List Str
  | n + 1, .tuple (.str w :: ps) => w :: ps.flatMap fun p => if isTup p = true then headsD n p else []
  | _, _ => []
theorem isTup_enc (t : Tst) : isTup t.enc = true := by cases t <;> rfl
theorem isTup_encW (t : Wth) : isTup t.enc = true := by cases t <;> rfl
theorem phr_T : ∀ (t : Tst) (n : Nat), t.dp ≤ n → Phr n t.enc
  | t, 0, h => by have := t.dp_pos; omega
  | .all, n + 1, _ => ⟨_, _, rfl, ⟨by decide, by decide +kernel, by decide +kernel⟩, fun p hp => nomatch hp⟩
  | .is z m, n + 1, _ => ⟨_, _, rfl, ⟨by show 2 ≤ 2; decide, by decide +kernel, by decide +kernel⟩, fun p hp q => by
    simp only [List.mem_cons, List.not_mem_nil, or_false] at hp
    rcases hp with rfl | rfl <;> cases q⟩
  | .blank z, n + 1, _ => ⟨_, _, rfl, ⟨by show 1 ≤ 2; decide, by decide +kernel, by decide +kernel⟩, fun p hp q => by
    simp only [List.mem_cons, List.not_mem_nil, or_false] at hp
    rcases hp with rfl
    cases q⟩
  | .nt t, n + 1, h => ⟨_, _, rfl, ⟨by show 1 ≤ 2; decide, by decide +kernel, by decide +kernel⟩, fun p hp q => by
    simp only [List.mem_cons, List.not_mem_nil, or_false] at hp
    rcases hp with rfl
    exact phr_T t n (by simp only [Tst.dp] at h; omega)⟩
  | .both a b, n + 1, h => ⟨_, _, rfl, ⟨by show 2 ≤ 2; decide, by decide +kernel, by decide +kernel⟩, fun p hp q => by
    simp only [List.mem_cons, List.not_mem_nil, or_false] at hp
    simp only [Tst.dp] at h
    rcases hp with rfl | rfl
    · exact phr_T a n (by omega)
    · exact phr_T b n (by omega)⟩
  | .either a b, n + 1, h => ⟨_, _, rfl, ⟨by show 2 ≤ 2; decide, by decide +kernel, by decide +kernel⟩, fun p hp q => by
    simp only [List.mem_cons, List.not_mem_nil, or_false] at hp
    simp only [Tst.dp] at h
    rcases hp with rfl | rfl
    · exact phr_T a n (by omega)
    · exact phr_T b n (by omega)⟩
theorem phr_W : ∀ (t : Wth) (n : Nat), t.dp ≤ n → Phr n t.enc
  | t, 0, h => by have := t.dp_pos; omega
  | .number m, n + 1, _ => ⟨_, _, rfl, ⟨by show 1 ≤ 2; decide, by decide +kernel, by decide +kernel⟩, fun p hp q => by
    simp only [List.mem_cons, List.not_mem_nil, or_false] at hp
    rcases hp with rfl
    cases q⟩
  | .answer z, n + 1, _ => ⟨_, _, rfl, ⟨by show 1 ≤ 2; decide, by decide +kernel, by decide +kernel⟩, fun p hp q => by
    simp only [List.mem_cons, List.not_mem_nil, or_false] at hp
    rcases hp with rfl
    cases q⟩
  | .ifT t, n + 1, h => ⟨_, _, rfl, ⟨by show 1 ≤ 2; decide, by decide +kernel, by decide +kernel⟩, fun p hp q => by
    simp only [List.mem_cons, List.not_mem_nil, or_false] at hp
    rcases hp with rfl
    exact phr_T t n (by simp only [Wth.dp] at h; omega)⟩
  | .plus a b, n + 1, h => ⟨_, _, rfl, ⟨by show 2 ≤ 2; decide, by decide +kernel, by decide +kernel⟩, fun p hp q => by
    simp only [List.mem_cons, List.not_mem_nil, or_false] at hp
    simp only [Wth.dp] at h
    rcases hp with rfl | rfl
    · exact phr_W a n (by omega)
    · exact phr_W b n (by omega)⟩
  | .times a b, n + 1, h => ⟨_, _, rfl, ⟨by show 2 ≤ 2; decide, by decide +kernel, by decide +kernel⟩, fun p hp q => by
    simp only [List.mem_cons, List.not_mem_nil, or_false] at hp
    simp only [Wth.dp] at h
    rcases hp with rfl | rfl
    · exact phr_W a n (by omega)
    · exact phr_W b n (by omega)⟩
/-- heads tell whether a word stands in it -/
theorem heads_has : ∀ (n : Nat) (d : PyData), Phr n d → decide ((Str.ofString "blank") ∈ headsD n d) = hasB n d
  | 0, _, h => h.elim
  | n + 1, d, ⟨w, ps, e, _, hp⟩ => by
    subst e
    show decide ((Str.ofString "blank") ∈ w :: ps.flatMap fun p => if isTup p = true then headsD n p else []) = (decide (w = "blank") || ps.any fun p => isTup p && hasB n p)
    rw [Bool.eq_iff_iff]
    simp only [decide_eq_true_eq, List.mem_cons, List.mem_flatMap, Bool.or_eq_true, List.any_eq_true, Bool.and_eq_true]
    constructor
    · rintro (h | ⟨p, h1, h2⟩)
      · exact .inl h.symm
      · by_cases t : isTup p = true
        · rw [if_pos t] at h2
          exact .inr ⟨p, h1, t, by rw [← heads_has n p (hp p h1 t)]; exact decide_eq_true h2⟩
        · rw [if_neg t] at h2
          cases h2
    · rintro (h | ⟨p, h1, t, h2⟩)
      · exact .inl h.symm
      · refine .inr ⟨p, h1, ?_⟩
        rw [if_pos t]
        rw [← heads_has n p (hp p h1 t)] at h2
        exact of_decide_eq_true h2
theorem heads_nm : ∀ (n : Nat) (d : PyData), Phr n d → ∀ z ∈ headsD n d, Nm z
  | 0, _, h => h.elim
  | n + 1, d, ⟨w, ps, e, ⟨_, hw⟩, hp⟩ => by
    subst e
    intro z hz
    have hz : z ∈ w :: ps.flatMap fun p => if isTup p = true then headsD n p else [] := hz
    rcases List.mem_cons.mp hz with rfl | hz
    · exact hw
    · obtain ⟨p, h1, h2⟩ := List.mem_flatMap.mp hz
      by_cases t : isTup p = true
      · rw [if_pos t] at h2
        exact heads_nm n p (hp p h1 t) z h2
      · rw [if_neg t] at h2
        cases h2
def Tst.plain : Tst → Tst
  | .blank _ => .all
  | .nt t => .nt t.plain
  | .both a b => .both a.plain b.plain
  | .either a b => .either a.plain b.plain
  | t => t
def Wth.plain : Wth → Wth
  | .ifT t => .ifT t.plain
  | .plus a b => .plus a.plain b.plain
  | .times a b => .times a.plain b.plain
  | t => t
theorem plain_T : ∀ (t : Tst) (n : Nat), t.dp ≤ n → plainD n t.enc = t.plain.enc
  | t, 0, h => by have := t.dp_pos; omega
  | .all, n + 1, _ => rfl
  | .is z m, n + 1, _ => rfl
  | .blank z, n + 1, _ => rfl
  | .nt t, n + 1, h => by
    show PyData.tuple [.str "not", if isTup t.enc = true then plainD n t.enc else t.enc] = _
    rw [if_pos (isTup_enc t), plain_T t n (by simp only [Tst.dp] at h; omega)]
    rfl
  | .both a b, n + 1, h => by
    simp only [Tst.dp] at h
    show PyData.tuple [.str "both", if isTup a.enc = true then plainD n a.enc else a.enc, if isTup b.enc = true then plainD n b.enc else b.enc] = _
    rw [if_pos (isTup_enc a), if_pos (isTup_enc b), plain_T a n (by omega), plain_T b n (by omega)]
    rfl
  | .either a b, n + 1, h => by
    simp only [Tst.dp] at h
    show PyData.tuple [.str "either", if isTup a.enc = true then plainD n a.enc else a.enc, if isTup b.enc = true then plainD n b.enc else b.enc] = _
    rw [if_pos (isTup_enc a), if_pos (isTup_enc b), plain_T a n (by omega), plain_T b n (by omega)]
    rfl
theorem plain_W : ∀ (t : Wth) (n : Nat), t.dp ≤ n → plainD n t.enc = t.plain.enc
  | t, 0, h => by have := t.dp_pos; omega
  | .number m, n + 1, _ => rfl
  | .answer z, n + 1, _ => rfl
  | .ifT t, n + 1, h => by
    show PyData.tuple [.str "if", if isTup t.enc = true then plainD n t.enc else t.enc] = _
    rw [if_pos (isTup_enc t), plain_T t n (by simp only [Wth.dp] at h; omega)]
    rfl
  | .plus a b, n + 1, h => by
    simp only [Wth.dp] at h
    show PyData.tuple [.str "plus", if isTup a.enc = true then plainD n a.enc else a.enc, if isTup b.enc = true then plainD n b.enc else b.enc] = _
    rw [if_pos (isTup_encW a), if_pos (isTup_encW b), plain_W a n (by omega), plain_W b n (by omega)]
    rfl
  | .times a b, n + 1, h => by
    simp only [Wth.dp] at h
    show PyData.tuple [.str "times", if isTup a.enc = true then plainD n a.enc else a.enc, if isTup b.enc = true then plainD n b.enc else b.enc] = _
    rw [if_pos (isTup_encW a), if_pos (isTup_encW b), plain_W a n (by omega), plain_W b n (by omega)]
    rfl
theorem plain_ok {ns : List Str} : ∀ t : Tst, t.ok ns → t.plain.ok ns ∧ t.plain.dp ≤ t.dp
  | .all, _ => ⟨trivial, Nat.le_refl _⟩
  | .is _ _, h => ⟨h, Nat.le_refl _⟩
  | .blank _, _ => ⟨trivial, Nat.le_refl _⟩
  | .nt t, h => by
    obtain ⟨a, b⟩ := plain_ok t h
    exact ⟨a, Nat.succ_le_succ b⟩
  | .both a b, h => by
    obtain ⟨a1, a2⟩ := plain_ok a h.1
    obtain ⟨b1, b2⟩ := plain_ok b h.2
    exact ⟨⟨a1, b1⟩, by simp only [Tst.plain, Tst.dp]; omega⟩
  | .either a b, h => by
    obtain ⟨a1, a2⟩ := plain_ok a h.1
    obtain ⟨b1, b2⟩ := plain_ok b h.2
    exact ⟨⟨a1, b1⟩, by simp only [Tst.plain, Tst.dp]; omega⟩
theorem plain_okW {ns : List Str} : ∀ t : Wth, t.ok ns → t.plain.ok ns ∧ t.plain.dp ≤ t.dp
  | .number _, h => ⟨h, Nat.le_refl _⟩
  | .answer _, h => ⟨h, Nat.le_refl _⟩
  | .ifT t, h => by
    obtain ⟨a, b⟩ := plain_ok t h
    exact ⟨a, Nat.succ_le_succ b⟩
  | .plus a b, h => by
    obtain ⟨a1, a2⟩ := plain_okW a h.1
    obtain ⟨b1, b2⟩ := plain_okW b h.2
    exact ⟨⟨a1, b1⟩, by simp only [Wth.plain, Wth.dp]; omega⟩
  | .times a b, h => by
    obtain ⟨a1, a2⟩ := plain_okW a h.1
    obtain ⟨b1, b2⟩ := plain_okW b h.2
    exact ⟨⟨a1, b1⟩, by simp only [Wth.plain, Wth.dp]; omega⟩
/-! ### how they are shown -/
def wt (d : Nat) : Nat := 60 * 2 ^ d - 10
theorem wt_mono {a b : Nat} (h : a ≤ b) : wt a ≤ wt b := by
  have := Nat.pow_le_pow_right (show 0 < 2 by decide) h
  unfold wt
  omega
theorem wt_one (m : Nat) : 6 + 1 + (wt m + 1 + 0) ≤ wt (m + 1) := by
  have := Nat.one_le_two_pow (n := m)
  unfold wt
  rw [Nat.pow_succ]
  omega
theorem wt_two (m : Nat) : 6 + 1 + (wt m + 1 + (wt m + 1 + 0)) ≤ wt (m + 1) := by
  have := Nat.one_le_two_pow (n := m)
  unfold wt
  rw [Nat.pow_succ]
  omega
theorem tb_word {z : Str} (h : ∀ a ∈ z.cps.toList, a < 16 ^ 8 := by decide) (l : z.length ≤ 6 := by decide) : Tb 0 6 (.str z) := tb_str h l
theorem tb_nm1 {z : Str} (h : Nm z) : Tb 0 20 (.str z) := tb_str (fun a ha => Nat.lt_trans (h.2 a ha) (by decide)) h.1
theorem tb_small {n : Int} {b : Nat} (h : n.natAbs ≤ b) (hb : b < 2 ^ 100) : Tb 0 0 (.int n) := tb_int (Nat.lt_of_le_of_lt h (Nat.lt_of_lt_of_le hb (Nat.pow_le_pow_right (by decide) (by decide))))
theorem tb_two {z : Str} {a : PyData} {m : Nat} (hz : Tb 0 6 (.str z)) (ha : Tb m (wt m) a) : Tb (m + 1) (wt (m + 1)) (.tuple [.str z, a]) :=
  (TbAll.cons (hz.more (Nat.zero_le _) (Nat.le_refl _)) (.cons ha (TbAll.nil.more (Nat.zero_le _) (Nat.le_refl _)))).tuple.more (Nat.le_refl _) (wt_one m)
theorem tb_three {z : Str} {a b : PyData} {m n : Nat} (hz : Tb 0 6 (.str z)) (ha : Tb m (wt m) a) (hb : Tb n (wt n) b) : Tb (max m n + 1) (wt (max m n + 1)) (.tuple [.str z, a, b]) :=
  (TbAll.cons (hz.more (Nat.zero_le _) (Nat.le_refl _)) (.cons (ha.more (Nat.le_max_left _ _) (wt_mono (Nat.le_max_left _ _))) (.cons (hb.more (Nat.le_max_right _ _) (wt_mono (Nat.le_max_right _ _))) (TbAll.nil.more (Nat.zero_le _) (Nat.le_refl _))))).tuple.more (Nat.le_refl _) (wt_two _)
theorem tb_T {ns : List Str} (nm : ∀ z ∈ ns, Nm z) : ∀ (t : Tst), t.ok ns → Tb t.dp (wt t.dp) t.enc
  | .all, _ => (TbAll.cons (tb_word (z := "all")) .nil).tuple.more (Nat.le_refl _) (by show 6 + 1 + 0 ≤ 60 * 2 ^ 1 - 10; decide)
  | .is z n, h => (TbAll.cons (tb_word (z := "is")) (.cons (tb_nm1 (nm z h.1)) (.cons (tb_small h.2 (by decide)) .nil))).tuple.more (Nat.le_refl _) (by show 6 + 1 + (20 + 1 + (0 + 1 + 0)) ≤ 60 * 2 ^ 1 - 10; decide)
  | .blank z, h => (TbAll.cons (tb_word (z := "blank")) (.cons (tb_nm1 (nm z h)) .nil)).tuple.more (Nat.le_refl _) (by show 6 + 1 + (20 + 1 + 0) ≤ 60 * 2 ^ 1 - 10; decide)
  | .nt t, h => tb_two (tb_word (z := "not")) (tb_T nm t h)
  | .both x y, h => tb_three (tb_word (z := "both")) (tb_T nm x h.1) (tb_T nm y h.2)
  | .either x y, h => tb_three (tb_word (z := "either")) (tb_T nm x h.1) (tb_T nm y h.2)
theorem tb_W {ns : List Str} (nm : ∀ z ∈ ns, Nm z) : ∀ (t : Wth), t.ok ns → Tb t.dp (wt t.dp) t.enc
  | .number n, h => (TbAll.cons (tb_word (z := "number")) (.cons (tb_small h (by decide)) .nil)).tuple.more (Nat.le_refl _) (by show 6 + 1 + (0 + 1 + 0) ≤ 60 * 2 ^ 1 - 10; decide)
  | .answer z, h => (TbAll.cons (tb_word (z := "answer")) (.cons (tb_nm1 (nm z h)) .nil)).tuple.more (Nat.le_refl _) (by show 6 + 1 + (20 + 1 + 0) ≤ 60 * 2 ^ 1 - 10; decide)
  | .ifT t, h => tb_two (tb_word (z := "if")) (tb_T nm t h)
  | .plus x y, h => tb_three (tb_word (z := "plus")) (tb_W nm x h.1) (tb_W nm y h.2)
  | .times x y, h => tb_three (tb_word (z := "times")) (tb_W nm x h.1) (tb_W nm y h.2)
theorem wt4 {m : Nat} (h : m ≤ 4) : wt m ≤ 950 := Nat.le_trans (wt_mono h) (by decide)
/-! ### keys: a lot and a truth -/
abbrev Ky := List Str × List Int
def keyD (k : Ky) : PyData := .tuple [lotD k.1, rowD k.2]
theorem eqv_strs : ∀ a b : List Str, PyData.eqvAll (a.map PyData.str) (b.map PyData.str) = decide (a = b)
  | [], [] => by simp [PyData.eqvAll]
  | [], y :: b => by simp [PyData.eqvAll]
  | x :: a, [] => by simp [PyData.eqvAll]
  | x :: a, y :: b => by
    simp only [List.map_cons, PyData.eqvAll, eqv_strs a b, PyData.eqv, List.cons.injEq]
    by_cases h : x = y <;> by_cases g : a = b <;> simp [h, g]
theorem eqv_ints : ∀ a b : List Int, PyData.eqvAll (a.map PyData.int) (b.map PyData.int) = decide (a = b)
  | [], [] => by simp [PyData.eqvAll]
  | [], y :: b => by simp [PyData.eqvAll]
  | x :: a, [] => by simp [PyData.eqvAll]
  | x :: a, y :: b => by
    simp only [List.map_cons, PyData.eqvAll, eqv_ints a b, PyData.eqv, List.cons.injEq]
    by_cases h : x = y <;> by_cases g : a = b <;> simp [h, g]
theorem keyD_eqv (a b : Ky) : PyData.eqv (keyD a) (keyD b) = decide (a = b) := by
  obtain ⟨a1, a2⟩ := a
  obtain ⟨b1, b2⟩ := b
  simp only [keyD, lotD, rowD, PyData.eqv, PyData.eqvAll, eqv_strs, eqv_ints, Bool.and_true, Prod.mk.injEq]
  by_cases h : a1 = b1 <;> by_cases g : a2 = b2 <;> simp [h, g]
theorem keys_any (ks : List Ky) (k : Ky) : ((ks.map keyD).any fun z => PyData.eqv z (keyD k)) = decide (k ∈ ks) := by
  induction ks with
  | nil => simp
  | cons a ks ih =>
    rw [List.map_cons, List.any_cons, ih, keyD_eqv]
    by_cases h : a = k
    · simp [h]
    · have h' : ¬ k = a := fun e => h e.symm
      simp [h, h']
theorem lay_key {k : Ky} (h : ∀ z ∈ k.1, Nm z) : PyData.canLay0 (keyD k) = true := by
  simp [keyD, PyData.canLay0, PyData.canLayAll0, lotD, rowD, lay_strs h, lay_ints]
theorem depth_key (k : Ky) : (keyD k).depth = 2 := by
  simp [keyD, PyData.depth, PyData.depthAll, lotD, rowD, depth_strs, depth_ints]
theorem shaped_key {k : Ky} (h : ∀ z ∈ k.1, Nm z) : SeqAt.shaped (keyD k) = true := by
  show (PyData.canLay0 (keyD k) && decide ((keyD k).depth ≤ 64)) = true
  rw [lay_key h, depth_key]
  decide
theorem lay_keys : ∀ {ks : List Ky}, (∀ k ∈ ks, ∀ z ∈ k.1, Nm z) → PyData.canLayAll0 (ks.map keyD) = true
  | [], _ => by simp [PyData.canLayAll0]
  | k :: ks, h => by
    simp only [List.map_cons, PyData.canLayAll0, lay_key (h k List.mem_cons_self), lay_keys fun x hx => h x (List.mem_cons_of_mem _ hx), Bool.and_self]
theorem depth_keys : ∀ ks : List Ky, PyData.depthAll (ks.map keyD) ≤ 2
  | [] => by simp [PyData.depthAll]
  | k :: ks => by
    simp only [List.map_cons, PyData.depthAll, depth_key]
    exact Nat.max_le.mpr ⟨Nat.le_refl _, depth_keys ks⟩
theorem shaped_keys {ks : List Ky} (h : ∀ k ∈ ks, ∀ z ∈ k.1, Nm z) : SeqAt.shaped (.list (ks.map keyD)) = true := by
  show (PyData.canLay0 (.list (ks.map keyD)) && decide ((PyData.list (ks.map keyD)).depth ≤ 64)) = true
  have a := depth_keys ks
  rw [Bool.and_eq_true]
  refine ⟨by simp only [PyData.canLay0]; exact lay_keys h, decide_eq_true ?_⟩
  simp only [PyData.depth]
  omega
end As

set_option Elab.async false
set_option linter.all false
set_option maxRecDepth 100000
set_option maxHeartbeats 1000000
/-! Sm0: what is drawn is bounded. -/
namespace Sb
open PySem PySem.Spec PyProof.Rows L2 Wb Wv Fm
/-- data of so many bits, storeys and so much weight -/
inductive Sm (b : Nat) : Nat → Nat → PyData → Prop
  | none {k W : Nat} : Sm b k W .none
  | bool {k W : Nat} (c : Bool) : Sm b k W (.bool c)
  | int {k W : Nat} {i : Int} (h : i.natAbs < 2 ^ b) : Sm b k W (.int i)
  | str {k W : Nat} {z : Str} (h : Nmk W z) : Sm b k W (.str z)
  | list {k W V : Nat} {ds : List PyData} (h : ∀ x ∈ ds, Sm b k W x) (hl : ds.length * (W + 1) ≤ V) : Sm b (k + 1) V (.list ds)
  | tuple {k W V : Nat} {ds : List PyData} (h : ∀ x ∈ ds, Sm b k W x) (hl : ds.length * (W + 1) ≤ V) : Sm b (k + 1) V (.tuple ds)
theorem Sm.mono {b k W : Nat} {d : PyData} (h : Sm b k W d) : ∀ {b' k' W' : Nat}, b ≤ b' → k ≤ k' → W ≤ W' → Sm b' k' W' d := by
  induction h with
  | none => exact fun _ _ _ => .none
  | bool b => exact fun _ _ _ => .bool b
  | int h => exact fun hb _ _ => .int (Nat.lt_of_lt_of_le h (Nat.pow_le_pow_right (by decide) hb))
  | str h => exact fun _ _ hw => .str (h.mono hw)
  | list h hl ih =>
    intro b' k' W' hb hk hw
    obtain ⟨j, rfl⟩ : ∃ j, k' = j + 1 := ⟨k' - 1, by omega⟩
    exact .list (fun x hx => ih x hx hb (by omega) (Nat.le_refl _)) (Nat.le_trans hl hw)
  | tuple h hl ih =>
    intro b' k' W' hb hk hw
    obtain ⟨j, rfl⟩ : ∃ j, k' = j + 1 := ⟨k' - 1, by omega⟩
    exact .tuple (fun x hx => ih x hx hb (by omega) (Nat.le_refl _)) (Nat.le_trans hl hw)
/-- short leaves -/
structure Tc (n W : Nat) (e : PyData) : Prop where
  tb : Tb n W e
  leaf : e.leavesShort 100 = true
theorem leaves_all {L : Nat} : ∀ {ds : List PyData}, (∀ x ∈ ds, x.leavesShort L = true) → PyData.leavesShortAll L ds = true
  | [], _ => by simp [PyData.leavesShortAll]
  | x :: ds, h => by simp only [PyData.leavesShortAll, h x List.mem_cons_self, leaves_all fun y hy => h y (List.mem_cons_of_mem _ hy), Bool.and_self]
theorem Sm.tc {b k W : Nat} {d : PyData} (h : Sm b k W d) (hb : b ≤ 90) : Tc k W d := by
  induction h with
  | none => exact ⟨tb_none.more (Nat.zero_le _) (Nat.zero_le _), by decide +kernel⟩
  | bool c => exact ⟨(tb_bool c).more (Nat.zero_le _) (Nat.zero_le _), by cases c <;> decide +kernel⟩
  | @int k W i h =>
    refine ⟨(tb_int (Nat.lt_of_lt_of_le h (Nat.pow_le_pow_right (by decide) (by omega)))).more (Nat.zero_le _) (Nat.zero_le _), ?_⟩
    simp only [PyData.leavesShort, decide_eq_true_eq]
    have l : i.natAbs.log2 < 90 := log_le (Nat.lt_of_lt_of_le h (Nat.pow_le_pow_right (by decide) hb)) (by decide)
    have := int_text_length_le (a := i) (by decide) l
    show (Str.ofString (toString i)).length ≤ 100
    have e : (Str.ofString (toString i)).length = (toString i).length := by
      rw [Str.ofString_eq_toList]
      simp [Str.length]
      exact String.length_toList
    rw [e]
    omega
  | str h => exact ⟨(tb_str (fun a ha => Nat.lt_of_lt_of_le (h.2 a ha) (by decide)) h.1).more (Nat.zero_le _) (Nat.le_refl _), by
      simp only [PyData.leavesShort, List.all_eq_true, decide_eq_true_eq]
      exact fun a ha => Nat.lt_of_lt_of_le (h.2 a ha) (by decide)⟩
  | list h hl ih => exact ⟨((TbAll.of fun x hx => (ih x hx).tb).list).more (Nat.le_refl _) hl, by simp only [PyData.leavesShort]; exact leaves_all fun x hx => (ih x hx).leaf⟩
  | tuple h hl ih => exact ⟨((TbAll.of fun x hx => (ih x hx).tb).tuple).more (Nat.le_refl _) hl, by simp only [PyData.leavesShort]; exact leaves_all fun x hx => (ih x hx).leaf⟩
theorem Sm.tb {b k W : Nat} {d : PyData} (h : Sm b k W d) (hb : b ≤ 90) : Tb k W d := (h.tc hb).tb
theorem lay_all : ∀ {ds : List PyData}, (∀ x ∈ ds, PyData.canLay0 x = true) → PyData.canLayAll0 ds = true
  | [], _ => rfl
  | x :: ds, h => by simp only [PyData.canLayAll0, h x List.mem_cons_self, lay_all fun y hy => h y (List.mem_cons_of_mem _ hy), Bool.and_self]
theorem strok {W : Nat} {z : Str} (h : Nmk W z) : PyData.strOk z = true := by
  unfold PyData.strOk
  rw [← Array.all_toList, List.all_eq_true]
  intro c hc
  have := h.2 c hc
  simp only [decide_eq_true_eq]
  omega
theorem Sm.lay {b k W : Nat} {d : PyData} (h : Sm b k W d) : PyData.canLay0 d = true := by
  induction h with
  | none => rfl
  | bool b => rfl
  | int h => rfl
  | str h => simp only [PyData.canLay0, strok h]
  | list h hl ih => simp only [PyData.canLay0, lay_all ih]
  | tuple h hl ih => simp only [PyData.canLay0, lay_all ih]
theorem depth_all {k : Nat} : ∀ {ds : List PyData}, (∀ x ∈ ds, x.depth ≤ k) → PyData.depthAll ds ≤ k
  | [], _ => Nat.zero_le _
  | x :: ds, h => by
    simp only [PyData.depthAll]
    exact Nat.max_le.mpr ⟨h x List.mem_cons_self, depth_all fun y hy => h y (List.mem_cons_of_mem _ hy)⟩
theorem Sm.deep {b k W : Nat} {d : PyData} (h : Sm b k W d) : d.depth ≤ k := by
  induction h with
  | none => simp [PyData.depth]
  | bool b => simp [PyData.depth]
  | int h => simp [PyData.depth]
  | str h => simp [PyData.depth]
  | list h hl ih => simp only [PyData.depth]; have := depth_all ih; omega
  | tuple h hl ih => simp only [PyData.depth]; have := depth_all ih; omega
theorem Sm.shaped {b k W : Nat} {d : PyData} (h : Sm b k W d) (hk : k ≤ 60 := by decide) : SeqAt.shaped d = true := by
  unfold SeqAt.shaped
  rw [h.lay, Bool.true_and]
  exact decide_eq_true (Nat.le_trans h.deep (by omega))
theorem Sm.shw {b k W : Nat} {d : PyData} (h : Sm b k W d) (hb : b ≤ 90 := by decide) (hk : k ≤ 60 := by decide) (hw : W ≤ 100000 := by decide) : Shw d := by
  have t := h.tc hb
  refine ⟨t.tb.shows, t.tb.noDict, Nat.le_trans t.tb.deep hk, ?_⟩
  have q := PyData.shown_le_bulk 100 (by decide) d t.leaf
  have l := t.tb.light
  rw [sizeLine_eq]
  omega
theorem Sm.strInv {b k W : Nat} {z : Str} (h : Sm b k W (.str z)) : Nmk W z := by
  cases h with
  | str h => exact h
theorem Sm.intInv {b k W : Nat} {i : Int} (h : Sm b k W (.int i)) : i.natAbs < 2 ^ b := by
  cases h with
  | int h => exact h
theorem Sm.tupInv {b k V : Nat} {ds : List PyData} (h : Sm b k V (.tuple ds)) : ∃ j W, k = j + 1 ∧ (∀ x ∈ ds, Sm b j W x) ∧ ds.length * (W + 1) ≤ V := by
  cases h with
  | tuple h hl => exact ⟨_, _, rfl, h, hl⟩
theorem Sm.elem {b k V : Nat} {ds : List PyData} {x : PyData} (h : Sm b k V (.tuple ds)) (hx : x ∈ ds) : Sm b k V x := by
  obtain ⟨j, W, rfl, h, hl⟩ := h.tupInv
  have p1 : 1 * (W + 1) ≤ ds.length * (W + 1) := Nat.mul_le_mul_right _ (List.length_pos_of_mem hx)
  exact (h x hx).mono (Nat.le_refl _) (by omega) (by omega)
theorem Sm.count {b k V : Nat} {ds : List PyData} (h : Sm b k V (.tuple ds)) : ds.length ≤ V := by
  obtain ⟨j, W, _, _, hl⟩ := h.tupInv
  have : ds.length * 1 ≤ ds.length * (W + 1) := Nat.mul_le_mul_left _ (by omega)
  omega
theorem sm_list {b k W : Nat} {ds : List PyData} (h : ∀ x ∈ ds, Sm b k W x) (n : Nat) (hn : ds.length ≤ n) (V : Nat) (hV : n * (W + 1) ≤ V) : Sm b (k + 1) V (.list ds) := .list h (Nat.le_trans (Nat.mul_le_mul_right _ hn) hV)
theorem sm_tuple {b k W : Nat} {ds : List PyData} (h : ∀ x ∈ ds, Sm b k W x) (n : Nat) (hn : ds.length ≤ n) (V : Nat) (hV : n * (W + 1) ≤ V) : Sm b (k + 1) V (.tuple ds) := .tuple h (Nat.le_trans (Nat.mul_le_mul_right _ hn) hV)
theorem mem1 {α : Type} {P : α → Prop} {a : α} (h : P a) : ∀ x ∈ [a], P x := fun x hx => by
  rw [List.mem_singleton.mp hx]
  exact h
theorem mem2 {α : Type} {P : α → Prop} {a c : α} (h : P a) (h2 : P c) : ∀ x ∈ [a, c], P x := fun x hx => by
  rcases List.mem_cons.mp hx with rfl | hx
  · exact h
  · exact mem1 h2 x hx
theorem mem3 {α : Type} {P : α → Prop} {a c d : α} (h : P a) (h2 : P c) (h3 : P d) : ∀ x ∈ [a, c, d], P x := fun x hx => by
  rcases List.mem_cons.mp hx with rfl | hx
  · exact h
  · exact mem2 h2 h3 x hx
theorem eqv_nil : ∀ ds : List PyData, PyData.eqv (.list ds) (.list []) = decide (ds = []) := by
  intro ds
  cases ds <;> simp [PyData.eqv, PyData.eqvAll]
theorem eqv_nilT : ∀ ds : List PyData, PyData.eqv (.tuple ds) (.tuple []) = decide (ds = []) := by
  intro ds
  cases ds <;> simp [PyData.eqv, PyData.eqvAll]
theorem dat_lst {K : PySem.W.Frag} {B : Hp} {ds : List PyData} {p : Addr} {xs : List V} (hs : SqL K B p xs) (h : AllR (ds.map (dat K)) B xs) : dat K (.list ds) B (.ref p) := lstR_dat ⟨p, xs, rfl, hs, h⟩
theorem bool_or_not {a b : Bool} : (!a || !b) = !(a && b) := by cases a <;> cases b <;> rfl
end Sb

set_option Elab.async false
set_option linter.all false
set_option maxRecDepth 100000
set_option maxHeartbeats 1000000
/-! K33q: a tally's kinds and counts, read anew. -/
namespace K33
open PySem PySem.Spec PyProof.Rows L2 Wb Wv Fm Ta Wf Fq Sb
structure TrOk (qs : Qs) (ls : List Lt) : Prop where
  fo : FOk qs
  few : ls.length ≤ 60
  each : ∀ x ∈ ls, LtOk x
theorem TrOk.pos {qs : Qs} {ls : List Lt} (h : TrOk qs ls) : Pos ls := fun x hx => (h.each x hx).e0
abbrev sp_ltallyRight (K : PySem.W.Frag) (CF CT : Addr) : Sp := Pf (α := Qs × List Lt) (fun a => [formR K CF a.1, tallyR K CF CT a.1 a.2, dat K (.list (a.2.map ltD))]) (fun a => TrOk a.1 a.2) (fun _ => dat K (.bool true))
theorem tally_len (ls : List Lt) : (tally ls).length ≤ ls.length := by
  unfold tally
  rw [List.length_map, (sortI_perm _).length_eq]
  exact Nat.le_trans (once_len _) (by unfold nums; rw [List.length_map]; exact Nat.le_refl _)
theorem tally_fst (ls : List Lt) : (tally ls).map (·.1) = sortI (once (nums ls)) := by
  unfold tally
  rw [List.map_map]
  exact List.map_id' _
theorem row_mem {ls : List Lt} {r : Rw} (pos : Pos ls) (h : r ∈ tally ls) : r.1 ∈ nums ls ∧ r.2.2 ≠ [] ∧ ∀ u ∈ r.2.2, (r.1, r.2.1, u) ∈ ls := by
  obtain ⟨n, hn, rfl⟩ := List.mem_map.mp h
  have hn := mem_once.mp (mem_sortI.mp hn)
  refine ⟨hn, fun z => ?_, fun u hu => mem_words.mp (mem_once.mp (mem_sortW.mp hu))⟩
  obtain ⟨u, hu⟩ := last_at pos hn
  have : u ∈ sortW (once (Ta.wordsOf ls n)) := mem_sortW.mpr (mem_once.mpr (mem_words.mpr hu))
  have z : sortW (once (Ta.wordsOf ls n)) = [] := z
  rw [z] at this
  cases this
theorem kinds_perm : ∀ {rs : List Rw}, (∀ r ∈ rs, r.2.2 ≠ []) → (dbL rs ++ gnL rs ++ (cnL rs).map (·.1)).Perm (rs.map (·.1))
  | [], _ => List.Perm.nil
  | r :: rs, h => by
    have ih := kinds_perm (rs := rs) fun x hx => h x (List.mem_cons_of_mem _ hx)
    have ne := h r List.mem_cons_self
    obtain ⟨n, e, ws⟩ := r
    have ne : ws ≠ [] := ne
    unfold dbL gnL cnL at ih ⊢
    simp only [List.filter_cons]
    cases ws with
    | nil => exact absurd rfl ne
    | cons u l => cases l with
      | nil =>
        by_cases hu : u = []
        · subst hu
          simp only [List.length_cons, List.length_nil, Nat.zero_add, Nat.lt_irrefl, decide_false, Bool.false_eq_true, if_false, decide_true, if_true, List.headD_cons, ne_eq, not_true_eq_false, Bool.and_false, List.map_cons]
          refine List.Perm.trans ?_ (ih.cons n)
          rw [List.append_assoc, List.cons_append, List.append_assoc]
          exact List.perm_middle
        · have h1 : ¬ ([u] : List Wd) = [[]] := fun z => hu (by simpa using z)
          simp only [List.length_cons, List.length_nil, Nat.zero_add, Nat.lt_irrefl, decide_false, Bool.false_eq_true, if_false, h1, decide_true, if_true, List.headD_cons, ne_eq, hu, not_false_eq_true, Bool.and_self, List.map_cons]
          exact List.Perm.trans List.perm_middle (ih.cons n)
      | cons v l =>
        have h1 : ¬ (u :: v :: l : List Wd) = [[]] := fun z => by simp at z
        have h2 : 1 < (u :: v :: l).length := by simp
        have h3 : ¬ (u :: v :: l).length = 1 := by simp
        simp only [h1, h2, h3, decide_true, decide_false, Bool.false_and, Bool.false_eq_true, if_false, if_true, List.map_cons, List.cons_append]
        exact ih.cons n
theorem kinds_sorted {ls : List Lt} (pos : Pos ls) : sortI (dbL (tally ls) ++ gnL (tally ls) ++ (cnL (tally ls)).map (·.1)) = sortI (once (nums ls)) := by
  have p := kinds_perm (rs := tally ls) fun r hr => (row_mem pos hr).2.1
  rw [tally_fst] at p
  exact sortI_eq (p.trans (sortI_perm _))
theorem num_sm {x : Lt} (h : LtOk x) : x.1.natAbs < 2 ^ 61 := by
  have a := h.n0
  have b := h.nb
  have c : (2 : Nat) ^ 61 = 2 * 2 ^ 60 := by rw [Nat.pow_succ]
  have d : x.1 < 2 ^ 60 := b
  omega
theorem kd_sm {qs : Qs} {ls : List Lt} (ok : TrOk qs ls) : Sm 61 4 4000 (kdD (tally ls)) := by
  have tl := Nat.le_trans (tally_len ls) ok.few
  have num : ∀ r ∈ tally ls, r.1.natAbs < 2 ^ 61 := fun r hr => by
    obtain ⟨h, _, _⟩ := row_mem ok.pos hr
    obtain ⟨x, hx, e⟩ := List.mem_map.mp h
    rw [← e]
    exact num_sm (ok.each x hx)
  have fl : ∀ p : Rw → Bool, ((tally ls).filter p).length ≤ 60 := fun p => Nat.le_trans (List.length_filter_le _ _) tl
  have i1 : Sm 61 3 1000 (.tuple ((dbL (tally ls)).map .int)) := (sm_tuple (k := 2) (W := 0) (fun x hx => by
    obtain ⟨n, hn, rfl⟩ := List.mem_map.mp hx
    obtain ⟨r, hr, rfl⟩ := List.mem_map.mp hn
    exact .int (num r (List.mem_filter.mp hr).1)) 60 (by rw [List.length_map]; unfold dbL; rw [List.length_map]; exact fl _) 1000 (by decide))
  have i2 : Sm 61 3 1000 (.tuple ((gnL (tally ls)).map .int)) := (sm_tuple (k := 2) (W := 0) (fun x hx => by
    obtain ⟨n, hn, rfl⟩ := List.mem_map.mp hx
    obtain ⟨r, hr, rfl⟩ := List.mem_map.mp hn
    exact .int (num r (List.mem_filter.mp hr).1)) 60 (by rw [List.length_map]; unfold gnL; rw [List.length_map]; exact fl _) 1000 (by decide))
  have i3 : Sm 61 3 1000 (.tuple ((cnL (tally ls)).map npD)) := (sm_tuple (k := 2) (W := 8) (fun x hx => by
    obtain ⟨p, hp, rfl⟩ := List.mem_map.mp hx
    obtain ⟨r, hr, rfl⟩ := List.mem_map.mp hp
    have m := List.mem_filter.mp hr
    have l : r.2.2.length = 1 := of_decide_eq_true ((Bool.and_eq_true _ _).mp m.2).1
    have hm : r.2.2.headD [] ∈ r.2.2 := by
      cases e : r.2.2 with
      | nil => rw [e] at l; cases l
      | cons u m => exact List.mem_cons_self
    have lo := ok.each _ ((row_mem ok.pos m.1).2.2 _ hm)
    refine sm_tuple (ds := [.int r.1, wdD (r.2.2.headD [])]) (W := 3) (mem2 (.int (num r m.1)) (sm_tuple (k := 0) (W := 0) (fun x hx => ?_) 3 ?_ 3 (by decide))) 2 (Nat.le_refl 2) 8 (by decide)
    · obtain ⟨i, hi, rfl⟩ := List.mem_map.mp hx
      have b : i.natAbs ≤ 8 := lo.ws i hi
      exact .int (Nat.lt_of_le_of_lt b (Nat.lt_of_lt_of_le (show 8 < 2 ^ 4 by decide) (Nat.pow_le_pow_right (by decide) (by decide))))
    · rw [List.length_map]
      exact lo.wl) 60 (by rw [List.length_map]; unfold cnL; rw [List.length_map]; exact fl _) 1000 (by decide))
  exact sm_tuple (ds := [.tuple ((dbL (tally ls)).map .int), .tuple ((gnL (tally ls)).map .int), .tuple ((cnL (tally ls)).map npD)]) (W := 1000) (fun x hx => by
    rcases List.mem_cons.mp hx with rfl | hx
    · exact i1
    rcases List.mem_cons.mp hx with rfl | hx
    · exact i2
    rw [List.mem_singleton.mp hx]
    exact i3) 3 (Nat.le_refl 3) 4000 (by decide)
theorem kd_shw {qs : Qs} {ls : List Lt} (ok : TrOk qs ls) : Shw (kdD (tally ls)) := (kd_sm ok).shw (by decide) (by decide) (by decide)
end K33

set_option Elab.async false
set_option linter.all false
set_option maxRecDepth 100000
set_option maxHeartbeats 1000000
/-! K33r: the reading of the tally's check. -/
namespace K33
open PySem PySem.Spec PyProof.Rows L2 Wb Wv Fm Ta Wf Fq Sb
theorem kw_doubts : Kw "doubts" s_doubts ["tally"] ["tally"] [0] := ⟨rfl, fun _ _ _ _ _ _ _ ws hl => match ws, hl with | [_], _ => .of_eq rfl⟩
theorem kw_gone : Kw "gone" s_gone ["tally"] ["tally"] [0] := ⟨rfl, fun _ _ _ _ _ _ _ ws hl => match ws, hl with | [_], _ => .of_eq rfl⟩
theorem kw_counted : Kw "counted" s_counted ["tally"] ["tally"] [0] := ⟨rfl, fun _ _ _ _ _ _ _ ws hl => match ws, hl with | [_], _ => .of_eq rfl⟩
theorem kw_sheetsCounted : Kw "sheets_counted" s_sheetsCounted ["tally"] ["tally"] [0] := ⟨rfl, fun _ _ _ _ _ _ _ ws hl => match ws, hl with | [_], _ => .of_eq rfl⟩
theorem kw1 {R : Rel} {B : Hp} {vs : List V} (h : AllR [R] B vs) : AllR [R] B (kwV [0] vs) := by
  obtain ⟨x, r, rfl, hx, h⟩ := h
  have h : r = [] := h
  subst h
  exact ⟨x, [], rfl, hx, rfl⟩
theorem eqv_nums (a b : List Int) : PyData.eqv (.list (a.map .int)) (.list (b.map .int)) = decide (a = b) := by
  have := eqv_ints a b
  simp only [PyData.eqv]
  exact this
theorem shaped_nums (a : List Int) : SeqAt.shaped (.list (a.map .int)) = true := by
  have h1 : PyData.canLayAll0 (a.map .int) = true := lay_map fun x _ => by simp [PyData.canLay0]
  have h2 := depth_map (f := PyData.int) (n := 0) (l := a) fun x _ => by simp [PyData.depth]
  unfold SeqAt.shaped
  simp only [PyData.canLay0, h1, PyData.depth, Bool.true_and]
  exact decide_eq_true (by omega)
theorem shaped_nps (l : List (Int × Wd)) : SeqAt.shaped (.tuple (l.map npD)) = true := by
  have h1 : PyData.canLayAll0 (l.map npD) = true := lay_map fun x _ => by
    have := lay_word x.2
    unfold npD
    simp only [PyData.canLay0, PyData.canLayAll0, this, Bool.and_self]
  have h2 := depth_map (f := npD) (n := 2) (l := l) fun x _ => by
    have : (wdD x.2).depth ≤ 1 := depth_word x.2
    unfold npD
    simp only [PyData.depth, PyData.depthAll]
    omega
  unfold SeqAt.shaped
  simp only [PyData.canLay0, h1, PyData.depth, Bool.true_and]
  exact decide_eq_true (by omega)
theorem nps_nil (l : List (Int × Wd)) : PyData.eqv (.tuple (l.map npD)) (.tuple []) = decide (l = []) := by
  cases l <;> simp [PyData.eqv, PyData.eqvAll]
theorem tab_shw {ws : List Wd} (ne : ws ≠ []) (few : ws.length ≤ 60) (ok : ∀ u ∈ ws, u.length ≤ 3 ∧ ∀ i ∈ u, i.natAbs ≤ 8) : Shw (.tuple ((tabL ws).map rdD)) := by
  have w2 : Wh (ws.length : Int) 12 (tabL ws) := by rw [← even_tab ne]; exact (even_wh ne few).sums
  refine Sm.shw (sm_tuple (b := 61) (k := 2) (W := 8) (fun x hx => ?_) 60 ?_ 1000 (by decide)) (by decide) (by decide) (by decide)
  · obtain ⟨p, hp, rfl⟩ := List.mem_map.mp hx
    have z := w2.sz p hp
    obtain ⟨u, hu, rfl⟩ := List.mem_map.mp hp
    have uo := ok u (mem_once.mp (mem_sortW.mp hu))
    have up : 2 ^ 12 ≤ 2 ^ 61 := Nat.pow_le_pow_right (by decide) (by decide)
    refine sm_tuple (W := 3) (mem2 (sm_tuple (k := 0) (W := 0) (fun x hx => ?_) 3 (by rw [List.length_map]; exact uo.1) 3 (by decide)) (sm_tuple (k := 0) (W := 0) (mem2 (.int (Nat.lt_of_lt_of_le z.top up)) (.int (Nat.lt_of_lt_of_le (by rw [Int.natAbs_natCast]; exact z.bot) up))) 2 (Nat.le_refl 2) 3 (by decide))) 2 (Nat.le_refl 2) 8 (by decide)
    obtain ⟨i, hi, rfl⟩ := List.mem_map.mp hx
    exact .int (Nat.lt_of_le_of_lt (uo.2 i hi) (Nat.lt_of_lt_of_le (show 8 < 2 ^ 4 by decide) (Nat.pow_le_pow_right (by decide) (by decide))))
  · unfold tabL
    rw [List.length_map, List.length_map, (sortW_perm _).length_eq]
    exact Nat.le_trans (once_len _) few
section
variable {P : Program} {w : World} {K : PySem.W.Frag} {mg : Str → Option Value} {base : Heap} {C_Form C_Sheets C_Tally C_InvalidSize C_Refused C_BlankError C_InvalidSheets a_ZERO a_ONE : Addr}
theorem De.eqFm {σ : L2.St} {B : Hp} {ta tb : TE} {qs : Qs} (fo : FOk qs) (h : De ta σ B (formR K C_Form qs)) (h2 : De tb σ B (formR K C_Form qs)) : De (tOp (rEqI C_Form (sp_eqForm K C_Form)) ta tb) σ B (dat K (.bool true)) :=
  De.eq (De.op (r := rEqI C_Form (sp_eqForm K C_Form)) h h2 (Rv.eqIns (args := fun a : Qs × Qs => [formR K C_Form a.1, formR K C_Form a.2]) (pre := fun a => SeqAt.shaped (qsD a.1) = true ∧ SeqAt.shaped (qsD a.2) = true) (res := fun a => dat K (.bool (PyData.eqv (qsD a.1) (qsD a.2)))) (qs, qs) ⟨shaped_qs fo, shaped_qs fo⟩ (fun B x y hx hy => ⟨x, [y], rfl, hx, y, [], rfl, hy, rfl⟩) rfl)) (by rw [qs_self fo])
theorem De.countS {σ : L2.St} {B : Hp} {ta : TE} {qs : Qs} {ls : List Lt} (h : De ta σ B (tallyR K C_Form C_Tally qs ls)) (ok : TlOk ls) (ne : cnL (tally ls) ≠ []) : De (tCalK (fun vs H Q _ => spCountS K C_Form C_Sheets C_Tally C_Refused vs H Q fun _ _ _ => False) [0] 1 E0 (tCons ta tNil)) σ B (tabR K C_Form C_Sheets qs (gathS (evenT ((cnL (tally ls)).map (·.2))))) := fun B1 H s1 s2 Q q =>
  h B1 H s1 s2 _ fun x B2 H2 e hx => ⟨rfl, x, B2, qs, ls, rfl, e.bh, hx, ok, fun _ v B' H' e' h => q v B' H' (e.trans e') h, fun n => absurd n ne⟩
theorem sc_ltallyRight : FnScope ["form", "tally", "letters", "due", "numbers", "pair", "letter", "table"] ["form", "tally", "letters"] (defScope s_ltallyRight) := ⟨rfl, rfl, rfl, by decide +kernel, rfl, by decide +kernel, by decide +kernel⟩
theorem ok_ltallyRight (D : Def K mg "_law_tally_right" s_ltallyRight ["form", "tally", "letters"]) (C_lkinds : Cal P w K mg base CX0 1 "_law_kinds" s_lkinds ["due"] (sp_lkinds K)) (C_due : Cal P w K mg base CX0 2 "_law_due" s_due ["letters"] (sp_due K)) (C_doubts : Cal P w K mg base CX0 1 "doubts" s_doubts ["tally"] (sp_doubts K C_Form C_Tally)) (C_gone : Cal P w K mg base CX0 1 "gone" s_gone ["tally"] (sp_gone K C_Form C_Tally)) (C_counted : Cal P w K mg base CX0 1 "counted" s_counted ["tally"] (sp_counted K C_Form C_Tally)) (n_repr : mg "repr" = none) (n_list : mg "list" = none) (n_sorted : mg "sorted" = none) (C_once : Cal P w K mg base CX0 1 "_law_once" s_once ["some"] (sp_once K)) (C_told : Cal P w K mg base CX0 9 "_law_told" s_told ["tally"] (sp_told K C_Form C_Tally)) (C_sheetsCounted : Cal P w K mg base (L2.CX P w) 8 "sheets_counted" s_sheetsCounted ["tally"] (spCountS K C_Form C_Sheets C_Tally C_Refused)) (K_Sheets : CalC P w K mg base "Sheets" C_Sheets ["form", "shares"]) (n_isinstance : mg "isinstance" = none) (C_ltable : Cal P w K mg base CX0 3 "_law_table" s_ltable ["pairs"] (sp_ltable K)) (E_Form : CalE P w K mg base 1 C_Form (sp_eqForm K C_Form)) (t_Sheets : IsiC K C_Sheets) : CalG P w K mg base CX0 10 "_law_tally_right" s_ltallyRight ["form", "tally", "letters"] (sp_ltallyRight K C_Form C_Tally) := by
  refine D.okG sc_ltallyRight (fun vs H Q E h => ?_) (fun cdv f A outer s H vs Q E gd hr h => ?_)
  · exact pf_len h fun _ => rfl
  replace h := pf3 h
  obtain ⟨v, v1, v2, B, ⟨qs, ls⟩, rfl, hB, hv, hv1, hv2, ok, k⟩ := h
  refine ⟨_, (pss_cons (ps_set (i := 3) sc_ltallyRight.nd rfl (Or.inl rfl) (pe_cal C_lkinds (hr.mono (by decide)) (by rfl) pass0 (pa_cons (pe_cal C_due (hr.mono (by decide)) (by rfl) pass0 (pa_cons (pv 2) pa_nil)) pa_nil)))
    (pss_cons (ps_if (PW.pt (pw_or (pt_cmpR op_ne (pe_callB (call_show gd hr.units) (by rfl) n_repr (by decide +kernel) (pa_cons (pe_tup (pa_cons (pe_cal C_doubts (hr.mono (by decide)) (by rfl) pass0 (pa_cons (pv 1) pa_nil)) (pa_cons (pe_cal C_gone (hr.mono (by decide)) (by rfl) pass0 (pa_cons (pv 1) pa_nil)) (pa_cons (pe_cal C_counted (hr.mono (by decide)) (by rfl) pass0 (pa_cons (pv 1) pa_nil)) pa_nil)))) pa_nil)) (pe_callB (call_show gd hr.units) (by rfl) n_repr (by decide +kernel) (pa_cons (pv 3) pa_nil)) (nomark _)) (pw_or1 (pt_cmpR (op_neD hr.units) (pe_tup (pa_cons (pe_calK C_doubts (hr.mono (by decide)) (by rfl) pass0 kw_doubts (pk_cons (pv 1) pk_nil)) (pa_cons (pe_calK C_gone (hr.mono (by decide)) (by rfl) pass0 kw_gone (pk_cons (pv 1) pk_nil)) (pa_cons (pe_calK C_counted (hr.mono (by decide)) (by rfl) pass0 kw_counted (pk_cons (pv 1) pk_nil)) pa_nil)))) (pv 3) (nomark _))))) (pss_one (ps_ret pe_bl)) pss_nil)
    (pss_cons (ps_set (i := 4) sc_ltallyRight.nd rfl (Or.inl rfl) (pe_op op_catS (pe_op op_catS (pe_callTy call_list_of (by rfl) n_list (by decide +kernel) (pa_cons (pe_ix ix_tup (pv 3) pe_int (fun _ _ => rfl)) pa_nil)) (pe_callTy call_list_of (by rfl) n_list (by decide +kernel) (pa_cons (pe_ix ix_tup (pv 3) pe_int (fun _ _ => rfl)) pa_nil))) (pe_lc (own := [("pair", 5)]) (g := gName 5) (tt := tYes) rfl sc_ltallyRight.nd (pi_tup (pe_ix ix_tup (pv 3) pe_int (fun _ _ => rfl))) (blkOk_by (own := [("pair", 5)]) (N := ["form", "tally", "letters", "due", "numbers", "pair", "letter", "table"]) (sc := defScope s_ltallyRight) (by decide +kernel)) (fun _ _ _ _ _ => (pg_name (i := 5) sc_ltallyRight.nd rfl (Or.inl rfl))) (fun _ _ _ _ _ => pts_nil) (fun _ _ _ _ _ => (pe_ix (r := rIxT K) ix_tup (pv 5) pe_int (fun _ _ => rfl))))))
    (pss_cons (ps_if (pt_cmpR (op_neD hr.units) (pe_callB (cr_sortedD hr.units) (by rfl) n_sorted (by decide +kernel) (pa_cons (pv 4) pa_nil)) (pe_callB (cr_sortedD hr.units) (by rfl) n_sorted (by decide +kernel) (pa_cons (pe_cal C_once (hr.mono (by decide)) (by rfl) pass0 (pa_cons (pe_lc (own := [("letter", 6)]) (g := gName 6) (tt := tYes) rfl sc_ltallyRight.nd (pi_list (pv 2)) (blkOk_by (own := [("letter", 6)]) (N := ["form", "tally", "letters", "due", "numbers", "pair", "letter", "table"]) (sc := defScope s_ltallyRight) (by decide +kernel)) (fun _ _ _ _ _ => (pg_name (i := 6) sc_ltallyRight.nd rfl (Or.inl rfl))) (fun _ _ _ _ _ => pts_nil) (fun _ _ _ _ _ => (pe_ix (r := rIxT K) ix_tup (pv 6) pe_int (fun _ _ => rfl)))) pa_nil)) pa_nil)) (nomark _)) (pss_one (ps_ret pe_bl)) pss_nil)
    (pss_cons (ps_if (pt_cmpR (op_eqD hr.units) (pe_ix ix_tup (pv 3) pe_int (fun _ _ => rfl)) (pe_tup pa_nil) (nomark _)) (pss_one (ps_ret (pe_cmpR (op_eqD hr.units) (pe_cal C_told (hr.mono (by decide)) (by rfl) pass0 (pa_cons (pv 1) pa_nil)) pe_str (nomark _)))) pss_nil)
    (pss_cons (ps_set (i := 7) sc_ltallyRight.nd rfl (Or.inl rfl) (pe_calK C_sheetsCounted.quiet (hr.mono (by decide)) (by rfl) pass0 kw_sheetsCounted (pk_cons (pv 1) pk_nil)))
    (pss_one (ps_ret (pe_and (pe_callB call_isi (by rfl) n_isinstance (by decide +kernel) (pa_cons (pv 7) (pa_cons (pe_glob (by rfl) K_Sheets.g (show RelV (.ref C_Sheets) (.ref C_Sheets) from rfl)) pa_nil))) (pe_and (pe_cmpR op_eq (pe_callB (call_show gd hr.units) (by rfl) n_repr (by decide +kernel) (pa_cons (pe_fld (pv 7) rfl) pa_nil)) (pe_callB (call_show gd hr.units) (by rfl) n_repr (by decide +kernel) (pa_cons (pe_cal C_ltable (hr.mono (by decide)) (by rfl) pass0 (pa_cons (pe_ix ix_tup (pv 3) pe_int (fun _ _ => rfl)) pa_nil)) pa_nil)) (nomark _)) (pe_one (pe_cmpR (op_eqC E_Form (hr.mono (by decide))) (pe_fld (pv 7) rfl) (pv 0) (nomark _))))))))))))), ?_⟩
  have line := sizeLine_eq
  have ok : TrOk qs ls := ok
  have few := ok.few
  have tl : (tally ls).length ≤ 60 := Nat.le_trans (tally_len ls) few
  have cl := cn_len tl
  have pos := ok.pos
  have hv : formR K C_Form qs B v := hv
  have hv1 : tallyR K C_Form C_Tally qs ls B v1 := hv1
  have hv2 : dat K (.list (ls.map ltD)) B v2 := hv2
  have kd : ∀ {σ : L2.St} {B : Hp} {ta : TE} {E : XK}, De ta σ B (dat K (rwsD (tally ls))) → De (tCall (sp_lkinds K) [] E (tCons ta tNil)) σ B (dat K (kdD (tally ls))) := fun h => De.call (tally ls) (.one h) tl
  have du : ∀ {σ : L2.St} {B : Hp} {ta : TE} {E : XK}, De ta σ B (dat K (.list (ls.map ltD))) → De (tCall (sp_due K) [] E (tCons ta tNil)) σ B (dat K (rwsD (tally ls))) := fun h => De.call ls (.one h) ⟨few, pos⟩
  have d1 : ∀ {σ : L2.St} {B : Hp} {ta : TE} {E : XK}, De ta σ B (tallyR K C_Form C_Tally qs ls) → De (tCall (sp_doubts K C_Form C_Tally) [] E (tCons ta tNil)) σ B (dat K (.tuple ((dbL (tally ls)).map .int))) := fun h => De.call (qs, ls) (.cons h .nil) tl
  have d2 : ∀ {σ : L2.St} {B : Hp} {ta : TE} {E : XK}, De ta σ B (tallyR K C_Form C_Tally qs ls) → De (tCall (sp_gone K C_Form C_Tally) [] E (tCons ta tNil)) σ B (dat K (.tuple ((gnL (tally ls)).map .int))) := fun h => De.call (qs, ls) (.cons h .nil) tl
  have d3 : ∀ {σ : L2.St} {B : Hp} {ta : TE} {E : XK}, De ta σ B (tallyR K C_Form C_Tally qs ls) → De (tCall (sp_counted K C_Form C_Tally) [] E (tCons ta tNil)) σ B (dat K (.tuple ((cnL (tally ls)).map npD))) := fun h => De.call (qs, ls) (.cons h .nil) tl
  have g1 : ∀ {σ : L2.St} {B : Hp} {ta : TE}, De ta σ B (tallyR K C_Form C_Tally qs ls) → De (tCalK (sp_doubts K C_Form C_Tally) [0] 1 E0 (tCons ta tNil)) σ B (dat K (.tuple ((dbL (tally ls)).map .int))) := fun h => De.callK (qs, ls) (.cons h .nil) rfl (fun _ _ => kw1) tl
  have g2 : ∀ {σ : L2.St} {B : Hp} {ta : TE}, De ta σ B (tallyR K C_Form C_Tally qs ls) → De (tCalK (sp_gone K C_Form C_Tally) [0] 1 E0 (tCons ta tNil)) σ B (dat K (.tuple ((gnL (tally ls)).map .int))) := fun h => De.callK (qs, ls) (.cons h .nil) rfl (fun _ _ => kw1) tl
  have g3 : ∀ {σ : L2.St} {B : Hp} {ta : TE}, De ta σ B (tallyR K C_Form C_Tally qs ls) → De (tCalK (sp_counted K C_Form C_Tally) [0] 1 E0 (tCons ta tNil)) σ B (dat K (.tuple ((cnL (tally ls)).map npD))) := fun h => De.callK (qs, ls) (.cons h .nil) rfl (fun _ _ => kw1) tl
  refine s_set (kd (du (.var hv2 rfl))) hB fun v3 B1 H1 e1 h3 => ?_
  have hv := Mo.mo e1.bb hv
  have hv1 := Mo.mo e1.bb hv1
  have hv2 := Mo.mo e1.bb hv2
  have shw := kd_shw ok
  have kself : PyData.eqv (kdD (tally ls)) (kdD (tally ls)) = true := PySem.SeqAt.eqv_refl _ (kd_sm ok).lay
  have kshp : SeqAt.shaped (kdD (tally ls)) = true := (kd_sm ok).shaped
  change tSeq _ _ _ [some v, some v1, some v2, some v3, none, none, none, none] H1
  refine s_skip (Dt.or2 (Dt.reprs (K := K) (d := kdD (tally ls)) (De.tupD (ds := [.tuple ((dbL (tally ls)).map .int), .tuple ((gnL (tally ls)).map .int), .tuple ((cnL (tally ls)).map npD)]) (.cons (d1 (.var hv1 rfl)) (.cons (d2 (.var hv1 rfl)) (.cons (d3 (.var hv1 rfl)) .nil))) (by rw [line]; show 3 ≤ _; decide)) (.var h3 rfl) shw) (Dt.eq (Dt.test (K := K) (De.op (r := rNeD K) (De.tupD (ds := [.tuple ((dbL (tally ls)).map .int), .tuple ((gnL (tally ls)).map .int), .tuple ((cnL (tally ls)).map npD)]) (.cons (g1 (.var hv1 rfl)) (.cons (g2 (.var hv1 rfl)) (.cons (g3 (.var hv1 rfl)) .nil))) (by rw [line]; show 3 ≤ _; decide)) (.var h3 rfl) (Rv.neD (d := kdD (tally ls)) kshp kshp))) (by rw [kself]; rfl))) e1.bh fun B2 H2 e2 => ?_
  have hv := Mo.mo e2.bb hv
  have hv1 := Mo.mo e2.bb hv1
  have hv2 := Mo.mo e2.bb hv2
  have h3 := Mo.mo e2.bb h3
  have eA := e1.trans e2
  have dl : (dbL (tally ls)).length ≤ 60 := by unfold dbL; rw [List.length_map]; exact Nat.le_trans (List.length_filter_le _ _) tl
  have gl : (gnL (tally ls)).length ≤ 60 := by unfold gnL; rw [List.length_map]; exact Nat.le_trans (List.length_filter_le _ _) tl
  have ix : ∀ {te : TE} {σ : L2.St} {B : Hp}, De te σ B (dat K (kdD (tally ls))) → De (tOp (rIxT K) te (tC (.int 0))) σ B (dat K (.tuple ((dbL (tally ls)).map .int))) ∧ De (tOp (rIxT K) te (tC (.int 1))) σ B (dat K (.tuple ((gnL (tally ls)).map .int))) ∧ De (tOp (rIxT K) te (tC (.int 2))) σ B (dat K (.tuple ((cnL (tally ls)).map npD))) := fun h =>
    ⟨De.op (r := rIxT K) h .int (Rv.ixTD (ds := [.tuple ((dbL (tally ls)).map .int), .tuple ((gnL (tally ls)).map .int), .tuple ((cnL (tally ls)).map npD)]) (i := ((0 : Nat) : Int)) (atI_nat rfl)), De.op (r := rIxT K) h .int (Rv.ixTD (ds := [.tuple ((dbL (tally ls)).map .int), .tuple ((gnL (tally ls)).map .int), .tuple ((cnL (tally ls)).map npD)]) (i := ((1 : Nat) : Int)) (atI_nat rfl)), De.op (r := rIxT K) h .int (Rv.ixTD (ds := [.tuple ((dbL (tally ls)).map .int), .tuple ((gnL (tally ls)).map .int), .tuple ((cnL (tally ls)).map npD)]) (i := ((2 : Nat) : Int)) (atI_nat rfl))⟩
  refine s_set (De.eq (De.op (r := rCatS K) (De.op (r := rCatS K) (De.listT (ix (.var h3 rfl)).1) (De.listT (ix (.var h3 rfl)).2.1) (Rv.catS (by rw [List.length_map, List.length_map]; omega))) (De.lcA (K := K) (as := cnL (tally ls)) (r := fun p => dat K (npD p)) (Di.tupM (f := npD) (ix (.var h3 rfl)).2.2) (fun p => .int p.1) (by omega) fun p x Bn Hn hp sn sh hx => ⟨[some v, some v1, some v2, some v3, none, some x, none, none], fun Q q => q, rfl, De.op (r := rIxT K) (.var hx rfl) .int (Rv.ixTD (ds := [.int p.1, wdD p.2]) (i := ((0 : Nat) : Int)) (atI_nat rfl))⟩) (Rv.catS (by rw [List.length_append, List.length_map, List.length_map, List.length_map]; omega))) (e := .list ((dbL (tally ls) ++ gnL (tally ls) ++ (cnL (tally ls)).map (·.1)).map .int)) (by rw [List.map_append, List.map_append, List.map_map]; rfl)) e2.bh fun v4 B3 H3 e3 h4 => ?_
  have hv := Mo.mo e3.bb hv
  have hv1 := Mo.mo e3.bb hv1
  have hv2 := Mo.mo e3.bb hv2
  have h3 := Mo.mo e3.bb h3
  have eB := eA.trans e3
  change tSeq _ _ _ [some v, some v1, some v2, some v3, some v4, none, none, none] H3
  have srt : ∀ {te : TE} {σ : L2.St} {B : Hp} {ns : List Int}, De te σ B (dat K (.list (ns.map .int))) → De (tCB (rSortedD K) (tCons te tNil)) σ B (dat K (.list ((sortI ns).map .int))) := fun {_ _ _ ns} h =>
    De.eq (De.sorted h (alike_intsL _) (.inr fun d hd => by
      obtain ⟨a, _, rfl⟩ := List.mem_map.mp hd
      exact ⟨(fun z => nomatch z), (fun _ z => nomatch z)⟩) fun d hd => by
      obtain ⟨a, _, rfl⟩ := List.mem_map.mp hd
      simp [PyData.depth]) (by rw [sortD_ints])
  refine s_skip (Dt.eq (Dt.test (K := K) (De.op (r := rNeD K) (srt (.var h4 rfl)) (srt (ns := once (nums ls)) (De.once (enc := PyData.int) (l := nums ls) (De.eq (De.lcA (K := K) (as := ls) (r := fun x => dat K (ltD x)) (Di.listM (f := ltD) (.var hv2 rfl)) (fun x => .int x.1) (by omega) fun x y Bn Hn hx sn sh hy => ⟨[some v, some v1, some v2, some v3, some v4, none, some y, none], fun Q q => q, rfl, De.op (r := rIxT K) (.var hy rfl) .int (Rv.ixTD (ds := [.int x.1, .int x.2.1, wdD x.2.2]) (i := ((0 : Nat) : Int)) (atI_nat rfl))⟩) (by unfold nums; rw [List.map_map]; rfl)) (by unfold nums; rw [List.length_map]; exact few) eqv_int (fun a => by simp [PyData.canLay0]) fun a => by simp [PyData.depth])) (Rv.neD (shaped_nums _) (shaped_nums _)))) (by rw [eqv_nums, kinds_sorted pos]; simp)) e3.bh fun B4 H4 e4 => ?_
  have hv := Mo.mo e4.bb hv
  have hv1 := Mo.mo e4.bb hv1
  have h3 := Mo.mo e4.bb h3
  have eC := eB.trans e4
  refine s_ifS (b := decide (cnL (tally ls) = [])) (Dt.eq (Dt.test (K := K) (De.op (r := rEqD K) (ix (.var h3 rfl)).2.2 (De.tupD (ds := []) .nil (by rw [line]; show 0 ≤ _; decide)) (Rv.eqD (shaped_nps _) rfl))) (nps_nil _)) e4.bh (fun t B5 H5 e5 => ?_) fun f B5 H5 e5 => ?_
  · have z : cnL (tally ls) = [] := of_decide_eq_true t
    have tld : ∀ {σ : L2.St} {B : Hp} {ta : TE} {E : XK}, De ta σ B (tallyR K C_Form C_Tally qs ls) → De (tCall (sp_told K C_Form C_Tally) [] E (tCons ta tNil)) σ B (dat K (.str "none")) := fun h => De.call (qs, ls) (.cons h .nil) ⟨tl, z⟩
    have nn : Nmk 20 ("none" : Str) := ⟨by decide +kernel, by decide +kernel⟩
    exact s_ret (De.eq (De.op (r := rEqD K) (tld (.var (Mo.mo e5.bb hv1) rfl)) .str (Rv.eqD (shaped_str nn) (shaped_str nn))) (e := .bool true) (by simp [PyData.eqv])) e5.bh fun v B H e h => k v B H ((eC.trans e5).trans e) h
  · have ne : cnL (tally ls) ≠ [] := of_decide_eq_false f
    have hv := Mo.mo e5.bb hv
    have hv1 := Mo.mo e5.bb hv1
    have h3 := Mo.mo e5.bb h3
    have wl : ((cnL (tally ls)).map (·.2)).length ≤ 60 := by rw [List.length_map]; exact cl
    have wne : (cnL (tally ls)).map (·.2) ≠ [] := fun z => ne (List.map_eq_nil_iff.mp z)
    have wok : ∀ u ∈ (cnL (tally ls)).map (·.2), u.length ≤ 3 ∧ ∀ i ∈ u, i.natAbs ≤ 8 := fun u hu => by
      obtain ⟨p, hp, rfl⟩ := List.mem_map.mp hu
      obtain ⟨r, hr, rfl⟩ := List.mem_map.mp hp
      have m := List.mem_filter.mp hr
      have l : r.2.2.length = 1 := of_decide_eq_true ((Bool.and_eq_true _ _).mp m.2).1
      have hm : r.2.2.headD [] ∈ r.2.2 := by
        cases e : r.2.2 with
        | nil => rw [e] at l; cases l
        | cons u m => exact List.mem_cons_self
      have lo := ok.each _ ((row_mem pos m.1).2.2 _ hm)
      exact ⟨lo.wl, lo.ws⟩
    have tb : ∀ {σ : L2.St} {B : Hp} {ta : TE} {E : XK}, De ta σ B (dat K (.tuple ((cnL (tally ls)).map npD))) → De (tCall (sp_ltable K) [] E (tCons ta tNil)) σ B (dat K (.tuple ((tabL ((cnL (tally ls)).map (·.2))).map rdD))) := fun h => De.call (cnL (tally ls)) (.one h) ⟨len_pos ne, cl⟩
    dsimp only [tNext]
    change tSeq _ _ _ [some v, some v1, some v2, some v3, some v4, none, none, none] H5
    refine s_set (R := tabR K C_Form C_Sheets qs (tabL ((cnL (tally ls)).map (·.2)))) (by
      have h := De.countS (C_Sheets := C_Sheets) (C_Refused := C_Refused) (ta := tVar 1) (σ := [some v, some v1, some v2, some v3, some v4, none, none, none]) (.var hv1 rfl) tl ne
      rw [even_tab wne] at h
      exact h) e5.bh fun v7 B6 H6 e6 h7 => ?_
    have hv := Mo.mo e6.bb hv
    have h3 := Mo.mo e6.bb h3
    change tRet _ _ [some v, some v1, some v2, some v3, some v4, none, none, some v7] H6
    exact s_ret (De.eq (De.andV (a := true) (isiC K_Sheets.c t_Sheets (.var h7 rfl)) fun _ => De.andV (a := true) (b := true) (De.reprs (K := K) (fldSS (P := P) (w := w) (mg := mg) (base := base) (C_Form := C_Form) K_Sheets (.var h7 rfl)) (tb (ix (.var h3 rfl)).2.2) (tab_shw wne wl wok)) fun _ => De.eqFm ok.fo (fldFS (P := P) (w := w) (mg := mg) (base := base) K_Sheets (.var h7 rfl)) (.var hv rfl)) rfl) e6.bh fun v B H e h => k v B H (((eC.trans e5).trans e6).trans e) h
end
end K33

set_option Elab.async false
set_option linter.all false
set_option maxRecDepth 100000
set_option maxHeartbeats 1000000
/-! K33s: the next letter, and what it does. -/
namespace K33
open PySem PySem.Spec PyProof.Rows L2 Wb Wv Fm Ta Wf Fq Sb
theorem nodup_filter {n : Int} : ∀ {l : List Int}, l.Nodup → l.filter (fun m => decide (m = n)) = if n ∈ l then [n] else []
  | [], _ => rfl
  | a :: l, h => by
    have ih := nodup_filter (n := n) (List.nodup_cons.mp h).2
    have na := (List.nodup_cons.mp h).1
    rw [List.filter_cons, ih]
    by_cases e : a = n
    · subst e
      rw [if_pos (decide_eq_true rfl), if_neg na, if_pos List.mem_cons_self]
    · rw [if_neg (by simpa using e)]
      by_cases m : n ∈ l
      · rw [if_pos m, if_pos (List.mem_cons_of_mem _ m)]
      · rw [if_neg m, if_neg fun z => (List.mem_cons.mp z).elim (fun z => e z.symm) m]
theorem rows_at (ls : List Lt) (n : Int) : (tally ls).filter (fun r => decide (r.1 = n)) = if n ∈ nums ls then [(n, last ls n, sortW (once (Ta.wordsOf ls n)))] else [] := by
  have nd : (sortI (once (nums ls))).Nodup := (sortI_perm _).nodup_iff.mpr (nd_once _)
  unfold tally
  rw [List.filter_map]
  have e : (sortI (once (nums ls))).filter ((fun r : Rw => decide (r.1 = n)) ∘ fun m => (m, last ls m, sortW (once (Ta.wordsOf ls m)))) = (sortI (once (nums ls))).filter fun m => decide (m = n) := rfl
  rw [e, nodup_filter nd]
  have m : n ∈ sortI (once (nums ls)) ↔ n ∈ nums ls := by rw [mem_sortI, mem_once]
  by_cases h : n ∈ nums ls
  · rw [if_pos h, if_pos (m.mpr h)]
    rfl
  · rw [if_neg h, if_neg fun z => h (m.mp z)]
    rfl
theorem next_eq (ls : List Lt) (n : Int) : nextE (tally ls) n = if n ∈ nums ls then last ls n + 1 else 0 := by
  unfold nextE edL
  rw [rows_at]
  by_cases h : n ∈ nums ls
  · rw [if_pos h, if_pos h]
    rfl
  · rw [if_neg h, if_neg h]
    rfl
theorem next_pos {ls : List Lt} {n : Int} : 0 ≤ nextE (tally ls) n := by
  rw [next_eq]
  have := last_pos ls n
  split <;> omega
theorem max_next {ls : List Lt} (pos : Pos ls) (n : Int) : ∀ k ∈ [(-1 : Int)] ++ (ls.filter fun x => decide (x.1 = n)).map (·.2.1), (∀ y ∈ [(-1 : Int)] ++ (ls.filter fun x => decide (x.1 = n)).map (·.2.1), y ≤ k) → k = nextE (tally ls) n - 1 := by
  intro k hk hm
  rw [next_eq]
  by_cases h : n ∈ nums ls
  · obtain ⟨l0, mx⟩ := max_last pos h
    rw [if_pos h]
    rcases List.mem_append.mp hk with q | q
    · obtain ⟨w, hw⟩ := last_at pos h
      have := hm (last ls n) (List.mem_append.mpr (.inr (List.mem_map.mpr ⟨(n, last ls n, w), List.mem_filter.mpr ⟨hw, decide_eq_true rfl⟩, rfl⟩)))
      have p := last_pos ls n
      have := List.mem_singleton.mp q
      omega
    · have := mx k q fun y hy => hm y (List.mem_append.mpr (.inr hy))
      omega
  · have e : ls.filter (fun x => decide (x.1 = n)) = [] := List.filter_eq_nil_iff.mpr fun x hx z => h (List.mem_map.mpr ⟨x, hx, of_decide_eq_true z⟩)
    rw [e] at hk
    have := List.mem_singleton.mp hk
    rw [if_neg h]
    omega
section
variable {ls : List Lt} {n : Int} {u : Wd}
theorem after_last : last (ls ++ [(n, nextE (tally ls) n, u)]) n = nextE (tally ls) n := by
  rw [last_snoc, if_pos rfl]
  show max (nextE (tally ls) n) (last ls n) = _
  rw [next_eq]
  by_cases h : n ∈ nums ls
  · rw [if_pos h]; omega
  · rw [if_neg h, last_none h]; rfl
theorem after_words : Ta.wordsOf (ls ++ [(n, nextE (tally ls) n, u)]) n = [u] := by
  unfold Ta.wordsOf
  rw [after_last, List.filter_append]
  have e : ls.filter (fun x => decide (x.1 = n ∧ x.2.1 = nextE (tally ls) n)) = [] := List.filter_eq_nil_iff.mpr fun x hx z => by
    obtain ⟨z1, z2⟩ := of_decide_eq_true z
    have m : n ∈ nums ls := List.mem_map.mpr ⟨x, hx, z1⟩
    rw [next_eq, if_pos m] at z2
    have := last_ge hx
    rw [z1] at this
    omega
  rw [e, List.nil_append, List.filter_cons, if_pos (decide_eq_true ⟨rfl, rfl⟩)]
  rfl
theorem after_row : (tally (ls ++ [(n, nextE (tally ls) n, u)])).filter (fun r => decide (r.1 = n)) = [(n, nextE (tally ls) n, [u])] := by
  rw [rows_at, if_pos (by rw [nums_snoc]; exact List.mem_append.mpr (.inr List.mem_cons_self)), after_last, after_words]
  have e1 : once [u] = [u] := rfl
  rw [e1]
  unfold sortW
  rw [List.mergeSort_singleton]
theorem after_at {r : Rw} (hr : r ∈ tally (ls ++ [(n, nextE (tally ls) n, u)])) (e : r.1 = n) : r = (n, nextE (tally ls) n, [u]) := by
  have m : r ∈ (tally (ls ++ [(n, nextE (tally ls) n, u)])).filter (fun r => decide (r.1 = n)) := List.mem_filter.mpr ⟨hr, decide_eq_true e⟩
  rw [after_row] at m
  exact List.mem_singleton.mp m
theorem after_in : ((n, nextE (tally ls) n, [u]) : Rw) ∈ tally (ls ++ [(n, nextE (tally ls) n, u)]) := by
  have m : ((n, nextE (tally ls) n, [u]) : Rw) ∈ (tally (ls ++ [(n, nextE (tally ls) n, u)])).filter (fun r => decide (r.1 = n)) := by rw [after_row]; exact List.mem_singleton.mpr rfl
  exact (List.mem_filter.mp m).1
theorem after_db : n ∉ dbL (tally (ls ++ [(n, nextE (tally ls) n, u)])) := fun h => by
  obtain ⟨r, hr, e⟩ := List.mem_map.mp h
  obtain ⟨hr, q⟩ := List.mem_filter.mp hr
  have q := of_decide_eq_true q
  rw [after_at hr e] at q
  exact absurd q (by show ¬ 1 < [u].length; simp)
theorem after_gn : n ∈ gnL (tally (ls ++ [(n, nextE (tally ls) n, u)])) ↔ u = [] := ⟨fun h => by
  obtain ⟨r, hr, e⟩ := List.mem_map.mp h
  obtain ⟨hr, q⟩ := List.mem_filter.mp hr
  have q := of_decide_eq_true q
  rw [after_at hr e] at q
  have q : [u] = [[]] := q
  exact (List.cons.inj q).1, fun h => List.mem_map.mpr ⟨_, List.mem_filter.mpr ⟨after_in, decide_eq_true (by rw [h])⟩, rfl⟩⟩
theorem after_cn : (cnL (tally (ls ++ [(n, nextE (tally ls) n, u)]))).filter (fun p => decide (p.1 = n)) = if u = [] then [] else [(n, u)] := by
  unfold cnL
  rw [List.filter_map, List.filter_filter]
  have e : (tally (ls ++ [(n, nextE (tally ls) n, u)])).filter (fun r => ((fun p : Int × Wd => decide (p.1 = n)) ∘ fun r : Rw => (r.1, r.2.2.headD [])) r && (decide (r.2.2.length = 1) && decide (r.2.2.headD [] ≠ []))) = ((tally (ls ++ [(n, nextE (tally ls) n, u)])).filter (fun r => decide (r.1 = n))).filter fun r => decide (r.2.2.length = 1) && decide (r.2.2.headD [] ≠ []) := by
    rw [List.filter_filter]
    exact List.filter_congr fun r _ => Bool.and_comm _ _
  rw [e, after_row]
  by_cases h : u = []
  · subst h
    rw [if_pos rfl]
    rfl
  · rw [if_neg h, List.filter_cons, if_pos (by simp [h])]
    rfl
end
end K33

set_option Elab.async false
set_option linter.all false
set_option maxRecDepth 100000
set_option maxHeartbeats 4000000
/-! Wy3: a drawn comprehension whose list stays hidden. -/
namespace Wv
open PySem PySem.Spec PyProof.Rows L2 Wb
section
variable {α : Type} {R R1 R2 : α → Rel} {pre : α → Prop} {res : α → Rel} {vs : List V} {H : Hp} {Q : VK} {E : XK}
variable {K : PySem.W.Frag} {σ : L2.St} {B H : Hp} {te : TE} {tt : TT} {d c : Addr} {Q : VK}
theorem c_lcM {α : Type} {as : List α} {r : α → Rel} {wi : TI} {g : TG} {vs : List Nat} (L : Dl B H d c) (hi : Di wi σ B (as.map r)) (few : as.length < sizeLine) (Pv : Nat → List PyData → Prop) (h0 : Pv 0 [])
    (hs : ∀ i a v B1 H1 out, as[i]? = some a → Dl B1 H1 d c → Same B B1 → r a B1 v → Pv i out → ∀ (Y : V → Hp → Prop) (N : Hp → Prop), (∀ y B4 H4 x, ExtD d c B1 H1 B4 H4 → dat K x B4 y → Pv (i + 1) (out ++ [x]) → Y y H4) →
      (∀ B4 H4, ExtD d c B1 H1 B4 H4 → Pv (i + 1) out → N H4) → g v (wipe σ vs) H1 fun σ2 H2 => wipe σ2 vs = wipe σ vs ∧ tt σ2 H2 fun b H3 => if b = true then te σ2 H3 Y else N H3)
    (hd : ∀ out D xs B' H', ExtD d c B H B' H' → H D = none → Ml d c B' H' D xs → AllR (out.map (dat K)) B' xs → Pv as.length out → Q (.ref D) H') : tLc wi g tt te vs σ H Q := hi B H (Same.refl _) L.bh _ fun J B2 H2 e hw => fun D hD => by
  have eD := ExtD.of L e
  have hw' : Walk J as.length (fun H => Same B2 H) (fun i H x H' => ∃ R, (as.map r)[i]? = some R ∧ ∀ Bc, Same B2 Bc → Same Bc H → ∃ Bn, Ext Bc H Bn H' ∧ R Bn x) := by
    have := hw
    unfold Wk at this
    rw [List.length_map] at this
    exact this
  refine lc_it hw' (fun i H' => ∃ B' xs out, ExtD d c B2 H2 B' H' ∧ Ml d c B' H' D xs ∧ AllR (out.map (dat K)) B' xs ∧ Pv i out ∧ out.length ≤ i) ?_ (fun i H' _ ⟨B', xs, out, e', _⟩ => e'.bb.trans e'.bh) ?_ ?_
  · exact ⟨B2, [], [], (Ml.new eD.dl hD).2, (Ml.new eD.dl hD).1, rfl, h0, Nat.le_refl _⟩
  · rintro i x H' H'' hi' ⟨Bc, xs, out, e', m, hxs, pv, lo⟩ ⟨R, hR, y⟩
    obtain ⟨Bn, e2, hx⟩ := y Bc e'.bb e'.bh
    rw [List.getElem?_map] at hR
    obtain ⟨a, ha, rfl⟩ := Option.map_eq_some_iff.mp hR
    have e2 := ExtD.of e'.dl e2
    have e12 := e'.trans eD.dl e2
    have len := allR_len hxs
    rw [List.length_map] at len
    refine hs i a x Bn H'' out ha e2.dl ((eD.bb.trans e'.bb).trans e2.bb) hx pv _ _ (fun y B4 H4 z e4 hz pz => ?_) fun B4 H4 e4 pz => ?_
    · have e14 := e12.trans eD.dl e4
      have m4 := (m.ext e2).ext e4
      refine ⟨xs, m4.at_, by omega, B4, xs ++ [y], out ++ [z], e14.setL m4 hD, (Ml.set e4.dl m4).1, ?_, pz, by simp; omega⟩
      rw [List.map_append]
      exact allR_snoc (MoA.mo (e2.bb.trans e4.bb) hxs) hz
    · exact ⟨B4, xs, out, e12.trans eD.dl e4, (m.ext e2).ext e4, MoA.mo (e2.bb.trans e4.bb) hxs, pz, by omega⟩
  · rintro H' ⟨B', xs, out, e', m, hxs, pv, lo⟩
    have hBD : H D = none := by
      cases h : H D with
      | none => rfl
      | some o =>
        rw [e.hh D o h] at hD
        cases hD
    exact hd out D xs B' H' (eD.trans L e') hBD m hxs pv
end
end Wv

set_option Elab.async false
set_option linter.all false
set_option maxRecDepth 100000
set_option maxHeartbeats 4000000
/-! We8: ints or bools added, taken away, doubled; two rules at once; drawn slices. -/
namespace Wv
open PySem PySem.Spec PyProof.Rows L2 Wb
theorem opOr {X : Cx} {f : Value → Value → Sem Value} {r1 r2 : R2} (h1 : OpR X f r1) (h2 : OpR X f r2) : OpR X f (fun x y H Q => r1 x y H Q ∨ r2 x y H Q) := by
  intro pins s σ H x y v u Q I rx ry h
  rcases h with h | h
  · exact h1 pins s σ H x y v u Q I rx ry h
  · exact h2 pins s σ H x y v u Q I rx ry h
def numV (x : V) (i : Int) : Prop := x = .int i ∨ ∃ b : Bool, x = .bl b ∧ i = if b = true then 1 else 0
abbrev rAddBI : R2 := fun x y H Q => ∃ i j, numV x i ∧ y = .int j ∧ Q (.int (i + j)) H
abbrev rSubBI : R2 := fun x y H Q => ∃ i j, numV x i ∧ y = .int j ∧ Q (.int (i - j)) H
abbrev rSubIB : R2 := fun x y H Q => ∃ i j, x = .int i ∧ numV y j ∧ Q (.int (i - j)) H
abbrev rMulIB : R2 := fun x y H Q => ∃ i j, x = .int i ∧ numV y j ∧ CMul i j ∧ Q (.int (i * j)) H
section
variable {X : Cx}
theorem op_addBI : OpR X (binaryOp .Add) rAddBI := by
  intro pins s σ H x y v u Q I rx ry h
  obtain ⟨i, j, rfl | ⟨b, rfl, rfl⟩, rfl, q⟩ := h
  · exact op_add pins s σ H _ _ v u Q I rx ry ⟨i, j, rfl, rfl, q⟩
  · obtain ⟨t, rfl⟩ := ry
    cases (show v = Value.bool b from rx)
    exact IntBool.add_bool_int ⟨.int _, H, I.tok _, ⟨_, rfl⟩, q⟩
theorem op_subBI : OpR X (binaryOp .Sub) rSubBI := by
  intro pins s σ H x y v u Q I rx ry h
  obtain ⟨i, j, rfl | ⟨b, rfl, rfl⟩, rfl, q⟩ := h
  · exact op_sub pins s σ H _ _ v u Q I rx ry ⟨i, j, rfl, rfl, q⟩
  · obtain ⟨t, rfl⟩ := ry
    cases (show v = Value.bool b from rx)
    exact IntBool.sub_bool_int ⟨.int _, H, I.tok _, ⟨_, rfl⟩, q⟩
theorem op_subIB : OpR X (binaryOp .Sub) rSubIB := by
  intro pins s σ H x y v u Q I rx ry h
  obtain ⟨i, j, rfl, rfl | ⟨b, rfl, rfl⟩, q⟩ := h
  · exact op_sub pins s σ H _ _ v u Q I rx ry ⟨i, j, rfl, rfl, q⟩
  · obtain ⟨t, rfl⟩ := rx
    cases (show u = Value.bool b from ry)
    exact IntBool.sub_int_bool ⟨.int _, H, I.tok _, ⟨_, rfl⟩, q⟩
theorem op_mulIB : OpR X (binaryOp .Mult) rMulIB := by
  intro pins s σ H x y v u Q I rx ry h
  obtain ⟨i, j, rfl, rfl | ⟨b, rfl, rfl⟩, hc, q⟩ := h
  · exact op_mul pins s σ H _ _ v u Q I rx ry ⟨i, j, rfl, rfl, hc, q⟩
  · obtain ⟨t, rfl⟩ := rx
    cases (show u = Value.bool b from ry)
    exact IntBool.mul_int_bool ⟨.int _, H, I.tok _, ⟨_, rfl⟩, q⟩
end
def numOf (d : PyData) : Int := match d with
  | .int i => i
  | .bool b => if b = true then 1 else 0
  | _ => 0
section
variable {K : PySem.W.Frag} {σ : L2.St} {d c : Addr} {B H : Hp} {te ta tb tl : TE} {tt : TT} {S : Rel} {x : PyData} {j : Int}
theorem num_dat {v : V} (h : isD "int" x = true) (hv : dat K x B v) : numV v (numOf x) := by
  cases x with
  | int i => cases hv; exact .inl rfl
  | bool b => cases hv; exact .inr ⟨b, rfl, rfl⟩
  | _ => cases h
theorem Rv.addBI (h : isD "int" x = true) : Rv rAddBI B (dat K x) (dat K (.int j)) (dat K (.int (numOf x + j))) := fun u v B1 H _ s2 hx hy Q q =>
  ⟨_, j, num_dat h hx, dat_int hy, q _ B1 H (.refl s2) (.int _)⟩
theorem Rv.subBI (h : isD "int" x = true) : Rv rSubBI B (dat K x) (dat K (.int j)) (dat K (.int (numOf x - j))) := fun u v B1 H _ s2 hx hy Q q =>
  ⟨_, j, num_dat h hx, dat_int hy, q _ B1 H (.refl s2) (.int _)⟩
theorem Rv.subIB (h : isD "int" x = true) : Rv rSubIB B (dat K (.int j)) (dat K x) (dat K (.int (j - numOf x))) := fun u v B1 H _ s2 hx hy Q q =>
  ⟨j, _, dat_int hx, num_dat h hy, q _ B1 H (.refl s2) (.int _)⟩
theorem Rv.mulIB (h : isD "int" x = true) (hc : CMul j (numOf x)) : Rv rMulIB B (dat K (.int j)) (dat K x) (dat K (.int (j * numOf x))) := fun u v B1 H _ s2 hx hy Q q =>
  ⟨j, _, dat_int hx, num_dat h hy, hc, q _ B1 H (.refl s2) (.int _)⟩
theorem Dw.iteB {b : Bool} (h : Dt tt σ B b) (h1 : b = true → Dw ta σ d c B S) (h2 : b = false → Dw tb σ d c B S) : Dw (tIf tt ta tb) σ d c B S := fun B1 H s L Q q =>
  h B1 H s L.bh _ fun B2 H2 e => by
    have eL := ExtD.of L e
    cases b with
    | true => exact (h1 rfl) B2 H2 (s.trans e.bb) eL.dl Q fun v B3 H3 e3 hv => q v B3 H3 (eL.trans L e3) hv
    | false => exact (h2 rfl) B2 H2 (s.trans e.bb) eL.dl Q fun v B3 H3 e3 hv => q v B3 H3 (eL.trans L e3) hv
theorem slL_raw {ds : List PyData} {lo hi : Option Int} {v : V} {B1 H : Hp} (s2 : Same B1 H) (hx : dat K (.list ds) B1 v) {Q : VK} (q : ∀ u B' H', Ext B1 H B' H' → dat K (.list (cutA ds lo hi)) B' u → Q u H') : rSlL K v lo hi H Q := by
  obtain ⟨a, xs, rfl, hs, hR⟩ := dat_lstR hx
  refine ⟨a, xs, rfl, s2.seq hs, fun p hp => q _ (upd B1 p (.lst (cutV xs lo hi))) _ (.new s2 hp) ?_⟩
  have g := allR_dp hR
  have len : xs.length = ds.length := dpAll_len g
  refine .lst (SqL.of upd_same) (dpMonoAll (new_same (s2.free hp)) _ _ ?_)
  unfold cutV cutA
  rw [len]
  exact dpAll_take _ (dpAll_drop _ g)
/-- [.. ][:n], n drawn -/
theorem Dw.slTo {P : List PyData → Prop} {N : Int → Prop} (h : Dw te σ d c B (datP K (listOf P))) (hb : Dw tb σ d c B (intP N)) : Dw (L2.tSl (rSlL K) te tNoPart (tPart tb)) σ d c B (datP K (listOf fun ds => ∃ es n, P es ∧ N n ∧ ds = cutA es none (some n))) := fun B1 H s L Q q =>
  h B1 H s L _ fun v B2 H2 e ⟨x, ⟨ds, hx, hp⟩, hv⟩ => by
    subst hx
    refine hb B2 H2 (s.trans e.bb) e.dl _ fun u B3 H3 e3 ⟨n, hn, hu⟩ => ⟨n, hu, ?_⟩
    exact slL_raw e3.bh (Mo.mo (R := dat K (.list ds)) e3.bb hv) fun w B4 H4 e4 h4 => q w B4 H4 ((e.trans L e3).trans L (.of e3.dl e4)) ⟨_, ⟨_, rfl, ds, n, hp, hn, rfl⟩, h4⟩
theorem Dw.lcD {α : Type} {as : List α} {r : α → Rel} {wi : TI} {g : TG} {vs : List Nat} (hi : Di wi σ B (as.map r)) (few : as.length < sizeLine) (Pv : Nat → List PyData → Prop) (h0 : Pv 0 [])
    (hs : ∀ i a v B1 H1 out, as[i]? = some a → Dl B1 H1 d c → Same B B1 → r a B1 v → Pv i out → ∀ (Y : V → Hp → Prop) (N : Hp → Prop), (∀ y B4 H4 x, ExtD d c B1 H1 B4 H4 → dat K x B4 y → Pv (i + 1) (out ++ [x]) → Y y H4) → (∀ B4 H4, ExtD d c B1 H1 B4 H4 → Pv (i + 1) out → N H4) →
      g v (wipe σ vs) H1 fun σ2 H2 => wipe σ2 vs = wipe σ vs ∧ tt σ2 H2 fun b H3 => if b = true then te σ2 H3 Y else N H3) : Dw (tLc wi g tt te vs) σ d c B (datP K (listOf (Pv as.length))) := fun B1 H s L Q q =>
  c_lcD L (hi.mono s) few Pv h0 (fun i a v B2 H2 out ha L2 s2 hv hp Y N hY hN => hs i a v B2 H2 out ha L2 (s.trans s2) hv hp Y N hY hN) fun out v B' H' e hp hv => q v B' H' e ⟨_, ⟨out, rfl, hp⟩, hv⟩
/-- [x], (x,), x drawn -/
theorem Dw.tup1L {P : PyData → Prop} (h : Dw te σ d c B (datP K P)) : Dw (tLst (tCons te tNil)) σ d c B (datP K (listOf fun ds => ∃ x, P x ∧ ds = [x])) := fun B1 H s L Q q =>
  h B1 H s L _ fun v B2 H2 e ⟨x, hp, hv⟩ => ⟨by show 1 ≤ sizeLine; decide, fun p hp2 => q _ (upd B2 p (.lst [v])) _ (e.trans L (.of e.dl (.new e.bh hp2))) ⟨_, ⟨[x], rfl, x, hp, rfl⟩, .lst (SqL.of upd_same) (.cons (dpMono (new_same (e.bh.free hp2)) _ _ hv) .nil)⟩⟩
theorem Dw.tup1 {P : PyData → Prop} (h : Dw te σ d c B (datP K P)) : Dw (tTup (tCons te tNil)) σ d c B (datP K (tupOf fun ds => ∃ x, P x ∧ ds = [x])) := fun B1 H s L Q q =>
  h B1 H s L _ fun v B2 H2 e ⟨x, hp, hv⟩ => ⟨by show 1 ≤ sizeLine; decide, fun p hp2 => q _ (upd B2 p (.tup [v])) _ (e.trans L (.of e.dl (.new e.bh hp2))) ⟨_, ⟨[x], rfl, x, hp, rfl⟩, .tup (SqT.of upd_same) (.cons (dpMono (new_same (e.bh.free hp2)) _ _ hv) .nil)⟩⟩
theorem Rv.catTP {P P' : List PyData → Prop} (hz : ∀ a b, P a → P' b → a.length + b.length ≤ sizeLine) : Rv (rCatA K) B (datP K (tupOf P)) (datP K (tupOf P')) (datP K (tupOf fun ds => ∃ a b, P a ∧ P' b ∧ ds = a ++ b)) := fun u v B1 H s1 s2 ⟨x, ⟨a, hx, ha⟩, hu⟩ ⟨y, ⟨b, hy, hb⟩, hv⟩ Q q => by
  subst hx hy
  exact Rv.catT (K := K) (hz a b ha hb) u v B1 H s1 s2 hu hv Q fun w B' H' e hw => q w B' H' e ⟨_, ⟨_, rfl, a, b, ha, hb, rfl⟩, hw⟩
theorem Rv.catLP {P P' : List PyData → Prop} (hz : ∀ a b, P a → P' b → a.length + b.length ≤ sizeLine) : Rv (rCatS K) B (datP K (listOf P)) (datP K (listOf P')) (datP K (listOf fun ds => ∃ a b, P a ∧ P' b ∧ ds = a ++ b)) := fun u v B1 H s1 s2 ⟨x, ⟨a, hx, ha⟩, hu⟩ ⟨y, ⟨b, hy, hb⟩, hv⟩ Q q => by
  subst hx hy
  exact Rv.catS (K := K) (hz a b ha hb) u v B1 H s1 s2 hu hv Q fun w B' H' e hw => q w B' H' e ⟨_, ⟨_, rfl, a, b, ha, hb, rfl⟩, hw⟩
end
end Wv

set_option Elab.async false
set_option linter.all false
set_option maxRecDepth 100000
set_option maxHeartbeats 4000000
/-! Wu0: tables of the top (texts to tuples of texts), ranges as values, displays of texts by texts. -/
namespace Wv
open PySem PySem.Spec PyProof.Rows L2 Wb
/-! ### a table of the top -/
structure TabT (K : PySem.W.Frag) (w : World) (a : Addr) (rows : List (Str × List Str)) : Prop where
  kd : ∃ es n, KDict K w a es n
  hit : ∀ p ∈ rows, ∃ b, PySem.W.nsIn K a p.1 = some (some (.ref b)) ∧ ∀ H, SqT K H b (p.2.map V.str)
  miss : ∀ z, z ∉ rows.map (·.1) → PySem.W.nsIn K a z = some none
inductive HitL (K : PySem.W.Frag) (a : Addr) : List (Str × List Str) → Prop where
  | nil : HitL K a []
  | cons {z : Str} {ws : List Str} {b : Addr} {r : List (Str × List Str)} : PySem.W.nsIn K a z = some (some (.ref b)) → (∀ H, SqT K H b (ws.map V.str)) → HitL K a r → HitL K a ((z, ws) :: r)
theorem HitL.all {K : PySem.W.Frag} {a : Addr} {rows : List (Str × List Str)} (h : HitL K a rows) : ∀ p ∈ rows, ∃ b, PySem.W.nsIn K a p.1 = some (some (.ref b)) ∧ ∀ H, SqT K H b (p.2.map V.str) := by
  induction h with
  | nil => exact fun p h => nomatch h
  | cons h1 h2 _ ih =>
    intro p hp
    rcases List.mem_cons.mp hp with rfl | hp
    · exact ⟨_, h1, h2⟩
    · exact ih p hp
theorem find_none {P : Params} : ∀ {l : List DictEntry} {ks : List Str}, l.map He.keyOf = He.keysIn P ks → ∀ {z : Str}, z ∉ ks → l.find? (·.key.isStr z) = none ∧ l.any (·.refKey) = false
  | [], _, _, _, _ => ⟨rfl, rfl⟩
  | e :: r, [], h, _, _ => by cases h
  | e :: r, k :: ks, h, z, hz => by
    have h1 : He.keyOf e :: r.map He.keyOf = some (k, PyData.keyHash P k) :: He.keysIn P ks := h
    injection h1 with h2 h3
    obtain ⟨i1, i2⟩ := find_none h3 (z := z) fun m => hz (List.mem_cons_of_mem _ m)
    unfold He.keyOf at h2
    split at h2
    · rename_i x t q
      have h4 := Option.some.inj h2
      obtain ⟨h5, h6⟩ := Prod.mk.inj h4
      subst h5
      have ne : ¬ z = x := fun e => hz (by rw [e]; exact List.mem_cons_self)
      have ne2 : ¬ x = z := fun e => ne e.symm
      refine ⟨?_, ?_⟩
      · rw [List.find?_cons]
        have : e.key.isStr z = false := by
          rw [q, PySem.W.isStr_of]
          show (x == z) = false
          exact beq_eq_false_iff_ne.mpr ne2
        rw [this]
        exact i1
      · rw [List.any_cons, i2]
        show (e.refKey || false) = false
        unfold DictEntry.refKey
        rw [q]
        rfl
    · cases h2
theorem tab_of {K : PySem.W.Frag} {w : World} {a : Addr} {rows : List (Str × List Str)} (h : He.dicW K a = some (He.keysIn w.params (rows.map (·.1)))) (hh : HitL K a rows) : TabT K w a rows := by
  obtain ⟨es, n, D⟩ := He.dicW_ok h
  refine ⟨⟨es, n, D⟩, hh.all, fun z hz => ?_⟩
  have e := D.at_
  unfold He.dicW at h
  rw [e] at h
  dsimp only at h
  split at h
  · have h := Option.some.inj h
    obtain ⟨i1, i2⟩ := find_none h hz
    unfold PySem.W.nsIn
    rw [e]
    dsimp only
    rw [i1, i2]
    rfl
  · cases h
def rInTab (K : PySem.W.Frag) (w : World) (neg : Bool) : R2 := fun x y H Q => ∃ a rows z, x = .str z ∧ y = .ref a ∧ TabT K w a rows ∧ Q (.bl (if neg = true then !decide (z ∈ rows.map (·.1)) else decide (z ∈ rows.map (·.1)))) H
theorem TabT.at_ {K : PySem.W.Frag} {w : World} {a : Addr} {rows : List (Str × List Str)} (T : TabT K w a rows) (z : Str) : ∃ r : Option Value, PySem.W.nsIn K a z = some r ∧ r.isSome = decide (z ∈ rows.map (·.1)) := by
  by_cases h : z ∈ rows.map (·.1)
  · obtain ⟨p, hp, rfl⟩ := List.mem_map.mp h
    obtain ⟨b, hb, _⟩ := T.hit p hp
    exact ⟨_, hb, (decide_eq_true h).symm⟩
  · exact ⟨_, T.miss z h, (decide_eq_false h).symm⟩
section
variable {X : Cx}
theorem op_inTab : OpR X (compareOp .In) (rInTab X.K X.w false) := by
  intro pins s σ H x y v u Q I rx ry h
  obtain ⟨a, rows, z, ex, ey, T, q⟩ := h
  obtain ⟨es, n, D⟩ := T.kd
  obtain ⟨r, e, i⟩ := T.at_ z
  exact op_in_kd D pins s σ H x y v u Q I rx ry ⟨z, r, ex, ey, e, by rw [i]; exact q⟩
theorem op_notInTab : OpR X (compareOp .NotIn) (rInTab X.K X.w true) := by
  intro pins s σ H x y v u Q I rx ry h
  obtain ⟨a, rows, z, ex, ey, T, q⟩ := h
  obtain ⟨es, n, D⟩ := T.kd
  obtain ⟨r, e, i⟩ := T.at_ z
  exact op_notIn_kd D pins s σ H x y v u Q I rx ry ⟨z, r, ex, ey, e, by rw [i]; exact q⟩
/-! ### ranges -/
theorem cr_range1 : CallR X (.type "range") (fun vs H Q => ∃ j, vs = [V.int j] ∧ ∀ p, H p = none → Q (.ref p) (upd H p (.rng 0 j))) := by
  intro pins s σ H vs us Q I r h
  obtain ⟨j, rfl, q⟩ := h
  cases r with
  | cons r1 r =>
    cases r
    obtain ⟨u, rfl⟩ := r1
    refine call_range_1 ⟨.ref s.heap.objs.size, upd H s.heap.objs.size (.rng 0 j), I.laid (t' := s.toks + 1 + 1) (fun b o e => Heap.get?_push_of_some _ e) (Nat.le_refl _) ?_, rfl, q _ (I.hok.fresh (Nat.le_refl _))⟩
    exact ⟨s.toks, u, s.toks + 1, Heap.get?_push_size _ rfl⟩
def rInRng : R2 := fun x y H Q => ∃ i a lo hi, x = V.int i ∧ y = V.ref a ∧ H a = some (.rng lo hi) ∧ Q (.bl (decide (lo ≤ i ∧ i < hi))) H
theorem op_inRng : OpR X (compareOp .In) rInRng := op_in_rng
end
theorem strs_dp {K : PySem.W.Frag} {H : Hp} : ∀ zs : List Str, DpAll K H (zs.map V.str) (zs.map PyData.str)
  | [] => .nil
  | z :: zs => .cons (.str z) (strs_dp zs)
def refR (a : Addr) : Rel := fun _ v => v = .ref a
instance {a : Addr} : Mo (refR a) := ⟨fun _ h => h⟩
def rngR (lo hi : Int) : Rel := fun B v => ∃ a, v = .ref a ∧ B a = some (.rng lo hi)
instance {lo hi : Int} : Mo (rngR lo hi) := ⟨fun s ⟨a, e, h⟩ => ⟨a, e, s _ _ h⟩⟩
def rRng1 : List V → Hp → VK → Prop := fun vs H Q => ∃ j, vs = [V.int j] ∧ ∀ p, H p = none → Q (.ref p) (upd H p (.rng 0 j))
theorem cr_rng1 {X : Cx} : CallR X (.type "range") rRng1 := cr_range1
/-! ### displays -/
def dkR (kvs : List (Key × V)) : Rel := fun B v => ∃ a, v = .ref a ∧ B a = some (.dK kvs)
instance {kvs : List (Key × V)} : Mo (dkR kvs) := ⟨fun s ⟨a, e, h⟩ => ⟨a, e, s _ _ h⟩⟩
section
variable {K : PySem.W.Frag} {w : World} {σ : L2.St} {B : Hp} {ta tb tc : TE} {R S T : Rel}
theorem Rv.inTab {a : Addr} {rows : List (Str × List Str)} {z : Str} (T : TabT K w a rows) : Rv (rInTab K w false) B (dat K (.str z)) (refR a) (dat K (.bool (decide (z ∈ rows.map (·.1))))) := fun x y B1 H _ s2 hx hy Q q => by
  have hx := dat_str hx
  exact ⟨a, rows, z, hx, hy, T, q _ B1 H (.refl s2) (.bl _)⟩
theorem Rv.notInTab {a : Addr} {rows : List (Str × List Str)} {z : Str} (T : TabT K w a rows) : Rv (rInTab K w true) B (dat K (.str z)) (refR a) (dat K (.bool (!decide (z ∈ rows.map (·.1))))) := fun x y B1 H _ s2 hx hy Q q => by
  have hx := dat_str hx
  exact ⟨a, rows, z, hx, hy, T, q _ B1 H (.refl s2) (.bl _)⟩
theorem Rv.ixTab {a : Addr} {rows : List (Str × List Str)} {z : Str} {ws : List Str} (T : TabT K w a rows) (h : (z, ws) ∈ rows) : Rv (rIxD K w) B (refR a) (dat K (.str z)) (dat K (.tuple (ws.map .str))) := fun x y B1 H _ s2 hx hy Q q => by
  have hy := dat_str hy
  obtain ⟨es, n, D⟩ := T.kd
  obtain ⟨b, hb, hs⟩ := T.hit _ h
  refine ⟨a, z, .ref b, hx, hy, ⟨es, n, _, D.at_, D.lit, hb, rfl⟩, q _ B1 H (.refl s2) (.tup (hs B1) (strs_dp ws))⟩
theorem De.tab {a : Addr} : De (tC (.ref a)) σ B (refR a) := .cst fun _ => rfl
theorem Rv.inRng {i lo hi : Int} : Rv rInRng B (dat K (.int i)) (rngR lo hi) (dat K (.bool (decide (lo ≤ i ∧ i < hi)))) := fun x y B1 H s1 s2 hx hy Q q => by
  have hx := dat_int hx
  obtain ⟨a, rfl, ha⟩ := hy
  exact ⟨i, a, lo, hi, hx, rfl, s2 _ _ ha, q _ B1 H (.refl s2) (.bl _)⟩
/-- range(n), as a value -/
theorem Rc.rng1 {j : Int} : Rc rRng1 B [dat K (.int j)] (rngR 0 j) := fun vs B1 H s1 s2 hv Q q => by
  obtain ⟨v, r, rfl, h, hr⟩ := hv
  have hr : r = [] := hr
  subst hr
  have h := dat_int h
  subst h
  refine ⟨j, rfl, fun p hp => ?_⟩
  exact q _ _ _ (Ext.new s2 hp) ⟨p, rfl, upd_same⟩
/-- a display of texts by texts -/
def rowsV (rows : List (Str × Str)) : List (Key × V) := rows.map fun p => (.inr p.1, .str p.2)
theorem pairs_str {H : Hp} {Q : List (V × V) → Hp → Prop} : ∀ rows : List (Str × Str), Q (rows.map fun p => (V.str p.1, V.str p.2)) H → tPairs (rows.map fun p => (tC (.str p.1), tC (.str p.2))) σ H Q
  | [], q => q
  | p :: r, q => by
    show tPairs (r.map _) σ H _
    exact pairs_str r q
theorem De.dispS (rows : List (Str × Str)) (few : rows.length ≤ 15) : De (tDisp (rows.map fun p => (tC (.str p.1), tC (.str p.2)))) σ B (dkR (mergeK [] (rowsV rows))) := fun B1 H s1 s2 Q q => by
  intro p hp
  refine pairs_str rows ⟨upd_same, rowsV rows, ?_, by unfold rowsV; rw [List.length_map]; exact few, ?_⟩
  · unfold rowsV
    rw [List.map_map]
    rfl
  · rw [upd_upd]
    exact q _ _ _ (Ext.new s2 hp) ⟨p, rfl, upd_same⟩
/-- d.get(k, x) -/
theorem De.getS {kvs : List (Key × V)} {z y x : Str} (hd : De ta σ B (dkR kvs)) (hk : De tb σ B (dat K (.str z))) (hx : De tc σ B (dat K (.str x))) (h : (valV kvs (.inr z)).getD (.str x) = .str y) : De (tDGet2 ta tb tc) σ B (dat K (.str y)) := fun B1 H s1 s2 Q q =>
  hd B1 H s1 s2 _ fun v B2 H2 e hv => by
    obtain ⟨a, rfl, ha⟩ := hv
    refine ⟨a, rfl, .inl ⟨kvs, .inl (e.bh _ _ ha)⟩, ?_⟩
    exact hk B2 H2 (s1.trans e.bb) e.bh _ fun u B3 H3 e3 hu => hx B3 H3 ((s1.trans e.bb).trans e3.bb) e3.bh _ fun u2 B4 H4 e4 hu2 => by
      have hu := dat_str hu
      have hu2 := dat_str hu2
      subst hu
      subst hu2
      refine ⟨_, DGet.k (k := .inr z) (e4.bh _ _ (e4.bb _ _ (e3.bb _ _ ha))), ?_⟩
      rw [h]
      exact q _ B4 H4 ((e.trans e3).trans e4) (.str _)
end
/-! ### f(k = v, ..) where what is raised is caught -/
section
variable {X : Cx} {CX : CXT} {k : Nat} {ps ks : List Str} {sp : Sp} {x : Str} {p pos : Pos} {st : Stmt} {kws : List Keyword} {tk : TA} {ix : List Nat}
def tCalKS (sp : Sp) (ix : List Nat) (n : Nat) (E : L2.St → XK) (tk : TA) : TE := fun σ H Q => tk σ H fun zs H2 => zs.length = n ∧ sp (kwV ix zs) H2 Q (E σ)
theorem pe_calKS {E : L2.St → XK} (C : Cal X.prog X.w X.K X.mg X.base CX k x st ps sp) (hr : Room k X.A) (hg : Gl X x) (hx : ∀ σ, PassesAt CX X σ (E σ)) (hb : Kw x st ps ks ix)
    (hkw : PK X kws tk) (hall : (backToKw pos (keywordEach kws X.env)).all (·.1.isSome) = true := by rfl) (hks : (backToKw pos (keywordEach kws X.env)).filterMap (·.1) = ks := by rfl)
    (hdb : (x == ("__debug__" : Str)) = false := by decide) (hpl : ((backTo pos (starEach [] X.env)).any (·.1) || (backToKw pos (keywordEach kws X.env)).any (·.1.isNone)) = false := by rfl) :
    PE X (.Call (.Name x p) [] kws pos) (tCalKS sp ix ks.length E tk) := by
  obtain ⟨f, fd, F, m, kp, b, ⟨kV, dc, pm, an, cd, ct, rfl⟩⟩ := C
  refine ⟨fun pins s σ H Q I h => ?_⟩
  refine wpAny_Call_Name_kw (ld_glob I hg m ?_ hdb)
  refine PySem.W.callWith_KW0 (h₀ := X.base) I.ok.mod.kin kp hall (thn (hkw.run pos pins s σ H _ I h) fun ws s2 ⟨zs, H2, I2, rz, hl, q2⟩ => ⟨I2.kIn, ?_⟩) hpl
  rw [hks]
  have hl2 : ws.length = ks.length := by rw [← rz.length]; exact hl
  have r2 := kw_rel rz ix
  refine wpAny_call (codeAny_mono (F.run X.A X.stack s2 H2 ⟨[], ks.zip ws⟩ (kwU ix ws) (kwV ix zs) _ (E σ) hr I2.env0 (hb.2 _ _ _ _ _ _ s2 ws hl2) r2 q2) fun r s' hq => ?_)
  cases r with
  | error e => exact hx σ pins H2 s2 e s' I2 hq
  | ok fl =>
    cases fl with
    | ret u => exact I2.after hq
    | _ => exact hq.elim
end
/-! ### a text some times, also once -/
def rMulS1 : R2 := fun x y H Q => ∃ (z : Str) (n : Int), x = .str z ∧ y = .int n ∧ 1 ≤ n ∧ n ≤ 1000000 ∧ 0 < z.length ∧ z.length * n.toNat ≤ 1000000 ∧ Q (.str (mulS z n.toNat)) H
theorem mulS_one (z : Str) : mulS z 1 = z := by
  obtain ⟨a⟩ := z
  unfold mulS
  simp
theorem op_mulS1 {X : Cx} : OpR X (binaryOp .Mult) rMulS1 := by
  intro pins s σ H x y v u Q I rx ry h
  obtain ⟨z, n, rfl, rfl, n1, n3, z0, z1, q⟩ := h
  by_cases e : n = 1
  · subst e
    obtain ⟨t, rfl⟩ := rx
    obtain ⟨t', rfl⟩ := ry
    refine PySem.P.mul_str (by decide) (fun _ h => by simp at h) (fun _ h => by simp at h) ?_
    rw [if_neg (by decide), if_pos (by rfl)]
    refine ⟨.str _, H, I, ⟨_, rfl⟩, ?_⟩
    rw [show (1 : Int).toNat = 1 from rfl, mulS_one] at q
    exact q
  · obtain ⟨t, rfl⟩ := rx
    obtain ⟨t', rfl⟩ := ry
    have h1 : ¬ n < 1 := by omega
    have h2 : (n == 1 || z.length == 0) = false := by
      simp only [Bool.or_eq_false_iff, beq_eq_false_iff_ne]
      constructor <;> omega
    have zl : z.length * 1 ≤ z.length * n.toNat := Nat.mul_le_mul_left _ (by omega)
    refine PySem.P.mul_str (by simp only [Bool.or_eq_false_iff, decide_eq_false_iff_not]; constructor <;> omega) (fun _ _ => ?_) (fun _ _ => ?_) ?_
    · have : (2 ^ 63 - 1 : Int) / n ≥ 1000000 := by
        refine (Int.le_ediv_iff_mul_le (by omega)).mpr ?_
        have : (1000000 : Int) * n ≤ 1000000 * 1000000 := by omega
        omega
      omega
    · have : sizeLine = 16777216 := sizeLine_eq
      have : ¬ z.length * n.toNat > sizeLine := by omega
      exact decide_eq_false this
    · rw [if_neg h1, h2, if_neg (by decide)]
      rw [mulS_eq]
      refine ⟨?_, ⟨.str _, H, I.tok _, ⟨_, rfl⟩, q⟩⟩
      rw [mulS_len, sizeLine_eq, Nat.mul_comm]
      omega
section
variable {K : PySem.W.Frag} {σ : L2.St} {B : Hp} {ta tb : TE}
theorem Rv.mulS1 {z : Str} {n : Int} (n1 : 1 ≤ n) (n2 : n ≤ 1000000) (z0 : 0 < z.length) (z1 : z.length * n.toNat ≤ 1000000) : Rv rMulS1 B (dat K (.str z)) (dat K (.int n)) (dat K (.str (mulS z n.toNat))) := fun x y B1 H1 _ s2 hx hy Q q => ⟨z, n, dat_str hx, dat_int hy, n1, n2, z0, z1, q _ B1 H1 (.refl s2) (.str _)⟩
theorem Rv.ixS {z : Str} {i : Int} {c : Nat} (hz : z.length ≤ sizeLine) (h : atI z.cps.toList i = some c) : Rv rIxS B (dat K (.str z)) (dat K (.int i)) (dat K (.str ⟨#[c]⟩)) := fun x y B1 H1 _ s2 hx hy Q q => ⟨z, i, c, dat_str hx, dat_int hy, hz, h, q _ B1 H1 (.refl s2) (.str _)⟩
end
/-! ### a display whose keys are apart -/
theorem putK_apart {kvs : List (Key × V)} {k : Key} {v : V} (h : ∀ q ∈ kvs, q.1 ≠ k) : putK kvs k v = kvs ++ [(k, v)] := by
  unfold putK
  rw [if_neg]
  rw [List.any_eq_true]
  rintro ⟨q, hq, e⟩
  exact h q hq (of_decide_eq_true e)
theorem mergeK_apart : ∀ (more acc : List (Key × V)), (∀ p ∈ more, ∀ q ∈ acc, q.1 ≠ p.1) → (more.map (·.1)).Nodup → mergeK acc more = acc ++ more
  | [], acc, _, _ => by rw [List.append_nil]; rfl
  | p :: more, acc, h, nd => by
    rw [List.map_cons, List.nodup_cons] at nd
    show mergeK (putK acc p.1 p.2) more = _
    rw [putK_apart (h p List.mem_cons_self), mergeK_apart more _ (fun x hx q hq => ?_) nd.2, List.append_assoc]
    · rfl
    · rcases List.mem_append.mp hq with hq | hq
      · exact h x (List.mem_cons_of_mem _ hx) q hq
      · rw [List.mem_singleton.mp hq]
        intro e
        exact nd.1 (List.mem_map.mpr ⟨x, hx, e.symm⟩)
theorem merge_rows {rows : List (Str × Str)} (h : (rows.map (·.1)).Nodup) : mergeK [] (rowsV rows) = rowsV rows := by
  refine mergeK_apart _ _ (fun _ _ _ h => nomatch h) ?_
  unfold rowsV
  rw [List.map_map]
  have : (((fun x : Key × V => x.1) ∘ fun p : Str × Str => ((.inr p.1, .str p.2) : Key × V))) = fun p : Str × Str => (.inr p.1 : Key) := rfl
  rw [this]
  have e : (rows.map fun p : Str × Str => (.inr p.1 : Key)) = (rows.map (·.1)).map fun z => (.inr z : Key) := by rw [List.map_map]; rfl
  rw [e]
  exact List.Pairwise.map _ (fun a b hab e => hab (Sum.inr.inj e)) h
theorem valV_rows (z : Str) : ∀ rows : List (Str × Str), valV (rowsV rows) (.inr z) = (rows.find? fun p => decide (p.1 = z)).map fun p => V.str p.2
  | [] => rfl
  | p :: rows => by
    have ih := valV_rows z rows
    unfold valV rowsV at ih ⊢
    rw [List.map_cons, List.find?_cons, List.find?_cons]
    by_cases e : p.1 = z
    · have e' : ((Sum.inr p.1 : Key) = .inr z) := by rw [e]
      simp [e]
    · have e' : ¬ ((Sum.inr p.1 : Key) = .inr z) := fun h => e (Sum.inr.inj h)
      simp only [decide_eq_false e, decide_eq_false e']
      exact ih
theorem De.getR {K : PySem.W.Frag} {σ : L2.St} {B : Hp} {ta tb tc : TE} {rows : List (Str × Str)} {z x : Str} (nd : (rows.map (·.1)).Nodup) (hd : De ta σ B (dkR (mergeK [] (rowsV rows)))) (hk : De tb σ B (dat K (.str z))) (hx : De tc σ B (dat K (.str x))) : De (tDGet2 ta tb tc) σ B (dat K (.str (((rows.find? fun p => decide (p.1 = z)).map (·.2)).getD x))) :=
  De.getS hd hk hx (by
    rw [merge_rows nd, valV_rows]
    cases rows.find? fun p => decide (p.1 = z) <;> rfl)
section
variable {α : Type} {R R1 R2 : α → Rel} {pre : α → Prop} {res : α → Rel} {vs : List V} {H : Hp} {Q : VK} {E : XK}
theorem dpf3 (h : DPf (fun a => [R a, R1 a, R2 a]) pre res vs H Q E) : ∃ d v v1 v2 c B a, vs = [.ref d, v, v1, v2] ∧ Dl B H d c ∧ R a B v ∧ R1 a B v1 ∧ R2 a B v2 ∧ pre a ∧ ∀ v B' H', ExtD d c B H B' H' → res a B' v → Q v H' := by
  obtain ⟨d, c, B, a, us, rfl, L, ⟨v, r, rfl, h1, v1, r1, rfl, h2, v2, r2, rfl, h3, h⟩, p, k⟩ := h
  have h : r2 = [] := h
  subst h
  exact ⟨d, v, v1, v2, c, B, a, rfl, L, h1, h2, h3, p, k⟩
end
/-! ### is not True, is not False -/
def rIsNb : R2 := fun x y H Q => ∃ a b, x = .bl a ∧ y = .bl b ∧ Q (.bl (!decide (a = b))) H
theorem op_isNb {X : Cx} : OpR X (compareOp .IsNot) rIsNb := op_isnot_bl
theorem Rv.isNb {K : PySem.W.Frag} {B : Hp} {a b : Bool} : Rv rIsNb B (dat K (.bool a)) (dat K (.bool b)) (dat K (.bool (!decide (a = b)))) := fun x y B1 H _ s2 hx hy Q q => ⟨a, b, dat_bl hx, dat_bl hy, q _ B1 H (.refl s2) (.bl _)⟩
theorem Dtw.and1 {σ : L2.St} {B : Hp} {d c : Addr} {tt tu : TT} {b : Bool} (h1 : Dt tt σ B b) (h2 : Dtw tu σ d c B) : Dtw (tAnd tt tu) σ d c B := fun B1 H s L Q k => h1 B1 H s L.bh _ fun B2 H2 e => by
  cases b with
  | false => exact k false B2 H2 (.of L e)
  | true => exact h2 B2 H2 (s.trans e.bb) (ExtD.of L e).dl Q fun b B3 H3 e3 => k b B3 H3 ((ExtD.of L e).trans L e3)
end Wv

set_option Elab.async false
set_option linter.all false
set_option maxRecDepth 100000
set_option maxHeartbeats 1000000
/-! K33t: the reading of the next letter's check. -/
namespace K33
open PySem PySem.Spec PyProof.Rows L2 Wb Wv Fm Ta Wf Fq Sb
theorem ints_list {K : PySem.W.Frag} {B : Hp} {v : V} {n : Nat} {P : Int → Prop} (h : lstS K (intP P) n B v) : ∃ js : List Int, dat K (.list (js.map .int)) B v ∧ js.length = n ∧ ∀ j ∈ js, P j := by
  obtain ⟨p, vs, rfl, hs, hl, hP⟩ := h
  have : ∀ vs : List V, (∀ v ∈ vs, intP P B v) → ∃ js : List Int, DpAll K B vs (js.map .int) ∧ js.length = vs.length ∧ ∀ j ∈ js, P j := fun vs => by
    induction vs with
    | nil => exact fun _ => ⟨[], .nil, rfl, fun j h => nomatch h⟩
    | cons v vs ih =>
      intro h
      obtain ⟨j, hj, rfl⟩ := h v List.mem_cons_self
      obtain ⟨js, h1, h2, h3⟩ := ih fun u hu => h u (List.mem_cons_of_mem _ hu)
      refine ⟨j :: js, .cons (.int j) h1, by rw [List.length_cons, List.length_cons, h2], fun k hk => ?_⟩
      rcases List.mem_cons.mp hk with rfl | hk
      · exact hj
      · exact h3 k hk
  obtain ⟨js, h1, h2, h3⟩ := this vs hP
  exact ⟨js, Dp.lst hs h1, h2.trans hl, h3⟩
theorem Rv.neB {K : PySem.W.Frag} {B : Hp} {i j : Bool} : Rv rNe B (dat K (.bool i)) (dat K (.bool j)) (dat K (.bool (!decide (i = j)))) := fun x y B1 H _ s2 hx hy Q q => by
  have hx := dat_bl hx
  have hy := dat_bl hy
  subst hx hy
  have e : decide (V.bl i = V.bl j) = decide (i = j) := by simp
  refine ⟨rfl, ?_⟩
  rw [e]
  exact q _ B1 H (.refl s2) (Dp.bl _)
abbrev NmP (i : Int) : Prop := 0 ≤ i ∧ i < 2 ^ 60
theorem lst_of_ints {K : PySem.W.Frag} {B : Hp} {v : V} {js : List Int} {P : Int → Prop} (h : dat K (.list (js.map .int)) B v) (hP : ∀ j ∈ js, P j) : lstS K (intP P) js.length B v := by
  obtain ⟨p, xs, rfl, hs, hR⟩ := dat_lstR h
  have e := ints_of (allR_dp hR)
  subst e
  refine ⟨p, _, rfl, hs, by rw [List.length_map], fun v hv => ?_⟩
  obtain ⟨j, hj, rfl⟩ := List.mem_map.mp hv
  exact ⟨j, hP j hj, rfl⟩
structure NxOk (qs : Qs) (ls : List Lt) : Prop where
  tr : TrOk qs ls
  few : ls.length ≤ 25
abbrev sp_lnextRight (K : PySem.W.Frag) (CF CT : Addr) : Sp := DPf (α := Qs × List Lt) (fun a => [dat K (qsD a.1), tallyR K CF CT a.1 a.2, dat K (.list (a.2.map ltD))]) (fun a => NxOk a.1 a.2) (fun _ => dat K (.bool true))
theorem kw3r {R S T : Rel} {B : Hp} {vs : List V} (h : AllR [T, S, R] B vs) : AllR [R, S, T] B (kwV [2, 1, 0] vs) := by
  obtain ⟨z, r, rfl, hz, y, r1, rfl, hy, x, r2, rfl, hx, h⟩ := h
  have h : r2 = [] := h
  subst h
  exact ⟨x, _, rfl, hx, y, _, rfl, hy, z, _, rfl, hz, rfl⟩
theorem any_nums (l : List Int) (n : Int) : ((l.map PyData.int).any fun z => PyData.eqv z (.int n)) = decide (n ∈ l) := by
  induction l with
  | nil => rfl
  | cons a l ih =>
    rw [List.map_cons, List.any_cons, ih, eqv_int]
    rw [Bool.eq_iff_iff]
    simp only [Bool.or_eq_true, decide_eq_true_eq, List.mem_cons]
    exact ⟨fun z => z.elim (fun e => .inl e.symm) .inr, fun z => z.elim (fun e => .inl e.symm) .inr⟩
theorem shaped_numT (a : List Int) : SeqAt.shaped (.tuple (a.map .int)) = true := by
  have h1 : PyData.canLayAll0 (a.map .int) = true := lay_map fun x _ => by simp [PyData.canLay0]
  have h2 := depth_map (f := PyData.int) (n := 0) (l := a) fun x _ => by simp [PyData.depth]
  unfold SeqAt.shaped
  simp only [PyData.canLay0, h1, PyData.depth, Bool.true_and]
  exact decide_eq_true (by omega)
theorem lay_npl (l : List (Int × Wd)) : PyData.canLay0 (.list (l.map npD)) = true := by
  have h1 : PyData.canLayAll0 (l.map npD) = true := lay_map fun x _ => by
    have := lay_word x.2
    unfold npD
    simp only [PyData.canLay0, PyData.canLayAll0, this, Bool.and_self]
  simp only [PyData.canLay0, h1]
theorem shaped_npl (l : List (Int × Wd)) : SeqAt.shaped (.list (l.map npD)) = true := by
  have h2 := depth_map (f := npD) (n := 2) (l := l) fun x _ => by
    have : (wdD x.2).depth ≤ 1 := depth_word x.2
    unfold npD
    simp only [PyData.depth, PyData.depthAll]
    omega
  unfold SeqAt.shaped
  rw [lay_npl]
  simp only [PyData.depth, Bool.true_and]
  exact decide_eq_true (by omega)
theorem kw_nextLetter : Kw "next_letter" s_nextLetter ["tally", "number", "word"] ["word", "number", "tally"] [2, 1, 0] := ⟨rfl, fun _ _ _ _ _ _ _ ws hl => match ws, hl with | [_, _, _], _ => .of_eq rfl⟩
section
variable {P : Program} {w : World} {K : PySem.W.Frag} {mg : Str → Option Value} {base : Heap} {C_Form C_Sheets C_Tally C_InvalidSize C_Refused C_BlankError C_InvalidSheets a_ZERO a_ONE : Addr}
theorem sc_lnextRight : FnScope ["deal", "questions", "tally", "letters", "number", "letter", "word", "due", "after", "pair"] ["deal", "questions", "tally", "letters"] (defScope s_lnextRight) := ⟨rfl, rfl, rfl, by decide +kernel, rfl, by decide +kernel, by decide +kernel⟩
theorem ok_lnextRight (D : Def K mg "_law_next_right" s_lnextRight ["deal", "questions", "tally", "letters"]) (C_of : Cal P w K mg base CX0 2 "_law_of" s_of ["deal", "some"] (spOf K)) (C_any : Cal P w K mg base CX0 1 "_law_any" s_any ["deal", "bound"] spAny) (C_lrows : Cal P w K mg base CX0 1 "_law_rows" s_lrows ["questions", "least"] (sp_lrows K)) (n_max : mg "max" = none) (C_nextLetter : Cal P w K mg base CX0 1 "next_letter" s_nextLetter ["tally", "number", "word"] (sp_nextLetter K C_Form C_Tally)) (n_repr : mg "repr" = none) (C_heard : Cal P w K mg base CX0 4 "heard" s_heard ["tally", "letter"] (sp_heard K C_Form C_Tally)) (C_doubts : Cal P w K mg base CX0 1 "doubts" s_doubts ["tally"] (sp_doubts K C_Form C_Tally)) (C_gone : Cal P w K mg base CX0 1 "gone" s_gone ["tally"] (sp_gone K C_Form C_Tally)) (C_counted : Cal P w K mg base CX0 1 "counted" s_counted ["tally"] (sp_counted K C_Form C_Tally)) : CalG P w K mg base CX0 5 "_law_next_right" s_lnextRight ["deal", "questions", "tally", "letters"] (sp_lnextRight K C_Form C_Tally) := by
  refine D.okG sc_lnextRight (fun vs H Q E h => ?_) (fun cdv f A outer s H vs Q E gd hr h => ?_)
  · exact dpf_len h fun _ => rfl
  replace h := dpf3 h
  obtain ⟨d, v1, v2, v3, c, B, ⟨qs, ls⟩, rfl, L, h1, h2, h3, ok, k⟩ := h
  refine ⟨_, (pss_cons (ps_set (i := 4) sc_lnextRight.nd rfl (Or.inr rfl) (pe_cal C_of (hr.mono (by decide)) (by rfl) pass0 (pa_cons (pv 0) (pa_cons (pe_op op_catS (pe_lc (own := [("letter", 5)]) (g := gName 5) (tt := tYes) rfl sc_lnextRight.nd (pi_list (pv 3)) (blkOk_by (own := [("letter", 5)]) (N := ["deal", "questions", "tally", "letters", "number", "letter", "word", "due", "after", "pair"]) (sc := defScope s_lnextRight) (by decide +kernel)) (fun _ _ _ _ _ => (pg_name (i := 5) sc_lnextRight.nd rfl (Or.inl rfl))) (fun _ _ _ _ _ => pts_nil) (fun _ _ _ _ _ => (pe_ix (r := rIxT K) ix_tup (pv 5) pe_int (fun _ _ => rfl)))) (pe_lst (pa_cons (pe_cal C_any (hr.mono (by decide)) (by rfl) pass0 (pa_cons (pv 0) (pa_cons pe_int pa_nil))) (pa_cons (pe_op op_pow pe_int pe_int) pa_nil)))) pa_nil))))
    (pss_cons (ps_set (i := 6) sc_lnextRight.nd rfl (Or.inl rfl) (pe_cal C_of (hr.mono (by decide)) (by rfl) pass0 (pa_cons (pv 0) (pa_cons (pe_lst (pa_cons (pe_tup pa_nil) (pa_cons (pe_cal C_of (hr.mono (by decide)) (by rfl) pass0 (pa_cons (pv 0) (pa_cons (pe_cal C_lrows (hr.mono (by decide)) (by rfl) pass0 (pa_cons (pv 1) (pa_cons (pe_op op_sub pe_int pe_int) pa_nil))) pa_nil))) pa_nil))) pa_nil))))
    (pss_cons (ps_set (i := 7) sc_lnextRight.nd rfl (Or.inl rfl) (pe_tup (pa_cons (pv 4) (pa_cons (pe_op op_add (pe_callB (cr_max rfl) (by rfl) n_max (by decide +kernel) (pa_cons (pe_op op_catS (pe_lst (pa_cons (pe_op op_sub pe_int pe_int) pa_nil)) (pe_lc (own := [("letter", 5)]) (g := gName 5) rfl sc_lnextRight.nd (pi_list (pv 3)) (blkOk_by (own := [("letter", 5)]) (N := ["deal", "questions", "tally", "letters", "number", "letter", "word", "due", "after", "pair"]) (sc := defScope s_lnextRight) (by decide +kernel)) (fun _ _ _ _ _ => (pg_name (i := 5) sc_lnextRight.nd rfl (Or.inl rfl))) (fun _ _ _ _ _ => pts_one (pt_cmpR op_eq (pe_ix (r := rIxT K) ix_tup (pv 5) pe_int (fun _ _ => rfl)) (pv 4) (nomark _))) (fun _ _ _ _ _ => (pe_ix (r := rIxT K) ix_tup (pv 5) pe_int (fun _ _ => rfl))))) pa_nil)) pe_int) (pa_cons (pv 6) pa_nil)))))
    (pss_cons (ps_if (PW.pt (pw_or (pt_cmpR op_ne (pe_callB (call_show gd hr.units) (by rfl) n_repr (by decide +kernel) (pa_cons (pe_cal C_nextLetter (hr.mono (by decide)) (by rfl) pass0 (pa_cons (pv 2) (pa_cons (pv 4) (pa_cons (pv 6) pa_nil)))) pa_nil)) (pe_callB (call_show gd hr.units) (by rfl) n_repr (by decide +kernel) (pa_cons (pv 7) pa_nil)) (nomark _)) (pw_or1 (pt_cmpR (op_neD hr.units) (pe_calK C_nextLetter (hr.mono (by decide)) (by rfl) pass0 kw_nextLetter (pk_cons (pv 6) (pk_cons (pv 4) (pk_cons (pv 2) pk_nil)))) (pv 7) (nomark _))))) (pss_one (ps_ret pe_bl)) pss_nil)
    (pss_cons (ps_set (i := 8) sc_lnextRight.nd rfl (Or.inl rfl) (pe_cal C_heard (hr.mono (by decide)) (by rfl) pass0 (pa_cons (pv 2) (pa_cons (pv 7) pa_nil))))
    (pss_cons (ps_if (PW.pt (pw_or (pt_cmpR (op_inT hr.u65) (pv 4) (pe_cal C_doubts (hr.mono (by decide)) (by rfl) pass0 (pa_cons (pv 8) pa_nil)) rfl) (pw_or1 (pt_cmpR op_ne (pe_cmpR (op_inT hr.u65) (pv 4) (pe_cal C_gone (hr.mono (by decide)) (by rfl) pass0 (pa_cons (pv 8) pa_nil)) rfl) (pe_cmpR (op_eqD hr.units) (pv 6) (pe_tup pa_nil) (nomark _)) (nomark _))))) (pss_one (ps_ret pe_bl)) pss_nil)
    (pss_one (ps_ret (pe_cmpR (op_eqD hr.units) (pe_lc (own := [("pair", 9)]) (g := gName 9) rfl sc_lnextRight.nd (pi_tup (pe_cal C_counted (hr.mono (by decide)) (by rfl) pass0 (pa_cons (pv 8) pa_nil))) (blkOk_by (own := [("pair", 9)]) (N := ["deal", "questions", "tally", "letters", "number", "letter", "word", "due", "after", "pair"]) (sc := defScope s_lnextRight) (by decide +kernel)) (fun _ _ _ _ _ => (pg_name (i := 9) sc_lnextRight.nd rfl (Or.inl rfl))) (fun _ _ _ _ _ => pts_one (pt_cmpR op_eq (pe_ix (r := rIxT K) ix_tup (pv 9) pe_int (fun _ _ => rfl)) (pv 4) (nomark _))) (fun _ _ _ _ _ => (pv 9))) (pe_ifExp (pt_cmpR (op_neD hr.units) (pv 6) (pe_tup pa_nil) (nomark _)) (pe_lst (pa_cons (pe_tup (pa_cons (pv 4) (pa_cons (pv 6) pa_nil))) pa_nil)) (pe_lst pa_nil)) (nomark _)))))))))), ?_⟩
  have line := sizeLine_eq
  have ok : NxOk qs ls := ok
  have tr := ok.tr
  have fo := tr.fo
  have few := ok.few
  have pos := tr.pos
  have h1 : dat K (qsD qs) B v1 := h1
  have h2 : tallyR K C_Form C_Tally qs ls B v2 := h2
  have h3 : dat K (.list (ls.map ltD)) B v3 := h3
  have f3 : qs.length ≤ 3 := fo.few
  have sm : Small qs := ⟨by omega, fun q h => by have := (fo.two q h).2; omega⟩
  have sg : ∀ a ∈ grow (qs.map fun q => rng (-1) ((q.2 : Int) - -1).toNat), a.length ≤ 3 ∧ ∀ i ∈ a, i.natAbs ≤ 8 := fun a ha => by
    refine ⟨by rw [grow_row ha, List.length_map]; exact f3, fun i hi => ?_⟩
    obtain ⟨l, hl, hil⟩ := picks_mem (grow_picks _ a ha) i hi
    obtain ⟨q, hq, rfl⟩ := List.mem_map.mp hl
    have := (fo.two q hq).2
    unfold rng at hil
    obtain ⟨k, hk, rfl⟩ := List.mem_map.mp hil
    rw [List.mem_range] at hk
    omega
  have wide : ∀ l ∈ (qs.map fun q => rng (-1) ((q.2 : Int) - -1).toNat), 2 ≤ l.length ∧ l.length ≤ 4 := fun l hl => by
    obtain ⟨q, hq, rfl⟩ := List.mem_map.mp hl
    have := fo.two q hq
    rw [rng_len]
    omega
  have s2 : 2 ≤ (grow (qs.map fun q => rng (-1) ((q.2 : Int) - -1).toNat)).length := by
    have := grow_ge _ rfl fun l hl => (wide l hl).1
    rw [List.length_map] at this
    have f1 : 1 ≤ qs.length := fo.pos
    omega
  have sl : (grow (qs.map fun q => rng (-1) ((q.2 : Int) - -1).toNat)).length ≤ 1000 := by
    have := grow_len (m := 4) _ fun l hl => (wide l hl).2
    rw [List.length_map] at this
    have p : 4 ^ qs.length ≤ 4 ^ 3 := Nat.pow_le_pow_right (by decide) f3
    omega
  have nln : (nums ls).length = ls.length := by unfold nums; rw [List.length_map]
  have num : ∀ j ∈ nums ls, NmP j := fun j hj => by
    obtain ⟨x, hx, rfl⟩ := List.mem_map.mp hj
    exact ⟨(tr.each x hx).n0, (tr.each x hx).nb⟩
  have d1 : Dw (tLc (iList K (tVar 3)) (gName 5) tYes (tOp (rIxT K) (tVar 5) (tC (.int 0))) [5]) [some (.ref d), some v1, some v2, some v3, none, none, none, none, none, none] d c B (datP K (listOf fun ds => ∃ js : List Int, ds = js.map .int ∧ js.length = ls.length ∧ ∀ j ∈ js, NmP j)) :=
    .cv (Dw.of (De.lcA (K := K) (as := ls) (r := fun x => dat K (ltD x)) (Di.listM (f := ltD) (.var h3 rfl)) (fun x => .int x.1) (by omega) fun x y Bn Hn hx sn sh hy => ⟨[some (.ref d), some v1, some v2, some v3, none, some y, none, none, none, none], fun Q q => q, rfl, De.op (r := rIxT K) (.var hy rfl) .int (Rv.ixTD (ds := [.int x.1, .int x.2.1, wdD x.2.2]) (i := ((0 : Nat) : Int)) (atI_nat rfl))⟩)) fun B v hv => ⟨_, ⟨_, rfl, nums ls, by unfold nums; rw [List.map_map]; rfl, nln, num⟩, hv⟩
  have d2 : Dw (tLst (tCons (tCall spAny [] E0 (tCons (tVar 0) (tCons (tC (.int 9)) tNil))) (tCons (tOp (rI CPow fun i j => V.int (i ^ j.toNat)) (tC (.int 10)) (tC (.int 16))) tNil))) [some (.ref d), some v1, some v2, some v3, none, none, none, none, none, none] d c B (datP K (listOf fun ds => ∃ js : List Int, ds = js.map .int ∧ js.length = 2 ∧ ∀ j ∈ js, NmP j)) :=
    .cv (Dw.lstN (S := intP NmP) (Dwn.cons (.cv (Dw.any (K := K) (n := 9) rfl .int (by decide) (by decide)) fun B v ⟨j, ⟨j0, j9⟩, hv⟩ => ⟨j, ⟨j0, by omega⟩, hv⟩) (Dwn.cons (.cv (Dw.of (R := dat K (.int 10000000000000000)) (De.eq (De.op .int .int (Rv.I ⟨by decide, by decide, by decide⟩)) (congrArg PyData.int (by decide)))) fun B v hv => ⟨10000000000000000, by decide, dat_int hv⟩) .nil)) (by rw [line]; show 2 ≤ _; decide)) fun B v hv => by
      obtain ⟨js, h, l, p⟩ := ints_list hv
      exact ⟨_, ⟨_, rfl, js, rfl, l, p⟩, h⟩
  refine s_w L (Dw.ofS (S := intP NmP) (n := ls.length + 2) rfl (.cv (Dw.op (r := rCatS K) d1 d2 fun B => Rv.catLP fun a b ⟨a', ea, la, _⟩ ⟨b', eb, lb, _⟩ => by rw [ea, eb, List.length_map, List.length_map]; omega) fun B v ⟨_, ⟨_, rfl, _, _, ⟨a, rfl, la, pa⟩, ⟨b, rfl, lb, pb⟩, rfl⟩, hv⟩ => ?_) (by omega) (by omega)) fun u4 B4 H4 e4 h4 => ?_
  · have h := lst_of_ints (K := K) (B := B) (v := v) (js := a ++ b) (P := NmP) (by rw [List.map_append]; exact hv) fun j hj => (List.mem_append.mp hj).elim (pa j) (pb j)
    rw [List.length_append, la, lb] at h
    exact h
  obtain ⟨n, hn, rfl⟩ := h4
  have h1 := Mo.mo e4.bb h1
  have h2 := Mo.mo e4.bb h2
  have h3 := Mo.mo e4.bb h3
  change tSeq _ _ _ [some (.ref d), some v1, some v2, some v3, some (.int n), none, none, none, none, none] H4
  have rw1 : ∀ {σ : L2.St} {B : Hp} {E : XK} {ta tb : TE}, De ta σ B (dat K (qsD qs)) → De tb σ B (dat K (.int (-1))) → De (tCall (sp_lrows K) [] E (tCons ta (tCons tb tNil))) σ B (dat K (rowsL (grow (qs.map fun q => rng (-1) ((q.2 : Int) - -1).toNat)))) := fun h h' =>
    De.call (qs, -1) (.cons h (.one h')) ⟨sm, (by show (-1 : Int) ≤ -1; decide), (by show (-1 : Int) ≤ 0; decide)⟩
  refine s_w e4.dl (Dw.pick (S := datP K WdP) rfl (.cons (.cv (Dw.of (De.tupD (K := K) (ds := []) .nil (by rw [line]; show 0 ≤ _; decide))) fun B v hv => ⟨_, ⟨[], rfl, by decide, fun i hi => nomatch hi⟩, hv⟩) (.cons (.cv (Dw.ofL (ds := (grow (qs.map fun q => rng (-1) ((q.2 : Int) - -1).toNat)).map rowD) rfl (rw1 (.var h1 rfl) (De.op .int .int Rv.I0)) (fun z => by have := congrArg List.length z; rw [List.length_map] at this; simp only [List.length_nil] at this; omega) (by rw [List.length_map]; exact sl)) fun B v ⟨x, hx, hv⟩ => by
      obtain ⟨a, ha, rfl⟩ := List.mem_map.mp hx
      exact ⟨_, ⟨a, rfl, sg a ha⟩, hv⟩) .nil)) (by decide) (by decide)) fun u6 B6 H6 e6 h6 => ?_
  obtain ⟨_, ⟨u, rfl, ul, ui⟩, h6⟩ := h6
  have eA := e4.trans L e6
  have h2 := Mo.mo e6.bb h2
  have h3 := Mo.mo e6.bb h3
  have tl : TlOk ls := Nat.le_trans (tally_len ls) tr.few
  have hn' : ∀ B, dat K (.int n) B (.int n) := fun B => Dp.int n
  change tSeq _ _ _ [some (.ref d), some v1, some v2, some v3, some (.int n), none, some u6, none, none, none] H6
  refine s_set (De.tupD (K := K) (ds := [.int n, .int (nextE (tally ls) n), wdD u]) (.cons (.var (hn' _) rfl) (.cons (De.eq (De.op (De.cb (.one (De.eq (De.op (r := rCatS K) (De.lstD (ds := [.int (-1)]) (.cons (De.op .int .int Rv.I0) .nil) (by rw [line]; show 1 ≤ _; decide)) (De.lcD (K := K) (as := ls) (r := fun x => dat K (ltD x)) (Di.listM (f := ltD) (.var h3 rfl)) (fun x : Lt => decide (x.1 = n)) (fun x : Lt => .int x.2.1) (by omega) fun x y Bn Hn hx sn sh hy => ⟨[some (.ref d), some v1, some v2, some v3, some (.int n), some y, some u6, none, none, none], fun Q q => q, rfl, Dt.test (K := K) (De.op (r := rEq) (De.op (r := rIxT K) (.var hy rfl) .int (Rv.ixTD (ds := [.int x.1, .int x.2.1, wdD x.2.2]) (i := ((0 : Nat) : Int)) (atI_nat rfl))) (.var (hn' _) rfl) Rv.eqI), fun _ => De.op (r := rIxT K) (.var hy rfl) .int (Rv.ixTD (ds := [.int x.1, .int x.2.1, wdD x.2.2]) (i := ((1 : Nat) : Int)) (atI_nat rfl))⟩) (Rv.catS (by rw [List.length_map]; have := List.length_filter_le (fun x : Lt => decide (x.1 = n)) ls; show 1 + _ ≤ _; omega))) (e := .list (([(-1 : Int)] ++ (ls.filter fun x : Lt => decide (x.1 = n)).map (·.2.1)).map .int)) (by rw [List.map_append, List.map_map]; rfl))) (rc_max (by simp) (max_next pos n))) .int Rv.I0) (congrArg PyData.int (by omega))) (.cons (.var h6 rfl) .nil))) (by rw [line]; show 3 ≤ _; decide)) eA.bh fun u7 B7 H7 e7 h7 => ?_
  have h7 : dat K (ltD (n, nextE (tally ls) n, u)) B7 u7 := h7
  have eB := eA.trans L (.of eA.dl e7)
  have h2 := Mo.mo e7.bb h2
  have h6 := Mo.mo e7.bb h6
  change tSeq _ _ _ [some (.ref d), some v1, some v2, some v3, some (.int n), none, some u6, some u7, none, none] H7
  have e0 := next_pos (ls := ls) (n := n)
  have lb : last ls n < 2 ^ 60 := by
    by_cases h : n ∈ nums ls
    · obtain ⟨w, hw⟩ := last_at pos h
      exact (tr.each _ hw).eb
    · rw [last_none h]; decide
  have eb : nextE (tally ls) n ≤ 2 ^ 60 := by rw [next_eq]; split <;> omega
  have p61 : (2 : Nat) ^ 61 = 2 * 2 ^ 60 := by rw [Nat.pow_succ]
  have lsh : Sm 61 2 100 (ltD (n, nextE (tally ls) n, u)) := sm_tuple (ds := [.int n, .int (nextE (tally ls) n), wdD u]) (W := 3) (fun x hx => by
    rcases List.mem_cons.mp hx with rfl | hx
    · exact .int (by have a := hn.1; have b := hn.2; omega)
    rcases List.mem_cons.mp hx with rfl | hx
    · exact .int (by omega)
    rw [List.mem_singleton.mp hx]
    exact sm_tuple (k := 0) (W := 0) (fun x hx => by
      obtain ⟨i, hi, rfl⟩ := List.mem_map.mp hx
      exact .int (Nat.lt_of_le_of_lt (ui i hi) (Nat.lt_of_lt_of_le (show 8 < 2 ^ 4 by decide) (Nat.pow_le_pow_right (by decide) (by decide))))) 3 (by rw [List.length_map]; exact ul) 3 (by decide)) 3 (Nat.le_refl 3) 100 (by decide)
  have nx : ∀ {σ : L2.St} {B : Hp} {E : XK} {ta tb tc : TE}, De ta σ B (tallyR K C_Form C_Tally qs ls) → De tb σ B (dat K (.int n)) → De tc σ B (dat K (wdD u)) → De (tCall (sp_nextLetter K C_Form C_Tally) [] E (tCons ta (tCons tb (tCons tc tNil)))) σ B (dat K (ltD (n, nextE (tally ls) n, u))) := fun a b c =>
    De.call ((qs, ls), (n, u)) (.cons a (.cons b (.one c))) tl
  have nk : ∀ {σ : L2.St} {B : Hp} {ta tb tc : TE}, De ta σ B (tallyR K C_Form C_Tally qs ls) → De tb σ B (dat K (.int n)) → De tc σ B (dat K (wdD u)) → De (tCalK (sp_nextLetter K C_Form C_Tally) [2, 1, 0] 3 E0 (tCons tc (tCons tb (tCons ta tNil)))) σ B (dat K (ltD (n, nextE (tally ls) n, u))) := fun a b c =>
    De.callK ((qs, ls), (n, u)) (.cons c (.cons b (.cons a .nil))) rfl (fun _ _ => kw3r) tl
  refine s_skip (Dt.or2 (Dt.reprs (K := K) (nx (.var h2 rfl) (.var (hn' _) rfl) (.var h6 rfl)) (.var h7 rfl) (lsh.shw (by decide) (by decide) (by decide))) (Dt.eq (Dt.test (K := K) (De.op (r := rNeD K) (nk (.var h2 rfl) (.var (hn' _) rfl) (.var h6 rfl)) (.var h7 rfl) (Rv.neD lsh.shaped lsh.shaped))) (by rw [PySem.SeqAt.eqv_refl _ lsh.lay]; rfl))) eB.bh fun B8 H8 e8 => ?_
  have eC := eB.trans L (.of eB.dl e8)
  have h2 := Mo.mo e8.bb h2
  have h6 := Mo.mo e8.bb h6
  have h7 := Mo.mo e8.bb h7
  have ho : HOk ls := hok (fun l h => h) (by omega) tr.each
  have hd : ∀ {σ : L2.St} {B : Hp} {E : XK} {ta tb : TE}, De ta σ B (tallyR K C_Form C_Tally qs ls) → De tb σ B (dat K (ltD (n, nextE (tally ls) n, u))) → De (tCall (sp_heard K C_Form C_Tally) [] E (tCons ta (tCons tb tNil))) σ B (tallyR K C_Form C_Tally qs (ls ++ [(n, nextE (tally ls) n, u)])) := fun a b =>
    De.call (qs, ls, (n, nextE (tally ls) n, u)) (.cons a (.one b)) ⟨ho, e0⟩
  refine s_set (hd (.var h2 rfl) (.var h7 rfl)) eC.bh fun u8 B9 H9 e9 h8 => ?_
  have eD := eC.trans L (.of eC.dl e9)
  have h6 := Mo.mo e9.bb h6
  have tl2 : TlOk (ls ++ [(n, nextE (tally ls) n, u)]) := Nat.le_trans (tally_len _) (by rw [List.length_append]; show _ + 1 ≤ 60; omega)
  have al : (tally (ls ++ [(n, nextE (tally ls) n, u)])).length ≤ 60 := tl2
  have c1 : ∀ {σ : L2.St} {B : Hp} {ta : TE} {E : XK}, De ta σ B (tallyR K C_Form C_Tally qs (ls ++ [(n, nextE (tally ls) n, u)])) → De (tCall (sp_doubts K C_Form C_Tally) [] E (tCons ta tNil)) σ B (dat K (.tuple ((dbL (tally (ls ++ [(n, nextE (tally ls) n, u)]))).map .int))) := fun h => De.call (qs, _) (.cons h .nil) tl2
  have c2 : ∀ {σ : L2.St} {B : Hp} {ta : TE} {E : XK}, De ta σ B (tallyR K C_Form C_Tally qs (ls ++ [(n, nextE (tally ls) n, u)])) → De (tCall (sp_gone K C_Form C_Tally) [] E (tCons ta tNil)) σ B (dat K (.tuple ((gnL (tally (ls ++ [(n, nextE (tally ls) n, u)]))).map .int))) := fun h => De.call (qs, _) (.cons h .nil) tl2
  have c3 : ∀ {σ : L2.St} {B : Hp} {ta : TE} {E : XK}, De ta σ B (tallyR K C_Form C_Tally qs (ls ++ [(n, nextE (tally ls) n, u)])) → De (tCall (sp_counted K C_Form C_Tally) [] E (tCons ta tNil)) σ B (dat K (.tuple ((cnL (tally (ls ++ [(n, nextE (tally ls) n, u)]))).map npD))) := fun h => De.call (qs, _) (.cons h .nil) tl2
  have m1 := after_db (ls := ls) (n := n) (u := u)
  have m2 := after_gn (ls := ls) (n := n) (u := u)
  have m3 := after_cn (ls := ls) (n := n) (u := u)
  have cnl := cn_len al
  generalize ls ++ [(n, nextE (tally ls) n, u)] = as at h8 c1 c2 c3 m1 m2 m3 cnl al tl2
  have eu : PyData.eqv (wdD u) (.tuple []) = decide (u = []) := eqv_word u []
  have sw := shaped_wd u
  have gneq : (!decide ((((gnL (tally as)).map PyData.int).any fun z => PyData.eqv z (.int n)) = PyData.eqv (wdD u) (.tuple []))) = false := by
    have q : decide (n ∈ gnL (tally as)) = decide (u = []) := decide_eq_decide.mpr m2
    rw [any_nums, eu, q]
    simp
  change tSeq _ _ _ [some (.ref d), some v1, some v2, some v3, some (.int n), none, some u6, some u7, some u8, none] H9
  refine s_skip (Dt.or2 (Dt.eq (Dt.test (K := K) (De.op (r := rInT K false) (.var (hn' _) rfl) (c1 (.var h8 rfl)) (Rv.inT rfl (shaped_numT _)))) (by rw [any_nums, decide_eq_false m1])) (Dt.eq (Dt.test (K := K) (De.op (r := rNe) (De.op (r := rInT K false) (.var (hn' _) rfl) (c2 (.var h8 rfl)) (Rv.inT rfl (shaped_numT _))) (De.op (r := rEqD K) (.var h6 rfl) (De.tupD (ds := []) .nil (by rw [line]; show 0 ≤ _; decide)) (Rv.eqD sw rfl)) Rv.neB)) gneq)) eD.bh fun B10 H10 e10 => ?_
  have eE := eD.trans L (.of eD.dl e10)
  have h6 := Mo.mo e10.bb h6
  have h8 := Mo.mo e10.bb h8
  have val : (if (!decide (u = [])) = true then PyData.list [npD (n, u)] else .list []) = .list ((if u = [] then [] else [(n, u)]).map npD) := by
    by_cases h : u = []
    · rw [if_pos h, decide_eq_true h]; rfl
    · rw [if_neg h, decide_eq_false h]; rfl
  refine s_ret (De.eq (De.op (r := rEqD K) (De.eq (De.lcD (K := K) (as := cnL (tally as)) (r := fun p => dat K (npD p)) (Di.tupM (f := npD) (c3 (.var h8 rfl))) (fun p : Int × Wd => decide (p.1 = n)) (fun p => npD p) (by omega) fun p y Bn Hn hp sn sh hy => ⟨[some (.ref d), some v1, some v2, some v3, some (.int n), none, some u6, some u7, some u8, some y], fun Q q => q, rfl, Dt.test (K := K) (De.op (r := rEq) (De.op (r := rIxT K) (.var hy rfl) .int (Rv.ixTD (ds := [.int p.1, wdD p.2]) (i := ((0 : Nat) : Int)) (atI_nat rfl))) (.var (hn' _) rfl) Rv.eqI), fun _ => .var hy rfl⟩) (congrArg (fun l : List (Int × Wd) => PyData.list (l.map npD)) m3)) (De.eq (De.iteD (K := K) (d := .list [npD (n, u)]) (e := .list []) (Dt.eq (Dt.test (K := K) (De.op (r := rNeD K) (.var h6 rfl) (De.tupD (ds := []) .nil (by rw [line]; show 0 ≤ _; decide)) (Rv.neD sw rfl))) (congrArg (!·) eu)) (fun _ => De.lstD (.cons (De.tupD (ds := [.int n, wdD u]) (.cons (.var (hn' _) rfl) (.cons (.var h6 rfl) .nil)) (by rw [line]; show 2 ≤ _; decide)) .nil) (by rw [line]; show 1 ≤ _; decide)) fun _ => De.lstD .nil (by rw [line]; show 0 ≤ _; decide)) val) (Rv.eqD (shaped_npl _) (shaped_npl _))) (e := .bool true) (by rw [PySem.SeqAt.eqv_refl _ (lay_npl _)])) eE.bh fun v B H e h => k v B H (eE.trans L (.of eE.dl e)) h
end
end K33

set_option Elab.async false
set_option linter.all false
set_option maxRecDepth 100000
set_option maxHeartbeats 1000000
/-! K33u: tallies of letters of unlike numbers, merged. -/
namespace K33
open PySem PySem.Spec PyProof.Rows L2 Wb Wv Fm Ta Wf Fq Sb
theorem fold_none {n : Int} : ∀ {l : List Lt} {m : Int}, n ∉ nums l → l.foldl (upd1 n) m = m
  | [], _, _ => rfl
  | x :: l, m, h => by
    have h1 : x.1 ≠ n := fun e => h (by unfold nums; rw [List.map_cons, e]; exact List.mem_cons_self)
    rw [List.foldl_cons]
    have e : upd1 n m x = m := if_neg h1
    rw [e]
    exact fold_none fun q => h (by unfold nums at *; rw [List.map_cons]; exact List.mem_cons_of_mem _ q)
theorem nums_app (a b : List Lt) : nums (a ++ b) = nums a ++ nums b := by unfold nums; rw [List.map_append]
theorem last_left {a b : List Lt} {n : Int} (h : n ∉ nums b) : last (a ++ b) n = last a n := by
  unfold last
  rw [List.foldl_append]
  exact fold_none h
theorem last_right {a b : List Lt} {n : Int} (h : n ∉ nums a) : last (a ++ b) n = last b n := by
  unfold last
  rw [List.foldl_append, fold_none h]
theorem filter_other {l : List Lt} {n : Int} {p : Lt → Prop} [DecidablePred p] (h : n ∉ nums l) : l.filter (fun x => decide (x.1 = n ∧ p x)) = [] := List.filter_eq_nil_iff.mpr fun x hx z => h (List.mem_map.mpr ⟨x, hx, (of_decide_eq_true z).1⟩)
theorem words_left {a b : List Lt} {n : Int} (h : n ∉ nums b) : Ta.wordsOf (a ++ b) n = Ta.wordsOf a n := by
  unfold Ta.wordsOf
  rw [last_left h, List.filter_append, filter_other h, List.append_nil]
theorem words_right {a b : List Lt} {n : Int} (h : n ∉ nums a) : Ta.wordsOf (a ++ b) n = Ta.wordsOf b n := by
  unfold Ta.wordsOf
  rw [last_right h, List.filter_append, filter_other h, List.nil_append]
theorem mem_tally {l : List Lt} {r : Rw} : r ∈ tally l ↔ r.1 ∈ nums l ∧ r = (r.1, last l r.1, sortW (once (Ta.wordsOf l r.1))) := by
  unfold tally
  rw [List.mem_map]
  constructor
  · rintro ⟨n, hn, rfl⟩
    exact ⟨mem_once.mp (mem_sortI.mp hn), rfl⟩
  · rintro ⟨hn, e⟩
    exact ⟨r.1, mem_sortI.mpr (mem_once.mpr hn), e.symm⟩
theorem tally_nd (l : List Lt) : (tally l).Nodup := by
  unfold tally
  exact List.pairwise_map.mpr (((sortI_perm _).nodup_iff.mpr (nd_once _)).imp fun h e => h (Prod.mk.inj e).1)
def Apart (a b : List Lt) : Prop := ∀ n ∈ nums a, n ∉ nums b
theorem tally_apart {a b : List Lt} (h : Apart a b) : (tally (a ++ b)).Perm (tally a ++ tally b) := by
  have nd : (tally a ++ tally b).Nodup := List.nodup_append.mpr ⟨tally_nd a, tally_nd b, fun x hx y hy e => by
    subst e
    exact h x.1 (mem_tally.mp hx).1 (mem_tally.mp hy).1⟩
  refine (List.perm_ext_iff_of_nodup (tally_nd _) nd).mpr fun r => ?_
  rw [List.mem_append, mem_tally, mem_tally, mem_tally, nums_app, List.mem_append]
  constructor
  · rintro ⟨hn | hn, e⟩
    · have nb := h _ hn
      rw [last_left nb, words_left nb] at e
      exact .inl ⟨hn, e⟩
    · have na : r.1 ∉ nums a := fun q => h _ q hn
      rw [last_right na, words_right na] at e
      exact .inr ⟨hn, e⟩
  · rintro (⟨hn, e⟩ | ⟨hn, e⟩)
    · have nb := h _ hn
      refine ⟨.inl hn, ?_⟩
      rw [last_left nb, words_left nb]
      exact e
    · have na : r.1 ∉ nums a := fun q => h _ q hn
      refine ⟨.inr hn, ?_⟩
      rw [last_right na, words_right na]
      exact e
abbrev wsL (l : List Lt) : List Wd := (cnL (tally l)).map (·.2)
theorem ws_apart {a b : List Lt} (h : Apart a b) : (wsL (a ++ b)).Perm (wsL a ++ wsL b) := by
  have p := ((tally_apart h).filter fun r => decide (r.2.2.length = 1) && decide (r.2.2.headD [] ≠ [])).map fun r => (r.1, r.2.2.headD [])
  have p2 := p.map (·.2)
  rw [List.filter_append, List.map_append, List.map_append] at p2
  exact p2
theorem cnt_perm {a b : List Wd} (h : a.Perm b) (u : Wd) : cntW a u = cntW b u := (h.filter _).length_eq
theorem cnt_app (a b : List Wd) (u : Wd) : cntW (a ++ b) u = cntW a u + cntW b u := by
  unfold cntW
  rw [List.filter_append, List.length_append]
theorem tab_perm {a b : List Wd} (h : a.Perm b) : tabL a = tabL b := by
  have s : sortW (once a) = sortW (once b) := sortW_eq (once_perm fun y => h.mem_iff)
  unfold tabL
  rw [s, h.length_eq]
  exact List.map_congr_left fun u _ => by rw [cnt_perm h]
/-- the share of u after some tables: what the law's loops add -/
theorem low_add {s p : Rat} {l m : Int} (m0 : 0 < m) : Rat.divInt (s.num * p.den * m + p.num * l * s.den) (s.den * p.den * m) = s + p * Rat.divInt l m := by
  have sd : (s.den : Int) ≠ 0 := den_ne s
  have pd : (p.den : Int) ≠ 0 := den_ne p
  have mn : m ≠ 0 := by omega
  have e1 : s = Rat.divInt (s.num * (p.den * m)) (s.den * (p.den * m)) := by
    rw [Rat.divInt_mul_right (Int.mul_ne_zero pd mn), Rat.num_divInt_den]
  have e2 : p * Rat.divInt l m = Rat.divInt (p.num * l * s.den) (s.den * (p.den * m)) := by
    have q : p * Rat.divInt l m = Rat.divInt (p.num * l) (p.den * m) := by
      rw [← Rat.divInt_mul_divInt, Rat.num_divInt_den]
    rw [q, Int.mul_comm (s.den : Int) (p.den * m), Rat.divInt_mul_right sd]
  rw [e2]
  generalize hE : Rat.divInt (p.num * l * s.den) (s.den * (p.den * m)) = E
  rw [show s + E = Rat.divInt (s.num * (p.den * m)) (s.den * (p.den * m)) + E by rw [← e1], ← hE, div_add (Int.mul_ne_zero sd (Int.mul_ne_zero pd mn)), Int.mul_assoc, Int.mul_assoc (s.den : Int)]
/-- a table's own share of u, weighed by how many it counts -/
theorem part_of {c n m : Int} (n0 : 0 < n) (m0 : 0 < m) : Rat.divInt c n * Rat.divInt n m = Rat.divInt c m := by
  rw [Rat.divInt_mul_divInt, Int.mul_comm n m, Rat.divInt_mul_right (by omega)]
end K33

set_option Elab.async false
set_option linter.all false
set_option maxRecDepth 100000
set_option maxHeartbeats 1000000
/-! K33v: the reading of the check of tallies apart. -/
namespace K33
open PySem PySem.Spec PyProof.Rows L2 Wb Wv Fm Ta Wf Fq Sb
theorem De.merged {K : PySem.W.Frag} {CF CT CS : Addr} {σ : L2.St} {B : Hp} {ta tb : TE} {qs : Qs} {x y : List Lt} (fo : FOk qs) (ha : De ta σ B (tallyR K CF CT qs x)) (hb : De tb σ B (tallyR K CF CT qs y)) (ox : HOk x) (oy : HOk y) : De (tCall (sp_merged K CF CT CS) [] E0 (tCons ta (tCons tb tNil))) σ B (tallyR K CF CT qs (x ++ y)) := fun B1 H s1 s2 Q q =>
  ha B1 H s1 s2 _ fun u B2 H2 e hu => hb B2 H2 (s1.trans e.bb) e.bh _ fun v B3 H3 e2 hv =>
    ⟨u, v, B3, qs, qs, x, y, rfl, e2.bh, Mo.mo e2.bb hu, hv, ox, oy, shaped_qs fo, shaped_qs fo, fun _ v' B' H' e' h => q v' B' H' ((e.trans e2).trans e') h, fun z => by rw [qs_self fo] at z; cases z⟩
structure ApOk (qs : Qs) (ls os : List Lt) : Prop where
  tr : TrOk qs ls
  tr2 : TrOk qs os
  few : ls.length ≤ 28
  few2 : os.length ≤ 28
  ap : Apart ls os
abbrev sp_lapartRight (K : PySem.W.Frag) (CF CT : Addr) : Sp := Pf (α := Qs × List Lt × List Lt) (fun a => [formR K CF a.1, tallyR K CF CT a.1 a.2.1, dat K (.list (a.2.1.map ltD)), dat K (.list (a.2.2.map ltD))]) (fun a => ApOk a.1 a.2.1 a.2.2) (fun _ => dat K (.bool true))
abbrev cn (p : List (Int × Wd)) (u : Wd) : Int := (cntW (p.map fun x : Int × Wd => x.2) u : Nat)
theorem cn_le (p : List (Int × Wd)) (u : Wd) : 0 ≤ cn p u ∧ cn p u ≤ p.length := by
  have : cntW (p.map fun x : Int × Wd => x.2) u ≤ (p.map fun x : Int × Wd => x.2).length := List.length_filter_le _ _
  rw [List.length_map] at this
  show 0 ≤ ((cntW _ u : Nat) : Int) ∧ ((cntW _ u : Nat) : Int) ≤ _
  constructor <;> omega
theorem tab_keys (ws : List Wd) : (tabL ws).map (·.1) = sortW (once ws) := by
  unfold tabL
  rw [List.map_map]
  exact List.map_id' _
theorem cn_zero {p : List (Int × Wd)} {u : Wd} (h : u ∉ (tabL (p.map fun x : Int × Wd => x.2)).map (·.1)) : cn p u = 0 := by
  rw [tab_keys, mem_sortW, mem_once] at h
  have e : cntW (p.map fun x : Int × Wd => x.2) u = 0 := by
    unfold cntW
    rw [List.filter_eq_nil_iff.mpr fun w hw z => h (by rw [← of_decide_eq_true z]; exact hw)]
    rfl
  show ((cntW _ u : Nat) : Int) = 0
  rw [e]
  rfl
theorem sz_acc {k m : Int} (m0 : 0 < m) (m1 : m ≤ 200) (k0 : 0 ≤ k) (k1 : k ≤ 200) : Sz 20 (Rat.divInt k m) := sz_divInt (by omega) (by omega) (by omega)
section
variable {P : Program} {w : World} {K : PySem.W.Frag} {mg : Str → Option Value} {base : Heap} {C_Form C_Sheets C_Tally C_InvalidSize C_Refused C_BlankError C_InvalidSheets a_ZERO a_ONE : Addr}
theorem sc_lapartRight : FnScope ["form", "tally", "letters", "others", "other", "one", "two", "both", "many", "due", "sheet", "pair", "share", "pairs", "seen", "part"] ["form", "tally", "letters", "others"] (defScope s_lapartRight) := ⟨rfl, rfl, rfl, by decide +kernel, rfl, by decide +kernel, by decide +kernel⟩
theorem ok_lapartRight (D : Def K mg "_law_apart_right" s_lapartRight ["form", "tally", "letters", "others"]) (C_tallyOf : Cal P w K mg base CX0 3 "tally_of" s_tallyOf ["form", "letters"] (sp_tallyOf K C_Form C_Tally)) (C_lkinds : Cal P w K mg base CX0 1 "_law_kinds" s_lkinds ["due"] (sp_lkinds K)) (C_due : Cal P w K mg base CX0 2 "_law_due" s_due ["letters"] (sp_due K)) (C_merged : Cal P w K mg base (L2.CX P w) 4 "merged" s_merged ["one", "other"] (sp_merged K C_Form C_Tally C_InvalidSize)) (n_len : mg "len" = none) (C_once : Cal P w K mg base CX0 1 "_law_once" s_once ["some"] (sp_once K)) (n_sorted : mg "sorted" = none) (C_ltable : Cal P w K mg base CX0 3 "_law_table" s_ltable ["pairs"] (sp_ltable K)) (C_llow : Cal P w K mg base CX0 2 "_law_low" s_llow ["top", "bottom"] (sp_llow K)) (C_sheetsCounted : Cal P w K mg base (L2.CX P w) 8 "sheets_counted" s_sheetsCounted ["tally"] (spCountS K C_Form C_Sheets C_Tally C_Refused)) (n_repr : mg "repr" = none) (n_tuple : mg "tuple" = none) (K_Sheets : CalC P w K mg base "Sheets" C_Sheets ["form", "shares"]) : CalG P w K mg base CX0 9 "_law_apart_right" s_lapartRight ["form", "tally", "letters", "others"] (sp_lapartRight K C_Form C_Tally) := by
  refine D.okG sc_lapartRight (fun vs H Q E h => ?_) (fun cdv f A outer s H vs Q E gd hr h => ?_)
  · exact pf_len h fun _ => rfl
  replace h := pf4 h
  obtain ⟨v, v1, v2, v3, B, ⟨qs, ls, os⟩, rfl, hB, hv, hv1, hv2, hv3, ok, k⟩ := h
  refine ⟨_, (pss_cons (ps_set (i := 4) sc_lapartRight.nd rfl (Or.inl rfl) (pe_cal C_tallyOf (hr.mono (by decide)) (by rfl) pass0 (pa_cons (pv 0) (pa_cons (pv 3) pa_nil))))
    (pss_cons (ps_par (i := 5) (j := 6) rfl sc_lapartRight.nd rfl rfl (by decide) rfl rfl (pa_cons (pe_ix ix_tup (pe_cal C_lkinds (hr.mono (by decide)) (by rfl) pass0 (pa_cons (pe_cal C_due (hr.mono (by decide)) (by rfl) pass0 (pa_cons (pv 2) pa_nil)) pa_nil)) pe_int (fun _ _ => rfl)) (pa_cons (pe_ix ix_tup (pe_cal C_lkinds (hr.mono (by decide)) (by rfl) pass0 (pa_cons (pe_cal C_due (hr.mono (by decide)) (by rfl) pass0 (pa_cons (pv 3) pa_nil)) pa_nil)) pe_int (fun _ _ => rfl)) pa_nil)) (by rfl))
    (pss_cons (ps_set (i := 7) sc_lapartRight.nd rfl (Or.inl rfl) (pe_cal C_merged.quiet (hr.mono (by decide)) (by rfl) pass0 (pa_cons (pv 1) (pa_cons (pv 4) pa_nil))))
    (pss_cons (ps_if (pt_cmpR op_eq (pe_op op_mulW (pe_callB call_len (by rfl) n_len (by decide +kernel) (pa_cons (pv 5) pa_nil)) (pe_callB call_len (by rfl) n_len (by decide +kernel) (pa_cons (pv 6) pa_nil))) pe_int (nomark _)) (pss_one (ps_ret pe_bl)) pss_nil)
    (pss_cons (ps_par (i := 8) (j := 9) rfl sc_lapartRight.nd rfl rfl (by decide) rfl rfl (pa_cons (pe_op op_add (pe_callB call_len (by rfl) n_len (by decide +kernel) (pa_cons (pv 5) pa_nil)) (pe_callB call_len (by rfl) n_len (by decide +kernel) (pa_cons (pv 6) pa_nil))) (pa_cons (pe_lst pa_nil) pa_nil)) (by rfl))
    (pss_cons (ps_for PassesOwn.leaving rfl (pi_list (pe_callB (cr_sortedD hr.units) (by rfl) n_sorted (by decide +kernel) (pa_cons (pe_cal C_once (hr.mono (by decide)) (by rfl) pass0 (pa_cons (pe_lc (own := [("pair", 11)]) (g := gName 11) (tt := tYes) rfl sc_lapartRight.nd (pi_tup (pe_op op_catA (pv 5) (pv 6))) (blkOk_by (own := [("pair", 11)]) (N := ["form", "tally", "letters", "others", "other", "one", "two", "both", "many", "due", "sheet", "pair", "share", "pairs", "seen", "part"]) (sc := defScope s_lapartRight) (by decide +kernel)) (fun _ _ _ _ _ => (pg_name (i := 11) sc_lapartRight.nd rfl (Or.inl rfl))) (fun _ _ _ _ _ => pts_nil) (fun _ _ _ _ _ => (pe_ix (r := rIxT K) ix_tup (pv 11) pe_int (fun _ _ => rfl)))) pa_nil)) pa_nil))) (pg_name (i := 10) sc_lapartRight.nd rfl (Or.inl rfl)) (pss_cons (ps_set (i := 12) sc_lapartRight.nd rfl (Or.inl rfl) (pe_tup (pa_cons pe_int (pa_cons pe_int pa_nil))))
      (pss_cons (ps_for PassesOwn.leaving rfl (pi_list (pe_lst (pa_cons (pv 5) (pa_cons (pv 6) pa_nil)))) (pg_name (i := 13) sc_lapartRight.nd rfl (Or.inl rfl)) (pss_one (ps_for PassesOwn.leaving rfl (pi_tup (pe_cal C_ltable (hr.mono (by decide)) (by rfl) pass0 (pa_cons (pv 13) pa_nil))) (pg_tup rfl (pgs_cons (pg_name (i := 14) sc_lapartRight.nd rfl (Or.inl rfl)) (pgs_cons (pg_name (i := 15) sc_lapartRight.nd rfl (Or.inl rfl)) pgs_nil))) (pss_one (ps_if (pt_cmpR (op_eqD hr.units) (pv 14) (pv 10) (nomark _)) (pss_one (ps_set (i := 12) sc_lapartRight.nd rfl (Or.inl rfl) (pe_cal C_llow (hr.mono (by decide)) (by rfl) pass0 (pa_cons (pe_op op_add (pe_op op_mulW (pe_op op_mulW (pe_ix ix_tup (pv 12) pe_int (fun _ _ => rfl)) (pe_ix ix_tup (pv 15) pe_int (fun _ _ => rfl))) (pv 8)) (pe_op op_mulW (pe_op op_mulW (pe_ix ix_tup (pv 15) pe_int (fun _ _ => rfl)) (pe_callB call_len (by rfl) n_len (by decide +kernel) (pa_cons (pv 13) pa_nil))) (pe_ix ix_tup (pv 12) pe_int (fun _ _ => rfl)))) (pa_cons (pe_op op_mulW (pe_op op_mulW (pe_ix ix_tup (pv 12) pe_int (fun _ _ => rfl)) (pe_ix ix_tup (pv 15) pe_int (fun _ _ => rfl))) (pv 8)) pa_nil))))) pss_nil)))))
      (pss_one (ps_expr (pe_bm PySem.F.plainAttrs_list PySem.F.slot_list_append PySem.F.type_list_append mt_append (pv 9) (pa_cons (pe_tup (pa_cons (pv 10) (pa_cons (pv 12) pa_nil))) pa_nil)))))))
    (pss_one (ps_ret (pe_cmpR op_eq (pe_callB (call_show gd hr.units) (by rfl) n_repr (by decide +kernel) (pa_cons (pe_fld (pe_cal C_sheetsCounted.quiet (hr.mono (by decide)) (by rfl) pass0 (pa_cons (pv 7) pa_nil)) rfl) pa_nil)) (pe_callB (call_show gd hr.units) (by rfl) n_repr (by decide +kernel) (pa_cons (pe_callTy call_tuple_of (by rfl) n_tuple (by decide +kernel) (pa_cons (pv 9) pa_nil)) pa_nil)) (nomark _)))))))))), ?_⟩
  have line := sizeLine_eq
  have ok : ApOk qs ls os := ok
  have fo := ok.tr.fo
  have few := ok.few
  have few2 := ok.few2
  have pos := ok.tr.pos
  have pos2 := ok.tr2.pos
  have hv : formR K C_Form qs B v := hv
  have hv1 : tallyR K C_Form C_Tally qs ls B v1 := hv1
  have hv2 : dat K (.list (ls.map ltD)) B v2 := hv2
  have hv3 : dat K (.list (os.map ltD)) B v3 := hv3
  have kd : ∀ {xs : List Lt} {σ : L2.St} {B : Hp} {ta : TE} {E : XK}, xs.length ≤ 60 → De ta σ B (dat K (rwsD (tally xs))) → De (tOp (rIxT K) (tCall (sp_lkinds K) [] E (tCons ta tNil)) (tC (.int 2))) σ B (dat K (.tuple ((cnL (tally xs)).map npD))) := fun {xs _ _ _ _} l h =>
    De.op (r := rIxT K) (De.call (args := fun rs : List Rw => [dat K (rwsD rs)]) (res := fun rs => dat K (kdD rs)) (tally xs) (.one h) (Nat.le_trans (tally_len xs) l)) .int (Rv.ixTD (ds := [.tuple ((dbL (tally xs)).map .int), .tuple ((gnL (tally xs)).map .int), .tuple ((cnL (tally xs)).map npD)]) (i := ((2 : Nat) : Int)) (atI_nat rfl))
  have du : ∀ {xs : List Lt} {σ : L2.St} {B : Hp} {ta : TE} {E : XK}, xs.length ≤ 60 → Pos xs → De ta σ B (dat K (.list (xs.map ltD))) → De (tCall (sp_due K) [] E (tCons ta tNil)) σ B (dat K (rwsD (tally xs))) := fun {xs _ _ _ _} l p h => De.call xs (.one h) ⟨l, p⟩
  have tof : ∀ {σ : L2.St} {B : Hp} {ta tb : TE} {E : XK}, De ta σ B (formR K C_Form qs) → De tb σ B (dat K (.list (os.map ltD))) → De (tCall (sp_tallyOf K C_Form C_Tally) [] E (tCons ta (tCons tb tNil))) σ B (tallyR K C_Form C_Tally qs os) := fun a b => De.call (qs, true, os) (.cons a (.one b)) ⟨by show os.length ≤ 60; omega, pos2⟩
  refine s_set (tof (.var hv rfl) (.var hv3 rfl)) hB fun v4 B1 H1 e1 h4 => ?_
  have hv1 := Mo.mo e1.bb hv1
  have hv2 := Mo.mo e1.bb hv2
  have hv3 := Mo.mo e1.bb hv3
  change tSeq _ _ _ [some v, some v1, some v2, some v3, some v4, none, none, none, none, none, none, none, none, none, none, none] H1
  refine s_par (R := dat K (.tuple ((cnL (tally ls)).map npD))) (S := dat K (.tuple ((cnL (tally os)).map npD))) (.cons (kd (by omega) (du (by omega) pos (.var hv2 rfl))) (.cons (kd (by omega) (du (by omega) pos2 (.var hv3 rfl))) .nil)) e1.bh fun v5 v6 B2 H2 e2 h5 h6 => ?_
  have hv1 := Mo.mo e2.bb hv1
  have h4 := Mo.mo e2.bb h4
  have eA := e1.trans e2
  change tSeq _ _ _ [some v, some v1, some v2, some v3, some v4, some v5, some v6, none, none, none, none, none, none, none, none, none] H2
  have hoL : HOk ls := hok (fun l h => h) (by omega) ok.tr.each
  have hoO : HOk os := hok (fun l h => h) (by omega) ok.tr2.each
  refine s_set (De.merged (CS := C_InvalidSize) fo (.var hv1 rfl) (.var h4 rfl) hoL hoO) eA.bh fun v7 B3 H3 e3 h7 => ?_
  have eB := eA.trans e3
  have h5 := Mo.mo e3.bb h5
  have h6 := Mo.mo e3.bb h6
  have p1 : (cnL (tally ls)).length ≤ 28 := by unfold cnL; rw [List.length_map]; exact Nat.le_trans (List.length_filter_le _ _) (Nat.le_trans (tally_len ls) few)
  have p2 : (cnL (tally os)).length ≤ 28 := by unfold cnL; rw [List.length_map]; exact Nat.le_trans (List.length_filter_le _ _) (Nat.le_trans (tally_len os) few2)
  have wap := ws_apart ok.ap
  have tl : TlOk (ls ++ os) := Nat.le_trans (tally_len _) (by rw [List.length_append]; omega)
  change tSeq _ _ _ [some v, some v1, some v2, some v3, some v4, some v5, some v6, some v7, none, none, none, none, none, none, none, none] H3
  have nb : ∀ {n : Nat}, n ≤ 60 → ((n : Nat) : Int).natAbs < 2 ^ 3000 := fun h => Nat.lt_of_lt_of_le (show _ < 2 ^ 6 by omega) (Nat.pow_le_pow_right (by decide) (by decide))
  refine s_ifS (b := decide (cnL (tally ls) = [] ∨ cnL (tally os) = [])) (Dt.eq (Dt.test (K := K) (De.op (r := rEq) (De.op (De.lenT (.var h5 rfl)) (De.lenT (.var h6 rfl)) (Rv.I (mulOk (nb (by rw [List.length_map]; omega)) (nb (by rw [List.length_map]; omega))))) .int Rv.eqI)) ?_) eB.bh (fun t B4 H4 e4 => ?_) fun f B4 H4 e4 => ?_
  · rw [List.length_map, List.length_map]
    refine decide_eq_decide.mpr ⟨fun h => ?_, fun h => ?_⟩
    · rcases Int.mul_eq_zero.mp h with z | z
      · exact .inl (List.length_eq_zero_iff.mp (by omega))
      · exact .inr (List.length_eq_zero_iff.mp (by omega))
    · rcases h with z | z <;> rw [z] <;> simp
  · exact s_ret (De.bl (K := K)) e4.bh fun v B H e h => k v B H ((eB.trans e4).trans e) h
  have f := of_decide_eq_false f
  have n1 : cnL (tally ls) ≠ [] := fun z => f (.inl z)
  have n2 : cnL (tally os) ≠ [] := fun z => f (.inr z)
  have q1 := len_pos n1
  have q2 := len_pos n2
  have h5 := Mo.mo e4.bb h5
  have h6 := Mo.mo e4.bb h6
  have h7 := Mo.mo e4.bb h7
  have eC := eB.trans e4
  have ne3 : cnL (tally (ls ++ os)) ≠ [] := fun z => by
    have := wap.length_eq
    rw [List.length_append, List.length_map, List.length_map, List.length_map, z] at this
    simp only [List.length_nil] at this
    omega
  have wne : wsL (ls ++ os) ≠ [] := fun z => ne3 (List.map_eq_nil_iff.mp z)
  have tw := tab_perm wap
  have wok : ∀ u ∈ wsL (ls ++ os), u.length ≤ 3 ∧ ∀ i ∈ u, i.natAbs ≤ 8 := fun u hu => by
    obtain ⟨p, hp, rfl⟩ := List.mem_map.mp hu
    obtain ⟨r, hr, rfl⟩ := List.mem_map.mp hp
    have m := List.mem_filter.mp hr
    have l : r.2.2.length = 1 := of_decide_eq_true ((Bool.and_eq_true _ _).mp m.2).1
    have hm : r.2.2.headD [] ∈ r.2.2 := by
      cases e : r.2.2 with
      | nil => rw [e] at l; cases l
      | cons u m => exact List.mem_cons_self
    have hx := (row_mem (pos.app pos2) m.1).2.2 _ hm
    have lo : LtOk (r.1, r.2.1, r.2.2.headD []) := (List.mem_append.mp hx).elim (ok.tr.each _) (ok.tr2.each _)
    exact ⟨lo.wl, lo.ws⟩
  have wl : (wsL (ls ++ os)).length ≤ 60 := by rw [List.length_map]; exact cn_len tl
  have shw := tab_shw wne wl wok
  have ev := even_tab wne
  have tb : ∀ {p : List (Int × Wd)} {σ : L2.St} {B : Hp} {ta : TE} {E : XK}, 1 ≤ p.length → p.length ≤ 60 → De ta σ B (dat K (.tuple (p.map npD))) → De (tCall (sp_ltable K) [] E (tCons ta tNil)) σ B (dat K (.tuple ((tabL (p.map fun x : Int × Wd => x.2)).map rdD))) := fun {p _ _ _ _} a b h => De.call p (.one h) ⟨a, b⟩
  have cs : ∀ {σ : L2.St} {B : Hp} {ta : TE}, De ta σ B (tallyR K C_Form C_Tally qs (ls ++ os)) → De (tCall (fun vs H Q _ => spCountS K C_Form C_Sheets C_Tally C_Refused vs H Q fun _ _ _ => False) [] E0 (tCons ta tNil)) σ B (tabR K C_Form C_Sheets qs (tabL (wsL (ls ++ os)))) := fun {σ B ta} h B1 H s1 s2 Q q => by
    rw [← ev] at q
    exact h B1 H s1 s2 _ fun x B2 H2 e hx => ⟨x, B2, qs, ls ++ os, rfl, e.bh, hx, tl, fun _ v B' H' e' h => q v B' H' (e.trans e') h, fun n => absurd n ne3⟩
  clear hv hv1 hv2 hv3 h4 kd du tof hoL hoO
  have tabE : tabL (wsL (ls ++ os)) = (sortW (once (((cnL (tally ls)).map fun x : Int × Wd => x.2) ++ (cnL (tally os)).map fun x : Int × Wd => x.2))).map fun u => (u, Rat.divInt (cn (cnL (tally ls)) u + cn (cnL (tally os)) u) ((cnL (tally ls)).length + (cnL (tally os)).length)) := by
    rw [tw]
    unfold tabL
    refine List.map_congr_left fun u _ => ?_
    rw [cnt_app, List.length_append, List.length_map, List.length_map]
    rfl
  rw [tabE] at shw cs
  generalize cnL (tally ls) = P1 at *
  generalize cnL (tally os) = P2 at *
  have hm : (0 : Int) < P1.length + P2.length := by omega
  have hm2 : ((P1.length : Int) + P2.length) ≤ 120 := by omega
  dsimp only [tNext]
  change tSeq _ _ _ [some v, some v1, some v2, some v3, some v4, some v5, some v6, some v7, none, none, none, none, none, none, none, none] H4
  refine s_parR ?_
  refine (De.eq (De.op (De.lenT (K := K) (.var h5 rfl)) (De.lenT (.var h6 rfl)) Rv.I0) (e := .int ((P1.length : Int) + P2.length)) (by rw [List.length_map, List.length_map])) B4 H4 (Same.refl _) eC.bh _ fun x8 B5 H5 e5 h8 => ?_
  have h8 := dat_int h8
  subst h8
  refine ⟨Nat.zero_le _, fun M hM => ?_⟩
  have eD := eC.trans e5
  have h5 := Mo.mo e5.bb h5
  have h6 := Mo.mo e5.bb h6
  have h7 := Mo.mo e5.bb h7
  generalize hmE : (P1.length : Int) + P2.length = m at *
  change tSeq _ _ _ [some v, some v1, some v2, some v3, some v4, some v5, some v6, some v7, some (.int m), some (.ref M), none, none, none, none, none, none] (upd H5 M (.lst []))
  have l60 : ∀ p ∈ [P1, P2], 1 ≤ p.length ∧ p.length ≤ 60 := fun p hp => by
    rcases List.mem_cons.mp hp with rfl | hp
    · exact ⟨q1, by omega⟩
    · rw [List.mem_singleton.mp hp]
      exact ⟨q2, by omega⟩
  have sS : (sortW (once ((P1.map fun x : Int × Wd => x.2) ++ P2.map fun x : Int × Wd => x.2))).length ≤ 120 := by
    rw [(sortW_perm _).length_eq]
    refine Nat.le_trans (once_len _) ?_
    rw [List.length_append, List.length_map, List.length_map]
    omega
  have srt : ∀ {B : Hp} {x9 : Option V}, dat K (.tuple (P1.map npD)) B v5 → dat K (.tuple (P2.map npD)) B v6 → De (tCB (rSortedD K) (tCons (tCall (sp_once K) [] E0 (tCons (tLc (iTup K (tOp (rCatA K) (tVar 5) (tVar 6))) (gName 11) tYes (tOp (rIxT K) (tVar 11) (tC (.int 1))) [11]) tNil)) tNil)) [some v, some v1, some v2, some v3, some v4, some v5, some v6, some v7, some (.int m), x9, none, none, none, none, none, none] B (dat K (.list ((sortW (once ((P1.map fun x : Int × Wd => x.2) ++ P2.map fun x : Int × Wd => x.2))).map wordD))) := fun {B x9} g5 g6 =>
    De.eq (De.sorted (ds := (once ((P1.map fun x : Int × Wd => x.2) ++ P2.map fun x : Int × Wd => x.2)).map wordD) (De.once (enc := wordD) (l := (P1.map fun x : Int × Wd => x.2) ++ P2.map fun x : Int × Wd => x.2) (De.eq (De.lcA (K := K) (as := P1 ++ P2) (r := fun p => dat K (npD p)) (Di.tupM (f := npD) (De.eq (De.op (r := rCatA K) (.var g5 rfl) (.var g6 rfl) (Rv.catT (by rw [List.length_map, List.length_map]; omega))) (by rw [List.map_append]))) (fun p => wdD p.2) (by rw [List.length_append]; omega) fun p x Bn Hn hp sn sh hx => ⟨[some v, some v1, some v2, some v3, some v4, some v5, some v6, some v7, some (.int m), x9, none, some x, none, none, none, none], fun Q q => q, rfl, De.op (r := rIxT K) (.var hx rfl) .int (Rv.ixTD (ds := [.int p.1, wdD p.2]) (i := ((1 : Nat) : Int)) (atI_nat rfl))⟩) (by rw [List.map_append, List.map_append, List.map_map, List.map_map]; rfl)) (by rw [List.length_append, List.length_map, List.length_map]; omega) eqv_word lay_word fun a => Nat.le_trans (depth_word a) (by decide)) (alike_words _) (.inl fun d hd => by
      obtain ⟨a, _, rfl⟩ := List.mem_map.mp hd
      exact ⟨_, rfl⟩) fun d hd => by
      obtain ⟨a, _, rfl⟩ := List.mem_map.mp hd
      exact Nat.le_trans (depth_word a) (by decide)) (by rw [sortD_words])
  refine s_forX (B0 := B5) (H0 := H5) (Ext.newH eD.bh hM) (Di.listM (K := K) (as := sortW (once ((P1.map fun x : Int × Wd => x.2) ++ P2.map fun x : Int × Wd => x.2))) (f := wordD) (srt h5 h6)) (fun i σ B' H' => ∃ xs v10 v11 v12 v13 v14 v15, σ = [some v, some v1, some v2, some v3, some v4, some v5, some v6, some v7, some (.int m), some (.ref M), v10, v11, v12, v13, v14, v15] ∧ Hid B' H' M (.lst xs) ∧ DpAll K B' xs (((sortW (once ((P1.map fun x : Int × Wd => x.2) ++ P2.map fun x : Int × Wd => x.2))).take i).map fun u => rdD (u, Rat.divInt (cn P1 u + cn P2 u) m))) (fun B6 H6 e => ⟨[], _, _, _, _, _, _, rfl, (Hid.new eD.bh hM).ext e, .nil⟩) ?_ ?_
  · rintro B6 i R x σ' Bc Hc Bn Hn s1 hR e0 sc ⟨xs, v10, v11, v12, v13, v14, v15, rfl, mH, hx⟩ eN hu
    rw [List.getElem?_map] at hR
    obtain ⟨u, hi, rfl⟩ := Option.map_eq_some_iff.mp hR
    have hu : dat K (wordD u) Bn x := hu
    have sB := (s1.trans sc).trans eN.bb
    have h5 := Mo.mo sB h5
    have h6 := Mo.mo sB h6
    have mH := mH.ext eN
    have hx := dpMonoAll eN.bb _ _ hx
    have lx : xs.length = i := by
      have h := dpAll_len hx
      have il := (List.getElem?_eq_some_iff.mp hi).1
      rw [List.length_map, List.length_take] at h
      omega
    have il := (List.getElem?_eq_some_iff.mp hi).1
    change tSeq _ _ _ [some v, some v1, some v2, some v3, some v4, some v5, some v6, some v7, some (.int m), some (.ref M), some x, v11, v12, v13, v14, v15] Hn
    refine s_set (De.tupI (K := K) (i := 0) (j := 1) (.cons .int (.cons .int .nil))) eN.bh fun u12 B7 H7 e7 h12 => ?_
    have h12 : dat K (frD (Rat.divInt 0 m)) B7 u12 := by rw [Rat.zero_divInt]; exact h12
    have h5 := Mo.mo e7.bb h5
    have h6 := Mo.mo e7.bb h6
    have hu := Mo.mo e7.bb hu
    change tSeq _ _ _ [some v, some v1, some v2, some v3, some v4, some v5, some v6, some v7, some (.int m), some (.ref M), some x, v11, some u12, v13, v14, v15] H7
    refine s_forS (Di.listM (K := K) (as := [P1, P2]) (f := fun p : List (Int × Wd) => PyData.tuple (p.map npD)) (De.lstD (ds := [.tuple (P1.map npD), .tuple (P2.map npD)]) (.cons (.var h5 rfl) (.cons (.var h6 rfl) .nil)) (by rw [line]; show 2 ≤ _; decide))) e7.bh (fun i σ B => ∃ t v13 v14 v15, σ = [some v, some v1, some v2, some v3, some v4, some v5, some v6, some v7, some (.int m), some (.ref M), some x, v11, some t, v13, v14, v15] ∧ dat K (frD (Rat.divInt ((([P1, P2].take i).map fun p => cn p u).sum) m)) B t) (fun B' s => ⟨u12, _, _, _, rfl, Mo.mo s h12⟩) ?_ ?_
    · rintro Bb Hb eb i R y σ' Bp Bq Hq hR ⟨t, v13, v14, v15, rfl, ht⟩ s e hy
      rw [List.getElem?_map] at hR
      obtain ⟨p, hp, rfl⟩ := Option.map_eq_some_iff.mp hR
      have hy : dat K (.tuple (p.map npD)) Bq y := hy
      have mp := List.mem_of_getElem? hp
      obtain ⟨lp1, lp2⟩ := l60 p mp
      have kA : 0 ≤ (([P1, P2].take i).map fun p => cn p u).sum ∧ (([P1, P2].take i).map fun p => cn p u).sum ≤ 60 := by
        rcases i with _ | _ | i
        · exact ⟨Int.le_refl _, by show (0 : Int) ≤ 60; decide⟩
        · have := cn_le P1 u
          show 0 ≤ cn P1 u + 0 ∧ cn P1 u + 0 ≤ 60
          omega
        · simp at hp
      have sN : (([P1, P2].take (i + 1)).map fun p => cn p u).sum = (([P1, P2].take i).map fun p => cn p u).sum + cn p u := by
        rw [take_snoc hp, List.map_append, List.sum_append]
        show _ + (cn p u + 0) = _
        omega
      generalize (([P1, P2].take i).map fun p => cn p u).sum = kk at ht kA sN
      have ht := Mo.mo s ht
      have hu := Mo.mo (eb.bb.trans e.bb) hu
      have cb := cn_le p u
      have pl0 : (0 : Int) < p.length := by omega
      change tFor _ _ _ _ [some v, some v1, some v2, some v3, some v4, some v5, some v6, some v7, some (.int m), some (.ref M), some x, v11, some t, some y, v14, v15] Hq
      refine s_forE (Di.tupM (K := K) (as := tabL (p.map fun x : Int × Wd => x.2)) (f := rdD) (tb lp1 lp2 (.var hy rfl))) e.bh (fun j σ B => ∃ t v14 v15, σ = [some v, some v1, some v2, some v3, some v4, some v5, some v6, some v7, some (.int m), some (.ref M), some x, v11, some t, some y, v14, v15] ∧ dat K (frD (Rat.divInt (kk + if u ∈ (((tabL (p.map fun x : Int × Wd => x.2)).take j).map (·.1)) then cn p u else 0) m)) B t) (fun B' s => ⟨t, _, _, rfl, by
        have h := Mo.mo s ht
        rw [show kk + (if u ∈ (((tabL (p.map fun x : Int × Wd => x.2)).take 0).map (·.1)) then cn p u else 0) = kk by rw [List.take_zero, List.map_nil, if_neg List.not_mem_nil]; omega]
        exact h⟩) ?_ ?_
      · rintro Br Hr er j R z σ' Bs Bt Ht hR ⟨t, v14, v15, rfl, ht⟩ s2 e2 hz
        rw [List.getElem?_map] at hR
        obtain ⟨r, hr, rfl⟩ := Option.map_eq_some_iff.mp hR
        obtain ⟨a, b, ha, hb, go⟩ := gTup2 e2.bh (dat_pair hz)
        refine go _ ?_
        have ht := Mo.mo s2 ht
        have hu := Mo.mo (er.bb.trans e2.bb) hu
        have hy := Mo.mo (er.bb.trans e2.bb) hy
        have nd : ((tabL (p.map fun x : Int × Wd => x.2)).map (·.1)).Nodup := by rw [tab_keys]; exact (sortW_perm _).nodup_iff.mpr (nd_once _)
        have tkE : ((tabL (p.map fun x : Int × Wd => x.2)).take (j + 1)).map (·.1) = ((tabL (p.map fun x : Int × Wd => x.2)).take j).map (·.1) ++ [r.1] := by rw [take_snoc hr, List.map_append]; rfl
        have rE : r = (r.1, Rat.divInt (cn p r.1) p.length) := by
          have := List.mem_of_getElem? hr
          unfold tabL at this
          obtain ⟨w, hw, rfl⟩ := List.mem_map.mp this
          rw [List.length_map]
        have hsh : SeqAt.shaped (rowD r.1) = true := shaped_wd r.1
        change tIfS _ _ _ _ [some v, some v1, some v2, some v3, some v4, some v5, some v6, some v7, some (.int m), some (.ref M), some x, v11, some t, some y, some a, some b] Ht
        refine s_if (Dt.eq (Dt.test (K := K) (De.op (r := rEqD K) (.var ha rfl) (.var hu rfl) (Rv.eqD hsh (shaped_wd u)))) (eqv_word r.1 u)) e2.bh (fun tr Bu Hu eu => ?_) fun fl Bu Hu eu => ?_
        · have re : r.1 = u := of_decide_eq_true tr
          have nin : u ∉ ((tabL (p.map fun x : Int × Wd => x.2)).take j).map (·.1) := fun q => by
            have h := List.map_take (f := fun x : Sr => x.1) (l := tabL (p.map fun x : Int × Wd => x.2)) (i := j + 1)
            have nd2 : (((tabL (p.map fun x : Int × Wd => x.2)).take (j + 1)).map (·.1)).Nodup := by rw [List.map_take]; exact nd.sublist (List.take_sublist _ _)
            rw [tkE, List.nodup_append] at nd2
            exact nd2.2.2 u q u (by rw [re]; exact List.mem_singleton.mpr rfl) rfl
          rw [if_neg nin, Int.add_zero] at ht
          rw [rE, re] at hb
          have hb : dat K (frD (Rat.divInt (cn p u) p.length)) Bt b := hb
          have ht := Mo.mo eu.bb ht
          have hb := Mo.mo eu.bb hb
          have hy := Mo.mo eu.bb hy
          have zt : Sz 20 (Rat.divInt kk m) := sz_acc hm (by omega) kA.1 (by omega)
          have zb : Sz 20 (Rat.divInt (cn p u) p.length) := sz_acc pl0 (by omega) cb.1 (by omega)
          have add := low_add (s := Rat.divInt kk m) (p := Rat.divInt (cn p u) p.length) (l := p.length) hm
          rw [part_of pl0 hm, div_add (by omega)] at add
          have n20 : ∀ {i : Int}, i.natAbs < 2 ^ 20 → i.natAbs < 2 ^ 3000 := fun h => Nat.lt_of_lt_of_le h (Nat.pow_le_pow_right (by decide) (by decide))
          have n40 : ∀ {i j : Int}, i.natAbs < 2 ^ 20 → j.natAbs < 2 ^ 20 → (i * j).natAbs < 2 ^ 3000 := fun h h' => Nat.lt_of_lt_of_le (lt_mulI h h') (Nat.pow_le_pow_right (by decide) (by decide))
          have m20 : m.natAbs < 2 ^ 20 := by omega
          have l20 : (p.length : Int).natAbs < 2 ^ 20 := by omega
          have d1 : ((Rat.divInt kk m).den : Int).natAbs < 2 ^ 20 := by rw [Int.natAbs_natCast]; exact zt.bot
          have d2 : ((Rat.divInt (cn p u) p.length).den : Int).natAbs < 2 ^ 20 := by rw [Int.natAbs_natCast]; exact zb.bot
          have dp : (0 : Int) < ((Rat.divInt kk m).den : Int) * ((Rat.divInt (cn p u) p.length).den : Int) * m := Int.mul_pos (Int.mul_pos (den_pos _) (den_pos _)) hm
          have dl : (((Rat.divInt kk m).den : Int) * ((Rat.divInt (cn p u) p.length).den : Int) * m).natAbs < 2 ^ 4000 := Nat.lt_of_lt_of_le (lt_mulI (lt_mulI d1 d2) m20) (Nat.pow_le_pow_right (by decide) (by decide))
          refine s_setE (De.eq (De.low4 (K := K) (t := (Rat.divInt kk m).num * ((Rat.divInt (cn p u) p.length).den : Int) * m + (Rat.divInt (cn p u) p.length).num * (p.length : Int) * ((Rat.divInt kk m).den : Int)) (b := ((Rat.divInt kk m).den : Int) * ((Rat.divInt (cn p u) p.length).den : Int) * m) (De.op (De.op (De.op (De.num (.var ht rfl)) (De.den (.var hb rfl)) (Rv.I (mulOk (n20 zt.top) (n20 d2)))) (.var (Dp.int m) rfl) (Rv.I (mulOk (n40 zt.top d2) (n20 m20)))) (De.op (De.op (De.num (.var hb rfl)) (De.eq (De.lenT (ds := p.map npD) (.var hy rfl)) (e := .int (p.length : Int)) (by rw [List.length_map])) (Rv.I (mulOk (n20 zb.top) (n20 l20)))) (De.den (.var ht rfl)) (Rv.I (mulOk (n40 zb.top l20) (n20 d1)))) Rv.I0) (De.op (De.op (De.den (.var ht rfl)) (De.den (.var hb rfl)) (Rv.I (mulOk (n20 d1) (n20 d2)))) (.var (Dp.int m) rfl) (Rv.I (mulOk (n40 d1 d2) (n20 m20)))) dp dl) (congrArg frD add)) eu.bh fun v9 B9 H9 e9 h9 => ⟨B9, (e2.trans eu).trans e9, v9, _, _, rfl, ?_⟩
          rw [tkE, if_pos (List.mem_append.mpr (.inr (by rw [re]; exact List.mem_singleton.mpr rfl)))]
          exact h9
        · have re : r.1 ≠ u := of_decide_eq_false fl
          refine ⟨Bu, e2.trans eu, t, _, _, rfl, ?_⟩
          rw [tkE]
          have e : (u ∈ ((tabL (p.map fun x : Int × Wd => x.2)).take j).map (·.1) ++ [r.1]) ↔ (u ∈ ((tabL (p.map fun x : Int × Wd => x.2)).take j).map (·.1)) := by
            rw [List.mem_append, List.mem_singleton]
            exact ⟨fun q => q.elim id fun z => absurd z.symm re, .inl⟩
          rw [show (if u ∈ ((tabL (p.map fun x : Int × Wd => x.2)).take j).map (·.1) ++ [r.1] then cn p u else 0) = (if u ∈ ((tabL (p.map fun x : Int × Wd => x.2)).take j).map (·.1) then cn p u else 0) from by
            by_cases q : u ∈ ((tabL (p.map fun x : Int × Wd => x.2)).take j).map (·.1)
            · rw [if_pos (e.mpr q), if_pos q]
            · rw [if_neg fun z => q (e.mp z), if_neg q]]
          exact Mo.mo eu.bb ht
      · rintro σ' Bt Ht e2 ⟨t, v14, v15, rfl, ht⟩
        rw [List.length_map, List.take_length] at ht
        refine ⟨Bt, e.trans e2, t, _, _, _, rfl, ?_⟩
        rw [sN]
        have e : (if u ∈ (tabL (p.map fun x : Int × Wd => x.2)).map (·.1) then cn p u else 0) = cn p u := by
          by_cases h : u ∈ (tabL (p.map fun x : Int × Wd => x.2)).map (·.1)
          · rw [if_pos h]
          · rw [if_neg h, cn_zero h]
        rw [e] at ht
        exact ht
    · rintro σ' B8 H8 e8 ⟨t, v13, v14, v15, rfl, ht⟩
      have ht : dat K (frD (Rat.divInt (cn P1 u + (cn P2 u + 0)) m)) B8 t := ht
      rw [Int.add_zero] at ht
      have hu := Mo.mo e8.bb hu
      have eM := e7.trans e8
      have m8 := mH.ext eM
      have hx := dpMonoAll eM.bb _ _ hx
      change tDrop _ _ [some v, some v1, some v2, some v3, some v4, some v5, some v6, some v7, some (.int m), some (.ref M), some x, v11, some t, v13, v14, v15] H8
      refine ⟨_, rfl, .inl ⟨rfl, _, SqL.of m8.at_⟩, ?_⟩
      refine (Da.one (De.tupD (K := K) (ds := [rowD u, frD (Rat.divInt (cn P1 u + cn P2 u) m)]) (.cons (.var hu rfl) (.cons (.var ht rfl) .nil)) (by rw [line]; show 2 ≤ _; decide))) B8 H8 (Same.refl _) e8.bh _ fun vs B9 H9 e9 hvs => ?_
      obtain ⟨z, r1, rfl, hz, hr⟩ := hvs
      have hr : r1 = [] := hr
      subst hr
      have m9 := m8.ext e9
      refine ⟨M, xs, z, rfl, rfl, m9.at_, by omega, ?_⟩
      refine ⟨B9, ((e0.trans eN).trans (eM.trans e9)).setH m9 hM, (sc.trans eN.bb).trans (eM.bb.trans e9.bb), xs ++ [z], _, _, _, _, _, _, rfl, m9.set, ?_⟩
      rw [take_snoc hi, List.map_append]
      exact dpAll_app (dpMonoAll e9.bb _ _ hx) (.cons hz .nil)
  · rintro σ' B6 H6 e6 sB ⟨xs, v10, v11, v12, v13, v14, v15, rfl, mH, hx⟩
    rw [List.length_map, List.take_length] at hx
    have eO := e6.settleH mH hM (none_of eD.bh hM)
    have nw : Same B6 (upd B6 M (.lst xs)) := new_same mH.no
    have hd : dat K (.list ((sortW (once ((P1.map fun x : Int × Wd => x.2) ++ P2.map fun x : Int × Wd => x.2))).map fun u => rdD (u, Rat.divInt (cn P1 u + cn P2 u) m))) (upd B6 M (.lst xs)) (.ref M) := .lst (SqL.of upd_same) (dpMonoAll nw _ _ hx)
    have h7 := Mo.mo (sB.trans nw) h7
    exact s_ret (De.reprs (K := K) (fldSS (P := P) (w := w) (mg := mg) (base := base) (C_Form := C_Form) K_Sheets (cs (.var h7 rfl))) (De.eq (De.tupleL (.var hd rfl)) (by rw [List.map_map]; rfl)) shw) eO.bh fun v B H e h => k v B H ((eD.trans eO).trans e) h
end
end K33

set_option Elab.async false
set_option linter.all false
set_option maxRecDepth 100000
set_option maxHeartbeats 2000000
/-! K33w: the law itself. -/
namespace K33
open PySem PySem.Spec PyProof.Rows L2 Wb Wv Fm Ta Wf Fq Sb
theorem cut_from {α : Type} (xs : List α) (n : Nat) : cutA xs (some (n : Int)) none = xs.drop n := by
  unfold cutA
  rw [HT.sIx_none, HT.sIx_nat]
  rcases Nat.le_total n xs.length with h | h
  · rw [Nat.min_eq_left h]
    exact List.take_of_length_le (by rw [List.length_drop]; exact Nat.le_refl _)
  · rw [Nat.min_eq_right h, Nat.sub_self, List.take_zero, List.drop_of_length_le h]
theorem Dw_go {ta : TE} {σ : L2.St} {d c : Addr} {B : Hp} {S : Rel} {H : Hp} {Q : V → Hp → Prop} (h : Dw ta σ d c B S) (L : Dl B H d c) (k : ∀ v B1 H1, ExtD d c B H B1 H1 → S B1 v → Q v H1) : ta σ H Q := h B H (Same.refl _) L Q fun v B1 H1 e hv => k v B1 H1 e hv
theorem Dwt.notB {K : PySem.W.Frag} {σ : L2.St} {d c : Addr} {B : Hp} {te : TE} (h : Dw te σ d c B (dat K (.bool true))) : Dwt (tNot (tB te)) σ d c B false := Dwt.eq (Dwt.not (Dwt.tB h)) rfl
theorem Dwt.or2 {σ : L2.St} {d c : Addr} {B : Hp} {tt tu : TT} (h1 : Dwt tt σ d c B false) (h2 : Dwt tu σ d c B false) : Dwt (tOr tt tu) σ d c B false := Dwt.eq (Dwt.or h1 fun _ => h2) rfl
theorem fmax : ∀ (l : List Int) (m : Int), m ≤ l.foldl max m ∧ (∀ x ∈ l, x ≤ l.foldl max m) ∧ (l.foldl max m = m ∨ l.foldl max m ∈ l)
  | [], m => ⟨Int.le_refl _, fun x h => (nomatch h), .inl rfl⟩
  | a :: l, m => by
    obtain ⟨h1, h2, h3⟩ := fmax l (max m a)
    rw [List.foldl_cons]
    refine ⟨by omega, fun x hx => ?_, ?_⟩
    · rcases List.mem_cons.mp hx with rfl | hx
      · omega
      · exact h2 x hx
    · rcases h3 with h3 | h3
      · rw [h3]
        by_cases q : m ≤ a
        · right
          rw [show max m a = a by omega]
          exact List.mem_cons_self
        · left
          omega
      · exact .inr (List.mem_cons_of_mem _ h3)
abbrev topN (ls : List Lt) : Int := (nums ls).foldl max 0
theorem top_max (ls : List Lt) : ∀ k ∈ [(0 : Int)] ++ nums ls, (∀ y ∈ [(0 : Int)] ++ nums ls, y ≤ k) → k = topN ls := fun k hk hm => by
  obtain ⟨h1, h2, h3⟩ := fmax (nums ls) 0
  have a : k ≤ topN ls := by
    rcases List.mem_append.mp hk with q | q
    · rw [List.mem_singleton.mp q]; exact h1
    · exact h2 k q
  have b : topN ls ≤ k := by
    rcases h3 with q | q
    · show (nums ls).foldl max 0 ≤ k
      rw [q]
      exact hm 0 (List.mem_append.mpr (.inl (List.mem_singleton.mpr rfl)))
    · exact hm _ (List.mem_append.mpr (.inr q))
  omega
def shiftL (b : Int) (os : List Lt) : List Lt := os.map fun x => (x.1 + b, x.2)
theorem ap_ok {qs : Qs} {ls os : List Lt} (fo : FOk qs) (h1 : LsOk ls) (h2 : LsOk os) : ApOk qs ls (shiftL (1 + topN ls) os) := by
  obtain ⟨m0, m1, m2⟩ := fmax (nums ls) 0
  have lt : topN ls < 2 ^ 57 := by
    rcases m2 with q | q
    · show (nums ls).foldl max 0 < 2 ^ 57
      rw [q]; decide
    · obtain ⟨x, hx, e⟩ := List.mem_map.mp q
      have := (h1.2 x hx).2
      show (nums ls).foldl max 0 < 2 ^ 57
      rw [← e]
      exact this
  have m0 : 0 ≤ topN ls := m0
  refine ⟨⟨fo, by have := h1.1; omega, fun x hx => (h1.2 x hx).1⟩, ⟨fo, by unfold shiftL; rw [List.length_map]; have := h2.1; omega, fun x hx => ?_⟩, by have := h1.1; omega, by unfold shiftL; rw [List.length_map]; have := h2.1; omega, fun n hn hs => ?_⟩
  · obtain ⟨y, hy, rfl⟩ := List.mem_map.mp hx
    obtain ⟨lo, b⟩ := h2.2 y hy
    have y0 : 0 ≤ y.1 := lo.n0
    have y1 : y.1 < 2 ^ 57 := b
    exact ⟨by show 0 ≤ y.1 + (1 + topN ls); omega, by show y.1 + (1 + topN ls) < 2 ^ 60; omega, lo.e0, lo.eb, lo.wl, lo.ws⟩
  · obtain ⟨x, hx, e⟩ := List.mem_map.mp hs
    obtain ⟨y, hy, rfl⟩ := List.mem_map.mp hx
    have y0 : 0 ≤ y.1 := (h2.2 y hy).1.n0
    have e : y.1 + (1 + topN ls) = n := e
    have a : n ≤ topN ls := m1 n hn
    omega
def LsP (x : PyData) : Prop := ∃ ls : List Lt, x = .list (ls.map ltD) ∧ LsOk ls
section
variable {P : Program} {w : World} {K : PySem.W.Frag} {mg : Str → Option Value} {base : Heap} {C_Form C_Sheets C_Tally C_InvalidSize C_Refused C_BlankError C_InvalidSheets a_ZERO a_ONE : Addr}
theorem sc_law : FnScope ["script", "deal", "questions", "form", "turn", "letters", "others", "tally", "beyond", "letter"] ["script"] (defScope s_law) := ⟨rfl, rfl, rfl, by decide +kernel, rfl, by decide +kernel, by decide +kernel⟩
theorem ok_law (D : Def K mg "law" s_law ["script"]) (C_source : Cal P w K mg base CX0 1 "_law_source" s_source ["script"] (spSource K)) (C_lform : Cal P w K mg base CX0 5 "_law_form" s_lform ["deal", "most"] (sp_lform K)) (K_Form : CalC P w K mg base "Form" C_Form ["questions"]) (n_range : mg "range" = none) (C_lletters : Cal P w K mg base CX0 3 "_law_letters" s_lletters ["deal", "questions", "many"] (sp_lletters K)) (C_any : Cal P w K mg base CX0 1 "_law_any" s_any ["deal", "bound"] spAny) (C_tallyOf : Cal P w K mg base CX0 3 "tally_of" s_tallyOf ["form", "letters"] (sp_tallyOf K C_Form C_Tally)) (C_ltallyRight : CalG P w K mg base CX0 10 "_law_tally_right" s_ltallyRight ["form", "tally", "letters"] (sp_ltallyRight K C_Form C_Tally)) (C_lnextRight : CalG P w K mg base CX0 5 "_law_next_right" s_lnextRight ["deal", "questions", "tally", "letters"] (sp_lnextRight K C_Form C_Tally)) (C_merged : Cal P w K mg base (L2.CX P w) 4 "merged" s_merged ["one", "other"] (sp_merged K C_Form C_Tally C_InvalidSize)) (n_max : mg "max" = none) (C_lapartRight : CalG P w K mg base CX0 9 "_law_apart_right" s_lapartRight ["form", "tally", "letters", "others"] (sp_lapartRight K C_Form C_Tally)) (C_told : Cal P w K mg base CX0 9 "_law_told" s_told ["tally"] (sp_told K C_Form C_Tally)) : CalG P w K mg base CX0 11 "law" s_law ["script"] (Wb.spLaw K) := by
  refine D.okG sc_law (fun vs H Q E h => ?_) (fun cdv f A outer s H vs Q E gd hr h => ?_)
  · obtain ⟨a, ns, rfl, _⟩ := h
    rfl
  obtain ⟨a, ns, rfl, hs, few, k⟩ := h
  refine ⟨_, (pss_cons (ps_set (i := 1) sc_law.nd rfl (Or.inl rfl) (pe_cal C_source (hr.mono (by decide)) (by rfl) pass0 (pa_cons (pv 0) pa_nil)))
    (pss_cons (ps_set (i := 2) sc_law.nd rfl (Or.inl rfl) (pe_cal C_lform (hr.mono (by decide)) (by rfl) pass0 (pa_cons (pv 1) (pa_cons pe_int pa_nil))))
    (pss_cons (ps_set (i := 3) sc_law.nd rfl (Or.inl rfl) (pe_calC K_Form hr (by decide) (by rfl) (pa_cons (pv 2) pa_nil)))
    (pss_cons (ps_for PassesOwn.leaving rfl (pi_range1 rfl n_range (pa_cons pe_int pa_nil)) (pg_name (i := 4) sc_law.nd rfl (Or.inl rfl)) (pss_cons (ps_par (i := 5) (j := 6) rfl sc_law.nd rfl rfl (by decide) rfl rfl (pa_cons (pe_cal C_lletters (hr.mono (by decide)) (by rfl) pass0 (pa_cons (pv 1) (pa_cons (pv 2) (pa_cons (pe_cal C_any (hr.mono (by decide)) (by rfl) pass0 (pa_cons (pv 1) (pa_cons pe_int pa_nil))) pa_nil)))) (pa_cons (pe_cal C_lletters (hr.mono (by decide)) (by rfl) pass0 (pa_cons (pv 1) (pa_cons (pv 2) (pa_cons (pe_cal C_any (hr.mono (by decide)) (by rfl) pass0 (pa_cons (pv 1) (pa_cons pe_int pa_nil))) pa_nil)))) pa_nil)) (by rfl))
      (pss_cons (ps_set (i := 7) sc_law.nd rfl (Or.inl rfl) (pe_cal C_tallyOf (hr.mono (by decide)) (by rfl) pass0 (pa_cons (pv 3) (pa_cons (pv 5) pa_nil))))
      (pss_cons (ps_if (PW.pt (pw_or (pt_not (pt_val (pe_calG C_ltallyRight gd (hr.mono (by decide)) (by rfl) pass0 (pa_cons (pv 3) (pa_cons (pv 7) (pa_cons (pv 5) pa_nil)))))) (pw_or1 (pt_not (pt_val (pe_calG C_lnextRight gd (hr.mono (by decide)) (by rfl) pass0 (pa_cons (pv 1) (pa_cons (pv 2) (pa_cons (pv 7) (pa_cons (pv 5) pa_nil)))))))))) (pss_one (ps_ret pe_bl)) pss_nil)
      (pss_cons (ps_if (pt_not (pt_val (pe_calG C_ltallyRight gd (hr.mono (by decide)) (by rfl) pass0 (pa_cons (pv 3) (pa_cons (pe_cal C_merged.quiet (hr.mono (by decide)) (by rfl) pass0 (pa_cons (pv 7) (pa_cons (pe_cal C_tallyOf (hr.mono (by decide)) (by rfl) pass0 (pa_cons (pv 3) (pa_cons (pv 6) pa_nil))) pa_nil))) (pa_cons (pe_op op_catS (pv 5) (pv 6)) pa_nil)))))) (pss_one (ps_ret pe_bl)) pss_nil)
      (pss_cons (ps_set (i := 8) sc_law.nd rfl (Or.inr rfl) (pe_op op_add pe_int (pe_callB (cr_max rfl) (by rfl) n_max (by decide +kernel) (pa_cons (pe_op op_catS (pe_lst (pa_cons pe_int pa_nil)) (pe_lc (own := [("letter", 9)]) (g := gName 9) (tt := tYes) rfl sc_law.nd (pi_list (pv 5)) (blkOk_by (own := [("letter", 9)]) (N := ["script", "deal", "questions", "form", "turn", "letters", "others", "tally", "beyond", "letter"]) (sc := defScope s_law) (by decide +kernel)) (fun _ _ _ _ _ => (pg_name (i := 9) sc_law.nd rfl (Or.inl rfl))) (fun _ _ _ _ _ => pts_nil) (fun _ _ _ _ _ => (pe_ix (r := rIxT K) ix_tup (pv 9) pe_int (fun _ _ => rfl))))) pa_nil))))
      (pss_one (ps_if (pt_not (pt_val (pe_calG C_lapartRight gd (hr.mono (by decide)) (by rfl) pass0 (pa_cons (pv 3) (pa_cons (pv 7) (pa_cons (pv 5) (pa_cons (pe_lc (own := [("letter", 9)]) (g := gName 9) (tt := tYes) rfl sc_law.nd (pi_list (pv 6)) (blkOk_by (own := [("letter", 9)]) (N := ["script", "deal", "questions", "form", "turn", "letters", "others", "tally", "beyond", "letter"]) (sc := defScope s_law) (by decide +kernel)) (fun _ _ _ _ _ => (pg_name (i := 9) sc_law.nd rfl (Or.inl rfl))) (fun _ _ _ _ _ => pts_nil) (fun _ _ _ _ _ => (pe_op (r := rCatA K) op_catA (pe_tup (pa_cons (pe_op op_add (pe_ix (r := rIxT K) ix_tup (pv 9) pe_int (fun _ _ => rfl)) (pv 8)) pa_nil)) (pe_slice (r := rSlA K) sl_tupA (pv 9) (po_some pe_int) po_none)))) pa_nil))))))) (pss_one (ps_ret pe_bl)) pss_nil))))))))
    (pss_one (ps_ret (pe_and (pe_cmpR (op_eqD hr.units) (pe_cal C_told (hr.mono (by decide)) (by rfl) pass0 (pa_cons (pe_cal C_tallyOf (hr.mono (by decide)) (by rfl) pass0 (pa_cons (pv 3) (pa_cons (pe_tup pa_nil) pa_nil))) pa_nil)) pe_str (nomark _)) (pe_one (pe_cmpR (op_eqD hr.units) (pe_cal C_told (hr.mono (by decide)) (by rfl) pass0 (pa_cons (pe_cal C_tallyOf (hr.mono (by decide)) (by rfl) pass0 (pa_cons (pv 3) (pa_cons (pe_lst (pa_cons (pe_tup (pa_cons pe_int (pa_cons pe_int (pa_cons (pe_tup pa_nil) pa_nil)))) pa_nil)) pa_nil))) pa_nil)) pe_str (nomark _)))))))))), ?_⟩
  have line := sizeLine_eq
  refine ⟨_, rfl, a, ns, rfl, hs, few, fun d c H1 _ _ D1 _ => ?_⟩
  clear hs few
  have L : Dl (off H1 d c) H1 d c := ⟨D1, Same.refl _⟩
  generalize off H1 d c = B1 at L
  refine s_w L (Dw.def1 () rfl (.one .int) trivial) fun u2 B2 H2 e2 h2 => ?_
  obtain ⟨_, ⟨ds, rfl, qs, rfl, fo⟩, h2⟩ := h2
  have h2 : dat K (qsD qs) B2 u2 := h2
  refine s_set (De.make (fs := ["questions"]) (Rs := [dat K (qsD qs)]) (.cons (.var h2 rfl) .nil) (by rfl)) e2.bh fun u3 B3 H3 e3 h3 => ?_
  have h3 : formR K C_Form qs B3 u3 := h3
  have eD3 := e2.trans L (.of e2.dl e3)
  have h2 := Mo.mo e3.bb h2
  have tof : ∀ {xs : List Lt} {σ : L2.St} {B : Hp} {ta tb : TE} {E : XK} (ty : Bool), xs.length ≤ 60 → Pos xs → De ta σ B (formR K C_Form qs) → De tb σ B (dat K (sqD ty (xs.map ltD))) → De (tCall (sp_tallyOf K C_Form C_Tally) [] E (tCons ta (tCons tb tNil))) σ B (tallyR K C_Form C_Tally qs xs) := fun {xs _ _ _ _ _} ty l p a b => De.call (qs, ty, xs) (.cons a (.one b)) ⟨l, p⟩
  change tSeq _ _ _ [some (.ref a), some (.ref d), some u2, some u3, none, none, none, none, none, none] H3
  refine s_forD L eD3 (Di.rng (K := K) (n := 2) .int (by decide)) (fun i σ B H => ∃ v4 v5 v6 v7 v8 v9, σ = [some (.ref a), some (.ref d), some u2, some u3, v4, v5, v6, v7, v8, v9]) (fun B H e => ⟨_, _, _, _, _, _, rfl⟩) ?_ ?_
  · rintro B4 i R x σ' Bc Hc Bn Hn s4 hR eB sB ⟨v4, v5, v6, v7, v8, v9, rfl⟩ eN hx
    have eD := eB.trans L eN
    clear hx
    have sN := (s4.trans sB).trans eN.bb
    have h2 := Mo.mo sN h2
    have h3 := Mo.mo sN h3
    change tSeq _ _ _ [some (.ref a), some (.ref d), some u2, some u3, some x, v5, v6, v7, v8, v9] Hn
    have lt : ∀ {σ : L2.St} {B : Hp} {E : XK} {n : Int}, σ[1]? = some (some (.ref d)) → σ[2]? = some (some u2) → dat K (qsD qs) B u2 → 0 < n → n ≤ 11 → Dw (tCall (sp_lletters K) [] E (tCons (tVar 1) (tCons (tVar 2) (tCons (tCall spAny [] E0 (tCons (tVar 1) (tCons (tC (.int n)) tNil))) tNil)))) σ d c B (datP K LsP) := fun {σ B E n} hd h2' hq n0 n1 =>
      Dw.def (S := datP K LsP) (args := fun a : Qs × Int => [dat K (qsD a.1), dat K (.int a.2)]) (pre := fun a => FOk a.1 ∧ 0 ≤ a.2 ∧ a.2 ≤ 10) (res := fun _ => datP K fun x => ∃ ls, x = .list (ls.map ltD) ∧ LsOk ls) hd (.cons (.of (.var hq h2')) (.one (Dw.any (K := K) hd .int n0 (by omega)))) fun B vs hvs => by
        obtain ⟨y, r1, rfl, hy, z, r2, rfl, ⟨r, ⟨r0, r1⟩, rfl⟩, hr⟩ := hvs
        have hr : r2 = [] := hr
        subst hr
        exact ⟨(qs, r), ⟨y, _, rfl, hy, _, _, rfl, Dp.int _, rfl⟩, ⟨fo, r0, by show r ≤ 10; omega⟩, fun B v hv => hv⟩
    refine s_parR ?_
    refine Dw_go (B := Bn) (S := datP K LsP) (lt rfl rfl h2 (by decide) (by decide)) eD.dl fun u5 B5 H5 e5 h5 => ?_
    refine Dw_go (B := B5) (S := datP K LsP) (lt rfl rfl (Mo.mo e5.bb h2) (by decide) (by decide)) e5.dl fun u6 B6 H6 e6 h6 => ?_
    obtain ⟨_, ⟨ls, rfl, lo⟩, h5⟩ := h5
    obtain ⟨_, ⟨os, rfl, oo⟩, h6⟩ := h6
    have e56 := e5.trans eD.dl e6
    have eE := eD.trans L e56
    have h2 := Mo.mo e56.bb h2
    have h3 := Mo.mo e56.bb h3
    have h5 := Mo.mo e6.bb h5
    have l10 := lo.1
    have o10 := oo.1
    have tr : TrOk qs ls := ⟨fo, by omega, fun x hx => (lo.2 x hx).1⟩
    have tr2 : TrOk qs os := ⟨fo, by omega, fun x hx => (oo.2 x hx).1⟩
    have tr3 : TrOk qs (ls ++ os) := ⟨fo, by rw [List.length_append]; omega, fun x hx => (List.mem_append.mp hx).elim (tr.each x) (tr2.each x)⟩
    have hoL : HOk ls := hok (fun l h => h) (by omega) tr.each
    have hoO : HOk os := hok (fun l h => h) (by omega) tr2.each
    change tSeq _ _ _ [some (.ref a), some (.ref d), some u2, some u3, some x, some u5, some u6, v7, v8, v9] H6
    refine s_set (tof true (by omega) tr.pos (.var h3 rfl) (.var h5 rfl)) eE.bh fun u7 B7 H7 e7 h7 => ?_
    have eF := eE.trans L (.of eE.dl e7)
    have h2 := Mo.mo e7.bb h2
    have h3 := Mo.mo e7.bb h3
    have h5 := Mo.mo e7.bb h5
    have h6 := Mo.mo e7.bb h6
    change tSeq _ _ _ [some (.ref a), some (.ref d), some u2, some u3, some x, some u5, some u6, some u7, v8, v9] H7
    have trR : ∀ {xs : List Lt} {σ : L2.St} {B : Hp} {ta tb tc : TE} {E : XK}, TrOk qs xs → De ta σ B (formR K C_Form qs) → De tb σ B (tallyR K C_Form C_Tally qs xs) → De tc σ B (dat K (.list (xs.map ltD))) → De (tCall (sp_ltallyRight K C_Form C_Tally) [] E (tCons ta (tCons tb (tCons tc tNil)))) σ B (dat K (.bool true)) := fun {xs _ _ _ _ _ _} o a b c => De.call (qs, xs) (.cons a (.cons b (.one c))) o
    refine s_skipW eF.dl (Dwt.or2 (Dwt.notB (K := K) (Dw.of (trR tr (.var h3 rfl) (.var h7 rfl) (.var h5 rfl)))) (Dwt.notB (K := K) (Dw.def1 (args := fun a : Qs × List Lt => [dat K (qsD a.1), tallyR K C_Form C_Tally a.1 a.2, dat K (.list (a.2.map ltD))]) (res := fun _ => dat K (.bool true)) (qs, ls) rfl (.cons (.var h2 rfl) (.cons (.var h7 rfl) (.one (.var h5 rfl)))) ⟨tr, by show ls.length ≤ 25; omega⟩))) fun B8 H8 e8 => ?_
    have eG := eF.trans L e8
    have h3 := Mo.mo e8.bb h3
    have h5 := Mo.mo e8.bb h5
    have h6 := Mo.mo e8.bb h6
    have h7 := Mo.mo e8.bb h7
    refine s_skip (Dt.eq (Dt.not (Dt.tB (K := K) (trR tr3 (.var h3 rfl) (De.merged (CS := C_InvalidSize) fo (.var h7 rfl) (tof true (by omega) tr2.pos (.var h3 rfl) (.var h6 rfl)) hoL hoO) (De.eq (De.op (r := rCatS K) (.var h5 rfl) (.var h6 rfl) (Rv.catS (by rw [List.length_map, List.length_map]; omega))) (by rw [List.map_append]))))) rfl) eG.bh fun B9 H9 e9 => ?_
    have eH := eG.trans L (.of eG.dl e9)
    have h3 := Mo.mo e9.bb h3
    have h5 := Mo.mo e9.bb h5
    have h6 := Mo.mo e9.bb h6
    have h7 := Mo.mo e9.bb h7
    refine s_set (De.op .int (De.cb (.one (De.eq (De.op (r := rCatS K) (De.lstD (ds := [.int 0]) (.cons .int .nil) (by rw [line]; show 1 ≤ _; decide)) (De.lcA (K := K) (as := ls) (r := fun x => dat K (ltD x)) (Di.listM (f := ltD) (.var h5 rfl)) (fun x => .int x.1) (by omega) fun y z Bk Hk hy sk shk hz => ⟨[some (.ref a), some (.ref d), some u2, some u3, some x, some u5, some u6, some u7, v8, some z], fun Q q => q, rfl, De.op (r := rIxT K) (.var hz rfl) .int (Rv.ixTD (ds := [.int y.1, .int y.2.1, wdD y.2.2]) (i := ((0 : Nat) : Int)) (atI_nat rfl))⟩) (Rv.catS (by rw [List.length_map]; show 1 + _ ≤ _; omega))) (e := .list (([(0 : Int)] ++ nums ls).map .int)) (by unfold nums; rw [List.map_append, List.map_map]; rfl))) (rc_max (by simp) (top_max ls))) Rv.I0) eH.bh fun u8 B10 H10 e10 h8 => ?_
    have h8 : dat K (.int (1 + topN ls)) B10 u8 := h8
    have eI := eH.trans L (.of eH.dl e10)
    have h3 := Mo.mo e10.bb h3
    have h5 := Mo.mo e10.bb h5
    have h6 := Mo.mo e10.bb h6
    have h7 := Mo.mo e10.bb h7
    change tIfS _ _ _ _ [some (.ref a), some (.ref d), some u2, some u3, some x, some u5, some u6, some u7, some u8, v9] H10
    have apR : ∀ {xs : List Lt} {σ : L2.St} {B : Hp} {ta tb tc td : TE} {E : XK}, ApOk qs ls xs → De ta σ B (formR K C_Form qs) → De tb σ B (tallyR K C_Form C_Tally qs ls) → De tc σ B (dat K (.list (ls.map ltD))) → De td σ B (dat K (.list (xs.map ltD))) → De (tCall (sp_lapartRight K C_Form C_Tally) [] E (tCons ta (tCons tb (tCons tc (tCons td tNil))))) σ B (dat K (.bool true)) := fun {xs _ _ _ _ _ _ _} o a b c d => De.call (qs, ls, xs) (.cons a (.cons b (.cons c (.one d)))) o
    refine s_if (Dt.eq (Dt.not (Dt.tB (K := K) (apR (ap_ok fo lo oo) (.var h3 rfl) (.var h7 rfl) (.var h5 rfl) (De.eq (De.lcA (K := K) (as := os) (r := fun x => dat K (ltD x)) (Di.listM (f := ltD) (.var h6 rfl)) (fun x => ltD (x.1 + (1 + topN ls), x.2)) (by omega) fun y z Bk Hk hy sk shk hz => ⟨[some (.ref a), some (.ref d), some u2, some u3, some x, some u5, some u6, some u7, some u8, some z], fun Q q => q, rfl, ?_⟩) (by unfold shiftL; rw [List.map_map]; rfl))))) rfl) eI.bh (fun z => nomatch z) fun _ Bf Hf ef => ?_
    · have c1 : cutA [PyData.int y.1, .int y.2.1, wdD y.2.2] (some (1 : Int)) none = [.int y.2.1, wdD y.2.2] := cut_from _ 1
      exact De.eq (De.op (r := rCatA K) (De.tupD (ds := [.int (y.1 + (1 + topN ls))]) (.cons (De.op (De.op (r := rIxT K) (.var hz rfl) .int (Rv.ixTD (ds := [.int y.1, .int y.2.1, wdD y.2.2]) (i := ((0 : Nat) : Int)) (atI_nat rfl))) (.var (Mo.mo sk h8) rfl) Rv.I0) .nil) (by rw [line]; show 1 ≤ _; decide)) (De.eq (De.slT (ds := [.int y.1, .int y.2.1, wdD y.2.2]) (.var hz rfl) (Do.some (K := K) .int) .none) (congrArg PyData.tuple c1)) (Rv.catT (by rw [line]; show 1 + 2 ≤ _; decide))) rfl
    · exact ⟨Bf, eI.trans L (.of eI.dl ef), (((((sB.trans eN.bb).trans e56.bb).trans e7.bb).trans e8.bb).trans e9.bb).trans (e10.bb.trans ef.bb), _, _, _, _, _, _, rfl⟩
  · rintro σ' B4 H4 e4 s4 ⟨v4, v5, v6, v7, v8, v9, rfl⟩
    have h3 := Mo.mo s4 h3
    have tld : ∀ {xs : List Lt} {σ : L2.St} {B : Hp} {ta : TE} {E : XK}, TlOk xs → cnL (tally xs) = [] → De ta σ B (tallyR K C_Form C_Tally qs xs) → De (tCall (sp_told K C_Form C_Tally) [] E (tCons ta tNil)) σ B (dat K (.str "none")) := fun {xs _ _ _ _} t z h => De.call (qs, xs) (.cons h .nil) ⟨t, z⟩
    have nn : Nmk 20 ("none" : Str) := ⟨by decide +kernel, by decide +kernel⟩
    have t1 : cnL (tally []) = [] := by decide +kernel
    have t2 : cnL (tally [(3, 1, [])]) = [] := by decide +kernel
    have l1 : TlOk [] := Nat.le_trans (tally_len _) (by decide)
    have l2 : TlOk [(3, 1, [])] := Nat.le_trans (tally_len _) (by decide)
    have p2 : Pos [((3, 1, []) : Lt)] := fun x hx => by rw [List.mem_singleton.mp hx]; decide
    have none1 : PyData.eqv (.str "none") (.str "none") = true := by simp [PyData.eqv]
    refine s_ret (De.eq (De.andV (a := true) (b := true) (De.eq (De.op (r := rEqD K) (tld l1 t1 (tof false (by decide) (fun x hx => nomatch hx) (.var h3 rfl) (De.tupD (ds := []) .nil (by rw [line]; show 0 ≤ _; decide)))) .str (Rv.eqD (shaped_str nn) (shaped_str nn))) (congrArg PyData.bool none1)) fun _ => De.eq (De.op (r := rEqD K) (tld l2 t2 (tof true (by decide) p2 (.var h3 rfl) (De.lstD (ds := [.tuple [.int 3, .int 1, .tuple []]]) (.cons (De.tupD (ds := [.int 3, .int 1, .tuple []]) (.cons .int (.cons .int (.cons (De.tupD (ds := []) .nil (by rw [line]; show 0 ≤ _; decide)) .nil))) (by rw [line]; show 3 ≤ _; decide)) .nil) (by rw [line]; show 1 ≤ _; decide)))) .str (Rv.eqD (shaped_str nn) (shaped_str nn))) (congrArg PyData.bool none1)) rfl) e4.bh fun v B H e h => ?_
    have h := dat_bl h
    subst h
    exact k _
end
end K33

set_option Elab.async false
set_option linter.all false
set_option maxRecDepth 100000
set_option maxHeartbeats 4000000
namespace K33
open PySem PySem.Spec PyProof.Rows L2 Wb Wv Fm Ta Wf Fq Sb
theorem ini_InvalidSheets {P : Program} {w : World} {K : PySem.W.Frag} {mg : Str → Option Value} {base : Heap} {C fI : Addr} {fd : FuncData} (F : Fun K "__init__" "InvalidSheets.__init__" (inClass (topS 3) 0) fI fd) (T : ErrC K C) (no : PySem.W.findIn K (.ref C) "at" = some none) : FnOk P w K mg base CX0 1 fI fd ["self", "at"] (spIni C "at") := by
  refine F.ok (N := ["self", "at"]) ⟨rfl, rfl, rfl, by decide +kernel, rfl, by decide +kernel, by decide +kernel⟩ (fun vs H Q E h => ?_) (fun cdv A outer s H vs Q E hr h => ?_)
  · obtain ⟨a, v, rfl, _⟩ := h
    rfl
  · obtain ⟨a, v, rfl, ha, q⟩ := h
    refine ⟨_, pss_one (ps_ini (pv 0) (pv 1)), ?_⟩
    exact ⟨_, rfl, _, rfl, a, C, rfl, T, no, ha, q⟩
theorem ini_InvalidSize {P : Program} {w : World} {K : PySem.W.Frag} {mg : Str → Option Value} {base : Heap} {C fI : Addr} {fd : FuncData} (F : Fun K "__init__" "InvalidSize.__init__" (inClass (topS 4) 0) fI fd) (T : ErrC K C) (no : PySem.W.findIn K (.ref C) "word" = some none) : FnOk P w K mg base CX0 1 fI fd ["self", "word"] (spIni C "word") := by
  refine F.ok (N := ["self", "word"]) ⟨rfl, rfl, rfl, by decide +kernel, rfl, by decide +kernel, by decide +kernel⟩ (fun vs H Q E h => ?_) (fun cdv A outer s H vs Q E hr h => ?_)
  · obtain ⟨a, v, rfl, _⟩ := h
    rfl
  · obtain ⟨a, v, rfl, ha, q⟩ := h
    refine ⟨_, pss_one (ps_ini (pv 0) (pv 1)), ?_⟩
    exact ⟨_, rfl, _, rfl, a, C, rfl, T, no, ha, q⟩
theorem ini_Refused {P : Program} {w : World} {K : PySem.W.Frag} {mg : Str → Option Value} {base : Heap} {C fI : Addr} {fd : FuncData} (F : Fun K "__init__" "Refused.__init__" (inClass (topS 5) 0) fI fd) (T : ErrC K C) (no : PySem.W.findIn K (.ref C) "word" = some none) : FnOk P w K mg base CX0 1 fI fd ["self", "word"] (spIni C "word") := by
  refine F.ok (N := ["self", "word"]) ⟨rfl, rfl, rfl, by decide +kernel, rfl, by decide +kernel, by decide +kernel⟩ (fun vs H Q E h => ?_) (fun cdv A outer s H vs Q E hr h => ?_)
  · obtain ⟨a, v, rfl, _⟩ := h
    rfl
  · obtain ⟨a, v, rfl, ha, q⟩ := h
    refine ⟨_, pss_one (ps_ini (pv 0) (pv 1)), ?_⟩
    exact ⟨_, rfl, _, rfl, a, C, rfl, T, no, ha, q⟩
theorem inic_Form {P : Program} {w : World} {K : PySem.W.Frag} {mg : Str → Option Value} {base : Heap} {C fI : Addr} {fd : FuncData} (F : Fun K "__init__" "Form.__init__" (inClass (topS 7) 0) fI fd) (c : Cls K C) (na0 : NoAttr K C "questions") : FnOk P w K mg base CX0 1 fI fd ["self", "questions"] (spIns C ["questions"]) := by
  refine F.ok (N := ["self", "questions"]) ⟨rfl, rfl, rfl, by decide +kernel, rfl, by decide +kernel, by decide +kernel⟩ (fun vs H Q E h => ?_) (fun cdv A outer s H vs Q E hr h => ?_)
  · obtain ⟨x, dx, us, rfl, hl, _⟩ := h
    rw [List.length_cons, hl]
    rfl
  · obtain ⟨x, dx, us, rfl, hl, ha, q⟩ := h
    match us, hl with
    | [u0], _ =>
      refine ⟨_, (pss_one (ps_fld (pv 0) (pv 1) (by rfl))), ?_⟩
      refine ⟨_, rfl, _, rfl, x, C, dx, _, rfl, ha, c, na0, by simp [putF], q⟩
theorem inic_Sheets {P : Program} {w : World} {K : PySem.W.Frag} {mg : Str → Option Value} {base : Heap} {C fI : Addr} {fd : FuncData} (F : Fun K "__init__" "Sheets.__init__" (inClass (topS 15) 0) fI fd) (c : Cls K C) (na0 : NoAttr K C "form") (na1 : NoAttr K C "shares") : FnOk P w K mg base CX0 1 fI fd ["self", "form", "shares"] (spIns C ["form", "shares"]) := by
  refine F.ok (N := ["self", "form", "shares"]) ⟨rfl, rfl, rfl, by decide +kernel, rfl, by decide +kernel, by decide +kernel⟩ (fun vs H Q E h => ?_) (fun cdv A outer s H vs Q E hr h => ?_)
  · obtain ⟨x, dx, us, rfl, hl, _⟩ := h
    rw [List.length_cons, hl]
    rfl
  · obtain ⟨x, dx, us, rfl, hl, ha, q⟩ := h
    match us, hl with
    | [u0, u1], _ =>
      refine ⟨_, (pss_cons (ps_fld (pv 0) (pv 1) (by rfl)) (pss_one (ps_fld (pv 0) (pv 2) (by rfl)))), ?_⟩
      refine ⟨_, rfl, _, rfl, x, C, dx, _, rfl, ha, c, na0, by simp [putF], ⟨_, rfl, _, rfl, x, C, dx, _, rfl, upd_same, c, na1, by simp [putF], (by show Q V.non (upd (upd H x _) x _); rw [upd_upd]; exact q)⟩⟩
theorem inic_Tally {P : Program} {w : World} {K : PySem.W.Frag} {mg : Str → Option Value} {base : Heap} {C fI : Addr} {fd : FuncData} (F : Fun K "__init__" "Tally.__init__" (inClass (topS 25) 0) fI fd) (c : Cls K C) (na0 : NoAttr K C "form") (na1 : NoAttr K C "rows") : FnOk P w K mg base CX0 1 fI fd ["self", "form", "rows"] (spIns C ["form", "rows"]) := by
  refine F.ok (N := ["self", "form", "rows"]) ⟨rfl, rfl, rfl, by decide +kernel, rfl, by decide +kernel, by decide +kernel⟩ (fun vs H Q E h => ?_) (fun cdv A outer s H vs Q E hr h => ?_)
  · obtain ⟨x, dx, us, rfl, hl, _⟩ := h
    rw [List.length_cons, hl]
    rfl
  · obtain ⟨x, dx, us, rfl, hl, ha, q⟩ := h
    match us, hl with
    | [u0, u1], _ =>
      refine ⟨_, (pss_cons (ps_fld (pv 0) (pv 1) (by rfl)) (pss_one (ps_fld (pv 0) (pv 2) (by rfl)))), ?_⟩
      refine ⟨_, rfl, _, rfl, x, C, dx, _, rfl, ha, c, na0, by simp [putF], ⟨_, rfl, _, rfl, x, C, dx, _, rfl, upd_same, c, na1, by simp [putF], (by show Q V.non (upd (upd H x _) x _); rw [upd_upd]; exact q)⟩⟩
end K33
namespace K33
open PySem PySem.Spec PyProof.Rows L2 Wb Wv Fm Ta Wf Fq
set_option maxHeartbeats 4000000 in
theorem all_mk {l : PySem.W.OpenLaw} {w : World} {K : PySem.W.Frag} {h : Heap} {mg : Str → Option Value} {fa C_BlankError C_InvalidSheets C_InvalidSize C_Refused f_InvalidSheets f_InvalidSize f_Refused C_Form f_Form q_Form C_Sheets f_Sheets C_Tally f_Tally g_fraction g_totalOf g_addedUp g_gatheredSheets g_evenSheets g_doubts g_gone g_counted g_nextLetter g_sheetsCounted g_lettersOf g_tallyOf g_heard g_merged g_source g_any g_of g_lname g_lnames g_lcommon g_llow g_lform g_lrows g_lletters g_due g_once g_lkinds g_ltable g_told g_ltallyRight g_lnextRight g_lapartRight g_law a_ZERO a_ONE : Addr} {od_ZERO : Option Addr} {its_ZERO : Array Value} {n_ZERO : Nat} {sl_ZERO : Array (Option Value)} {od_ONE : Option Addr} {its_ONE : Array Value} {n_ONE : Nat} {sl_ONE : Array (Option Value)}
    (X : K.In h) (G : h.Ns mainGlobals mg) (hfa : mg "law" = some (.ref fa))
    (aC_BlankError : PySem.W.nsIn K mainGlobals "BlankError" = some (some (.ref C_BlankError)))
    (aC_InvalidSheets : PySem.W.nsIn K mainGlobals "InvalidSheets" = some (some (.ref C_InvalidSheets)))
    (aC_InvalidSize : PySem.W.nsIn K mainGlobals "InvalidSize" = some (some (.ref C_InvalidSize)))
    (aC_Refused : PySem.W.nsIn K mainGlobals "Refused" = some (some (.ref C_Refused)))
    (hn : PySem.W.specialIn K (.builtin "object.__class__") "__get__" = some (some (.builtin "getset_descriptor.__get__")))
    (ht : PySem.W.takesIn K (.builtin "object.__class__") = some true)
    (e_BlankError : EF K C_BlankError topB "Exception.__new__")
    (e_InvalidSheets : EF K C_InvalidSheets (topE C_BlankError) "Exception.__new__")
    (a_InvalidSheets : PySem.W.findIn K (.ref C_InvalidSheets) "__init__" = some (some (.ref f_InvalidSheets)))
    (t_InvalidSheets : PySem.W.typeIn K (.ref f_InvalidSheets) = some (.type "function"))
    (no_InvalidSheets : PySem.W.findIn K (.ref C_InvalidSheets) "at" = some none)
    (l_InvalidSheets : FnF K "__init__" "InvalidSheets.__init__" (inClass (topS 3) 0) f_InvalidSheets)
    (e_InvalidSize : EF K C_InvalidSize (topE C_BlankError) "Exception.__new__")
    (a_InvalidSize : PySem.W.findIn K (.ref C_InvalidSize) "__init__" = some (some (.ref f_InvalidSize)))
    (t_InvalidSize : PySem.W.typeIn K (.ref f_InvalidSize) = some (.type "function"))
    (no_InvalidSize : PySem.W.findIn K (.ref C_InvalidSize) "word" = some none)
    (l_InvalidSize : FnF K "__init__" "InvalidSize.__init__" (inClass (topS 4) 0) f_InvalidSize)
    (e_Refused : EF K C_Refused (topE C_BlankError) "Exception.__new__")
    (a_Refused : PySem.W.findIn K (.ref C_Refused) "__init__" = some (some (.ref f_Refused)))
    (t_Refused : PySem.W.typeIn K (.ref f_Refused) = some (.type "function"))
    (no_Refused : PySem.W.findIn K (.ref C_Refused) "word" = some none)
    (l_Refused : FnF K "__init__" "Refused.__init__" (inClass (topS 5) 0) f_Refused)
    (aC_Form : PySem.W.nsIn K mainGlobals "Form" = some (some (.ref C_Form)))
    (pg_Form : PySem.W.plainGet K C_Form Str.empty = true)
    (hd_Form : PySem.W.hasDictIn K C_Form = true)
    (po_Form : PySem.W.plainOver K C_Form = true)
    (sa_Form : PySem.W.findIn K (.ref C_Form) "__setattr__" = some (some (.builtin "object.__setattr__")))
    (mk_Form : PySem.W.makesIn K C_Form = true)
    (kc_Form : PySem.W.keepIn K (.ref C_Form) = true)
    (a_Form : PySem.W.findIn K (.ref C_Form) "__init__" = some (some (.ref f_Form)))
    (fn_Form : PySem.W.isFn K (.ref f_Form) = true)
    (na0_Form : PySem.W.findIn K (.ref C_Form) "questions" = some none)
    (l_Form : FnF K "__init__" "Form.__init__" (inClass (topS 7) 0) f_Form)
    (eqa_Form : PySem.W.findIn K (.ref C_Form) "__eq__" = some (some (.ref q_Form)))
    (eqf_Form : PySem.W.isFn K (.ref q_Form) = true)
    (nea_Form : PySem.W.findIn K (.ref C_Form) "__ne__" = some (some (.builtin "object.__ne__")))
    (ca_Form : PySem.W.findIn K (.ref C_Form) "__class__" = some (some (.builtin "object.__class__")))
    (lq_Form : FnF K "__eq__" "Form.__eq__" (inClass (topS 7) 1) q_Form)
    (aC_Sheets : PySem.W.nsIn K mainGlobals "Sheets" = some (some (.ref C_Sheets)))
    (pg_Sheets : PySem.W.plainGet K C_Sheets Str.empty = true)
    (hd_Sheets : PySem.W.hasDictIn K C_Sheets = true)
    (po_Sheets : PySem.W.plainOver K C_Sheets = true)
    (sa_Sheets : PySem.W.findIn K (.ref C_Sheets) "__setattr__" = some (some (.builtin "object.__setattr__")))
    (mk_Sheets : PySem.W.makesIn K C_Sheets = true)
    (kc_Sheets : PySem.W.keepIn K (.ref C_Sheets) = true)
    (a_Sheets : PySem.W.findIn K (.ref C_Sheets) "__init__" = some (some (.ref f_Sheets)))
    (fn_Sheets : PySem.W.isFn K (.ref f_Sheets) = true)
    (na0_Sheets : PySem.W.findIn K (.ref C_Sheets) "form" = some none)
    (na1_Sheets : PySem.W.findIn K (.ref C_Sheets) "shares" = some none)
    (l_Sheets : FnF K "__init__" "Sheets.__init__" (inClass (topS 15) 0) f_Sheets)
    (aC_Tally : PySem.W.nsIn K mainGlobals "Tally" = some (some (.ref C_Tally)))
    (pg_Tally : PySem.W.plainGet K C_Tally Str.empty = true)
    (hd_Tally : PySem.W.hasDictIn K C_Tally = true)
    (po_Tally : PySem.W.plainOver K C_Tally = true)
    (sa_Tally : PySem.W.findIn K (.ref C_Tally) "__setattr__" = some (some (.builtin "object.__setattr__")))
    (mk_Tally : PySem.W.makesIn K C_Tally = true)
    (kc_Tally : PySem.W.keepIn K (.ref C_Tally) = true)
    (a_Tally : PySem.W.findIn K (.ref C_Tally) "__init__" = some (some (.ref f_Tally)))
    (fn_Tally : PySem.W.isFn K (.ref f_Tally) = true)
    (na0_Tally : PySem.W.findIn K (.ref C_Tally) "form" = some none)
    (na1_Tally : PySem.W.findIn K (.ref C_Tally) "rows" = some none)
    (l_Tally : FnF K "__init__" "Tally.__init__" (inClass (topS 25) 0) f_Tally)
    (z_fraction : PySem.W.nsIn K mainGlobals "fraction" = some (some (.ref g_fraction)))
    (y_fraction : FnF K "fraction" "fraction" s_fraction g_fraction)
    (z_totalOf : PySem.W.nsIn K mainGlobals "total_of" = some (some (.ref g_totalOf)))
    (y_totalOf : FnF K "total_of" "total_of" s_totalOf g_totalOf)
    (z_addedUp : PySem.W.nsIn K mainGlobals "added_up" = some (some (.ref g_addedUp)))
    (y_addedUp : FnF K "added_up" "added_up" s_addedUp g_addedUp)
    (z_gatheredSheets : PySem.W.nsIn K mainGlobals "gathered_sheets" = some (some (.ref g_gatheredSheets)))
    (y_gatheredSheets : FnF K "gathered_sheets" "gathered_sheets" s_gatheredSheets g_gatheredSheets)
    (z_evenSheets : PySem.W.nsIn K mainGlobals "even_sheets" = some (some (.ref g_evenSheets)))
    (y_evenSheets : FnF K "even_sheets" "even_sheets" s_evenSheets g_evenSheets)
    (z_doubts : PySem.W.nsIn K mainGlobals "doubts" = some (some (.ref g_doubts)))
    (y_doubts : FnF K "doubts" "doubts" s_doubts g_doubts)
    (z_gone : PySem.W.nsIn K mainGlobals "gone" = some (some (.ref g_gone)))
    (y_gone : FnF K "gone" "gone" s_gone g_gone)
    (z_counted : PySem.W.nsIn K mainGlobals "counted" = some (some (.ref g_counted)))
    (y_counted : FnF K "counted" "counted" s_counted g_counted)
    (z_nextLetter : PySem.W.nsIn K mainGlobals "next_letter" = some (some (.ref g_nextLetter)))
    (y_nextLetter : FnF K "next_letter" "next_letter" s_nextLetter g_nextLetter)
    (z_sheetsCounted : PySem.W.nsIn K mainGlobals "sheets_counted" = some (some (.ref g_sheetsCounted)))
    (y_sheetsCounted : FnF K "sheets_counted" "sheets_counted" s_sheetsCounted g_sheetsCounted)
    (z_lettersOf : PySem.W.nsIn K mainGlobals "letters_of" = some (some (.ref g_lettersOf)))
    (y_lettersOf : FnF K "letters_of" "letters_of" s_lettersOf g_lettersOf)
    (z_tallyOf : PySem.W.nsIn K mainGlobals "tally_of" = some (some (.ref g_tallyOf)))
    (y_tallyOf : FnF K "tally_of" "tally_of" s_tallyOf g_tallyOf)
    (z_heard : PySem.W.nsIn K mainGlobals "heard" = some (some (.ref g_heard)))
    (y_heard : FnF K "heard" "heard" s_heard g_heard)
    (z_merged : PySem.W.nsIn K mainGlobals "merged" = some (some (.ref g_merged)))
    (y_merged : FnF K "merged" "merged" s_merged g_merged)
    (z_source : PySem.W.nsIn K mainGlobals "_law_source" = some (some (.ref g_source)))
    (y_source : FnF K "_law_source" "_law_source" s_source g_source)
    (z_any : PySem.W.nsIn K mainGlobals "_law_any" = some (some (.ref g_any)))
    (y_any : FnF K "_law_any" "_law_any" s_any g_any)
    (z_of : PySem.W.nsIn K mainGlobals "_law_of" = some (some (.ref g_of)))
    (y_of : FnF K "_law_of" "_law_of" s_of g_of)
    (z_lname : PySem.W.nsIn K mainGlobals "_law_name" = some (some (.ref g_lname)))
    (y_lname : FnF K "_law_name" "_law_name" s_lname g_lname)
    (z_lnames : PySem.W.nsIn K mainGlobals "_law_names" = some (some (.ref g_lnames)))
    (y_lnames : FnF K "_law_names" "_law_names" s_lnames g_lnames)
    (z_lcommon : PySem.W.nsIn K mainGlobals "_law_common" = some (some (.ref g_lcommon)))
    (y_lcommon : FnF K "_law_common" "_law_common" s_lcommon g_lcommon)
    (z_llow : PySem.W.nsIn K mainGlobals "_law_low" = some (some (.ref g_llow)))
    (y_llow : FnF K "_law_low" "_law_low" s_llow g_llow)
    (z_lform : PySem.W.nsIn K mainGlobals "_law_form" = some (some (.ref g_lform)))
    (y_lform : FnF K "_law_form" "_law_form" s_lform g_lform)
    (z_lrows : PySem.W.nsIn K mainGlobals "_law_rows" = some (some (.ref g_lrows)))
    (y_lrows : FnF K "_law_rows" "_law_rows" s_lrows g_lrows)
    (z_lletters : PySem.W.nsIn K mainGlobals "_law_letters" = some (some (.ref g_lletters)))
    (y_lletters : FnF K "_law_letters" "_law_letters" s_lletters g_lletters)
    (z_due : PySem.W.nsIn K mainGlobals "_law_due" = some (some (.ref g_due)))
    (y_due : FnF K "_law_due" "_law_due" s_due g_due)
    (z_once : PySem.W.nsIn K mainGlobals "_law_once" = some (some (.ref g_once)))
    (y_once : FnF K "_law_once" "_law_once" s_once g_once)
    (z_lkinds : PySem.W.nsIn K mainGlobals "_law_kinds" = some (some (.ref g_lkinds)))
    (y_lkinds : FnF K "_law_kinds" "_law_kinds" s_lkinds g_lkinds)
    (z_ltable : PySem.W.nsIn K mainGlobals "_law_table" = some (some (.ref g_ltable)))
    (y_ltable : FnF K "_law_table" "_law_table" s_ltable g_ltable)
    (z_told : PySem.W.nsIn K mainGlobals "_law_told" = some (some (.ref g_told)))
    (y_told : FnF K "_law_told" "_law_told" s_told g_told)
    (z_ltallyRight : PySem.W.nsIn K mainGlobals "_law_tally_right" = some (some (.ref g_ltallyRight)))
    (y_ltallyRight : FnF K "_law_tally_right" "_law_tally_right" s_ltallyRight g_ltallyRight)
    (z_lnextRight : PySem.W.nsIn K mainGlobals "_law_next_right" = some (some (.ref g_lnextRight)))
    (y_lnextRight : FnF K "_law_next_right" "_law_next_right" s_lnextRight g_lnextRight)
    (z_lapartRight : PySem.W.nsIn K mainGlobals "_law_apart_right" = some (some (.ref g_lapartRight)))
    (y_lapartRight : FnF K "_law_apart_right" "_law_apart_right" s_lapartRight g_lapartRight)
    (z_law : PySem.W.nsIn K mainGlobals "law" = some (some (.ref g_law)))
    (y_law : FnF K "law" "law" s_law g_law)
    (o_sum : PySem.W.nsIn K mainGlobals "sum" = some none)
    (o_sorted : PySem.W.nsIn K mainGlobals "sorted" = some none)
    (o_tuple : PySem.W.nsIn K mainGlobals "tuple" = some none)
    (o_len : PySem.W.nsIn K mainGlobals "len" = some none)
    (o_max : PySem.W.nsIn K mainGlobals "max" = some none)
    (o_range : PySem.W.nsIn K mainGlobals "range" = some none)
    (o_int : PySem.W.nsIn K mainGlobals "int" = some none)
    (o_abs : PySem.W.nsIn K mainGlobals "abs" = some none)
    (o_isinstance : PySem.W.nsIn K mainGlobals "isinstance" = some none)
    (o_repr : PySem.W.nsIn K mainGlobals "repr" = some none)
    (o_list : PySem.W.nsIn K mainGlobals "list" = some none)
    (z_gcd : PySem.W.nsIn K mainGlobals "gcd" = some (some (.builtin "math.gcd")))
    (z_lcm : PySem.W.nsIn K mainGlobals "lcm" = some (some (.builtin "math.lcm")))
    (z_ZERO : PySem.W.nsIn K mainGlobals "ZERO" = some (some (.ref a_ZERO)))
    (z_ONE : PySem.W.nsIn K mainGlobals "ONE" = some (some (.ref a_ONE)))
    (w_ZERO : K.lookup a_ZERO = some ⟨.type "tuple", od_ZERO, .seq its_ZERO n_ZERO, sl_ZERO⟩)
    (rv_ZERO : Vals [.int 0, .int 1] its_ZERO.toList)
    (qz_ZERO : its_ZERO.size ≤ sizeLine)
    (w_ONE : K.lookup a_ONE = some ⟨.type "tuple", od_ONE, .seq its_ONE n_ONE, sl_ONE⟩)
    (rv_ONE : Vals [.int 1, .int 1] its_ONE.toList)
    (qz_ONE : its_ONE.size ≤ sizeLine)
    (ne1 : C_Refused ≠ C_InvalidSheets)
    (ne2 : C_InvalidSheets ≠ C_BlankError)
    (ca_Sheets : PySem.W.findIn K (.ref C_Sheets) "__class__" = some (some (.builtin "object.__class__")))
    : ∀ base : Heap, K.In base → base.Ns mainGlobals mg → ∃ fd : FuncData, (∀ (s : Shared) (v : Value), BindsTo s fd ⟨[v], []⟩ [("script", v)]) ∧ FnG l.prog w K mg base CX0 11 fa fd ["script"] (Wb.spLaw K) := by
  have T_BlankError : ErrC K C_BlankError := e_BlankError.err PySem.F.excBase_Exception PySem.F.store_Exception ⟨by decide, by decide, by decide⟩ rfl hn ht
  have T_InvalidSheets : ErrC K C_InvalidSheets := e_InvalidSheets.err PySem.F.excBase_Exception PySem.F.store_Exception ⟨rfl, rfl, rfl⟩ rfl hn ht
  obtain ⟨_, _, _, _, _, _, F_InvalidSheets⟩ := l_InvalidSheets.fn
  have b_InvalidSheets := F_InvalidSheets.binds (ps := ["self", "at"]) fun _ _ _ _ _ _ us hl => match us, hl with | [_, _], _ => rfl
  have T_InvalidSize : ErrC K C_InvalidSize := e_InvalidSize.err PySem.F.excBase_Exception PySem.F.store_Exception ⟨rfl, rfl, rfl⟩ rfl hn ht
  obtain ⟨_, _, _, _, _, _, F_InvalidSize⟩ := l_InvalidSize.fn
  have b_InvalidSize := F_InvalidSize.binds (ps := ["self", "word"]) fun _ _ _ _ _ _ us hl => match us, hl with | [_, _], _ => rfl
  have T_Refused : ErrC K C_Refused := e_Refused.err PySem.F.excBase_Exception PySem.F.store_Exception ⟨rfl, rfl, rfl⟩ rfl hn ht
  obtain ⟨_, _, _, _, _, _, F_Refused⟩ := l_Refused.fn
  have b_Refused := F_Refused.binds (ps := ["self", "word"]) fun _ _ _ _ _ _ us hl => match us, hl with | [_, _], _ => rfl
  obtain ⟨_, _, _, _, _, _, F_Form⟩ := l_Form.fn
  have b_Form := F_Form.binds (ps := ["self", "questions"]) fun _ _ _ _ _ _ us hl => match us, hl with | [_, _], _ => rfl
  have cls_Form : Cls K C_Form := ⟨pg_Form, hd_Form, po_Form, sa_Form⟩
  obtain ⟨_, _, _, _, _, _, Q_Form⟩ := lq_Form.fn
  have bq_Form := Q_Form.binds (ps := ["self", "other"]) fun _ _ _ _ _ _ us hl => match us, hl with | [_, _], _ => rfl
  obtain ⟨_, _, _, _, _, _, F_Sheets⟩ := l_Sheets.fn
  have b_Sheets := F_Sheets.binds (ps := ["self", "form", "shares"]) fun _ _ _ _ _ _ us hl => match us, hl with | [_, _, _], _ => rfl
  have cls_Sheets : Cls K C_Sheets := ⟨pg_Sheets, hd_Sheets, po_Sheets, sa_Sheets⟩
  obtain ⟨_, _, _, _, _, _, F_Tally⟩ := l_Tally.fn
  have b_Tally := F_Tally.binds (ps := ["self", "form", "rows"]) fun _ _ _ _ _ _ us hl => match us, hl with | [_, _, _], _ => rfl
  have cls_Tally : Cls K C_Tally := ⟨pg_Tally, hd_Tally, po_Tally, sa_Tally⟩
  have D_fraction : Def K mg "fraction" s_fraction ["top", "bottom"] := FnF.def_ X G z_fraction y_fraction (fun _ _ _ _ _ _ us hl => match us, hl with | [_, _], _ => rfl)
  have D_totalOf : Def K mg "total_of" s_totalOf ["some"] := FnF.def_ X G z_totalOf y_totalOf (fun _ _ _ _ _ _ us hl => match us, hl with | [_], _ => rfl)
  have D_addedUp : Def K mg "added_up" s_addedUp ["pairs"] := FnF.def_ X G z_addedUp y_addedUp (fun _ _ _ _ _ _ us hl => match us, hl with | [_], _ => rfl)
  have D_gatheredSheets : Def K mg "gathered_sheets" s_gatheredSheets ["form", "shares"] := FnF.def_ X G z_gatheredSheets y_gatheredSheets (fun _ _ _ _ _ _ us hl => match us, hl with | [_, _], _ => rfl)
  have D_evenSheets : Def K mg "even_sheets" s_evenSheets ["form", "some"] := FnF.def_ X G z_evenSheets y_evenSheets (fun _ _ _ _ _ _ us hl => match us, hl with | [_, _], _ => rfl)
  have D_doubts : Def K mg "doubts" s_doubts ["tally"] := FnF.def_ X G z_doubts y_doubts (fun _ _ _ _ _ _ us hl => match us, hl with | [_], _ => rfl)
  have D_gone : Def K mg "gone" s_gone ["tally"] := FnF.def_ X G z_gone y_gone (fun _ _ _ _ _ _ us hl => match us, hl with | [_], _ => rfl)
  have D_counted : Def K mg "counted" s_counted ["tally"] := FnF.def_ X G z_counted y_counted (fun _ _ _ _ _ _ us hl => match us, hl with | [_], _ => rfl)
  have D_nextLetter : Def K mg "next_letter" s_nextLetter ["tally", "number", "word"] := FnF.def_ X G z_nextLetter y_nextLetter (fun _ _ _ _ _ _ us hl => match us, hl with | [_, _, _], _ => rfl)
  have D_sheetsCounted : Def K mg "sheets_counted" s_sheetsCounted ["tally"] := FnF.def_ X G z_sheetsCounted y_sheetsCounted (fun _ _ _ _ _ _ us hl => match us, hl with | [_], _ => rfl)
  have D_lettersOf : Def K mg "letters_of" s_lettersOf ["tally"] := FnF.def_ X G z_lettersOf y_lettersOf (fun _ _ _ _ _ _ us hl => match us, hl with | [_], _ => rfl)
  have D_tallyOf : Def K mg "tally_of" s_tallyOf ["form", "letters"] := FnF.def_ X G z_tallyOf y_tallyOf (fun _ _ _ _ _ _ us hl => match us, hl with | [_, _], _ => rfl)
  have D_heard : Def K mg "heard" s_heard ["tally", "letter"] := FnF.def_ X G z_heard y_heard (fun _ _ _ _ _ _ us hl => match us, hl with | [_, _], _ => rfl)
  have D_merged : Def K mg "merged" s_merged ["one", "other"] := FnF.def_ X G z_merged y_merged (fun _ _ _ _ _ _ us hl => match us, hl with | [_, _], _ => rfl)
  have D_source : Def K mg "_law_source" s_source ["script"] := FnF.def_ X G z_source y_source (fun _ _ _ _ _ _ us hl => match us, hl with | [_], _ => rfl)
  have D_any : Def K mg "_law_any" s_any ["deal", "bound"] := FnF.def_ X G z_any y_any (fun _ _ _ _ _ _ us hl => match us, hl with | [_, _], _ => rfl)
  have D_of : Def K mg "_law_of" s_of ["deal", "some"] := FnF.def_ X G z_of y_of (fun _ _ _ _ _ _ us hl => match us, hl with | [_, _], _ => rfl)
  have D_lname : Def K mg "_law_name" s_lname ["deal"] := FnF.def_ X G z_lname y_lname (fun _ _ _ _ _ _ us hl => match us, hl with | [_], _ => rfl)
  have D_lnames : Def K mg "_law_names" s_lnames ["deal", "many"] := FnF.def_ X G z_lnames y_lnames (fun _ _ _ _ _ _ us hl => match us, hl with | [_, _], _ => rfl)
  have D_lcommon : Def K mg "_law_common" s_lcommon ["one", "other"] := FnF.def_ X G z_lcommon y_lcommon (fun _ _ _ _ _ _ us hl => match us, hl with | [_, _], _ => rfl)
  have D_llow : Def K mg "_law_low" s_llow ["top", "bottom"] := FnF.def_ X G z_llow y_llow (fun _ _ _ _ _ _ us hl => match us, hl with | [_, _], _ => rfl)
  have D_lform : Def K mg "_law_form" s_lform ["deal", "most"] := FnF.def_ X G z_lform y_lform (fun _ _ _ _ _ _ us hl => match us, hl with | [_, _], _ => rfl)
  have D_lrows : Def K mg "_law_rows" s_lrows ["questions", "least"] := FnF.def_ X G z_lrows y_lrows (fun _ _ _ _ _ _ us hl => match us, hl with | [_, _], _ => rfl)
  have D_lletters : Def K mg "_law_letters" s_lletters ["deal", "questions", "many"] := FnF.def_ X G z_lletters y_lletters (fun _ _ _ _ _ _ us hl => match us, hl with | [_, _, _], _ => rfl)
  have D_due : Def K mg "_law_due" s_due ["letters"] := FnF.def_ X G z_due y_due (fun _ _ _ _ _ _ us hl => match us, hl with | [_], _ => rfl)
  have D_once : Def K mg "_law_once" s_once ["some"] := FnF.def_ X G z_once y_once (fun _ _ _ _ _ _ us hl => match us, hl with | [_], _ => rfl)
  have D_lkinds : Def K mg "_law_kinds" s_lkinds ["due"] := FnF.def_ X G z_lkinds y_lkinds (fun _ _ _ _ _ _ us hl => match us, hl with | [_], _ => rfl)
  have D_ltable : Def K mg "_law_table" s_ltable ["pairs"] := FnF.def_ X G z_ltable y_ltable (fun _ _ _ _ _ _ us hl => match us, hl with | [_], _ => rfl)
  have D_told : Def K mg "_law_told" s_told ["tally"] := FnF.def_ X G z_told y_told (fun _ _ _ _ _ _ us hl => match us, hl with | [_], _ => rfl)
  have D_ltallyRight : Def K mg "_law_tally_right" s_ltallyRight ["form", "tally", "letters"] := FnF.def_ X G z_ltallyRight y_ltallyRight (fun _ _ _ _ _ _ us hl => match us, hl with | [_, _, _], _ => rfl)
  have D_lnextRight : Def K mg "_law_next_right" s_lnextRight ["deal", "questions", "tally", "letters"] := FnF.def_ X G z_lnextRight y_lnextRight (fun _ _ _ _ _ _ us hl => match us, hl with | [_, _, _, _], _ => rfl)
  have D_lapartRight : Def K mg "_law_apart_right" s_lapartRight ["form", "tally", "letters", "others"] := FnF.def_ X G z_lapartRight y_lapartRight (fun _ _ _ _ _ _ us hl => match us, hl with | [_, _, _, _], _ => rfl)
  have D_law : Def K mg "law" s_law ["script"] := FnF.def_ X G z_law y_law (fun _ _ _ _ _ _ us hl => match us, hl with | [_], _ => rfl)
  have n_sum := PySem.W.mg_none_of X G o_sum
  have n_sorted := PySem.W.mg_none_of X G o_sorted
  have n_tuple := PySem.W.mg_none_of X G o_tuple
  have n_len := PySem.W.mg_none_of X G o_len
  have n_max := PySem.W.mg_none_of X G o_max
  have n_range := PySem.W.mg_none_of X G o_range
  have n_int := PySem.W.mg_none_of X G o_int
  have n_abs := PySem.W.mg_none_of X G o_abs
  have n_isinstance := PySem.W.mg_none_of X G o_isinstance
  have n_repr := PySem.W.mg_none_of X G o_repr
  have n_list := PySem.W.mg_none_of X G o_list
  have m_gcd := PySem.W.mg_of X G z_gcd
  have m_lcm := PySem.W.mg_of X G z_lcm
  have m_ZERO := PySem.W.mg_of X G z_ZERO
  have m_ONE := PySem.W.mg_of X G z_ONE
  have c_ZERO : ∀ H, SqT K H a_ZERO [.int 0, .int 1] := tup_of w_ZERO qz_ZERO rv_ZERO
  have c_ONE : ∀ H, SqT K H a_ONE [.int 1, .int 1] := tup_of w_ONE qz_ONE rv_ONE
  intro base _ _
  have Z_BlankError : ErrB K mg "BlankError" C_BlankError topB := ⟨T_BlankError, PySem.W.mg_of X G aC_BlankError, e_BlankError.chain⟩
  have Z_InvalidSheets : Err l.prog w K mg base "InvalidSheets" "at" C_InvalidSheets (topE C_BlankError) := ⟨T_InvalidSheets, PySem.W.mg_of X G aC_InvalidSheets, e_InvalidSheets.chain, no_InvalidSheets, f_InvalidSheets, _, a_InvalidSheets, t_InvalidSheets, ini_InvalidSheets F_InvalidSheets T_InvalidSheets no_InvalidSheets, b_InvalidSheets⟩
  have Z_InvalidSize : Err l.prog w K mg base "InvalidSize" "word" C_InvalidSize (topE C_BlankError) := ⟨T_InvalidSize, PySem.W.mg_of X G aC_InvalidSize, e_InvalidSize.chain, no_InvalidSize, f_InvalidSize, _, a_InvalidSize, t_InvalidSize, ini_InvalidSize F_InvalidSize T_InvalidSize no_InvalidSize, b_InvalidSize⟩
  have Z_Refused : Err l.prog w K mg base "Refused" "word" C_Refused (topE C_BlankError) := ⟨T_Refused, PySem.W.mg_of X G aC_Refused, e_Refused.chain, no_Refused, f_Refused, _, a_Refused, t_Refused, ini_Refused F_Refused T_Refused no_Refused, b_Refused⟩
  have nas_Form : ∀ f ∈ [("questions" : Str)], NoAttr K C_Form f := fun f hf => by
    simp only [List.mem_cons, List.not_mem_nil, or_false] at hf
    rcases hf with rfl
    · exact na0_Form
  have K_Form : CalC l.prog w K mg base "Form" C_Form ["questions"] := ⟨cls_Form, PySem.W.mg_of X G aC_Form, nas_Form, f_Form, _, ⟨mk_Form, a_Form, fn_Form, kc_Form⟩, inic_Form F_Form cls_Form na0_Form, b_Form⟩
  have nas_Sheets : ∀ f ∈ [("form" : Str), "shares"], NoAttr K C_Sheets f := fun f hf => by
    simp only [List.mem_cons, List.not_mem_nil, or_false] at hf
    rcases hf with rfl | rfl
    · exact na0_Sheets
    · exact na1_Sheets
  have K_Sheets : CalC l.prog w K mg base "Sheets" C_Sheets ["form", "shares"] := ⟨cls_Sheets, PySem.W.mg_of X G aC_Sheets, nas_Sheets, f_Sheets, _, ⟨mk_Sheets, a_Sheets, fn_Sheets, kc_Sheets⟩, inic_Sheets F_Sheets cls_Sheets na0_Sheets na1_Sheets, b_Sheets⟩
  have nas_Tally : ∀ f ∈ [("form" : Str), "rows"], NoAttr K C_Tally f := fun f hf => by
    simp only [List.mem_cons, List.not_mem_nil, or_false] at hf
    rcases hf with rfl | rfl
    · exact na0_Tally
    · exact na1_Tally
  have K_Tally : CalC l.prog w K mg base "Tally" C_Tally ["form", "rows"] := ⟨cls_Tally, PySem.W.mg_of X G aC_Tally, nas_Tally, f_Tally, _, ⟨mk_Tally, a_Tally, fn_Tally, kc_Tally⟩, inic_Tally F_Tally cls_Tally na0_Tally na1_Tally, b_Tally⟩
  have t_Form : IsiC K C_Form := ⟨ca_Form, hn, ht⟩
  have ne_Form : NoNe K C_Form := nea_Form
  have E_Form : CalE l.prog w K mg base 1 C_Form (sp_eqForm K C_Form) := ⟨q_Form, _, eq_form Q_Form n_isinstance K_Form t_Form, eqa_Form, eqf_Form, bq_Form⟩
  have t_Sheets : IsiC K C_Sheets := ⟨ca_Sheets, hn, ht⟩
  have C_fraction := ok_fraction (P := l.prog) (w := w) (base := base) D_fraction Z_InvalidSize m_gcd
  have C_totalOf := ok_totalOf (P := l.prog) (w := w) (base := base) D_totalOf m_lcm C_fraction n_sum
  have C_addedUp := ok_addedUp (P := l.prog) (w := w) (base := base) D_addedUp n_sorted C_totalOf m_ZERO n_tuple c_ZERO
  have C_gatheredSheets := ok_gatheredSheets (C_Form := C_Form) (P := l.prog) (w := w) (base := base) D_gatheredSheets C_addedUp C_totalOf m_ONE Z_Refused K_Sheets c_ONE
  have C_evenSheets := ok_evenSheets (P := l.prog) (w := w) (base := base) D_evenSheets Z_Refused C_gatheredSheets C_fraction n_len
  have C_doubts := ok_doubts (C_Form := C_Form) (P := l.prog) (w := w) (base := base) D_doubts n_len n_tuple K_Tally
  have C_gone := ok_gone (C_Form := C_Form) (P := l.prog) (w := w) (base := base) D_gone n_tuple K_Tally
  have C_counted := ok_counted (C_Form := C_Form) (P := l.prog) (w := w) (base := base) D_counted n_len n_tuple K_Tally
  have C_nextLetter := ok_nextLetter (C_Form := C_Form) (P := l.prog) (w := w) (base := base) D_nextLetter K_Tally
  have C_sheetsCounted := ok_sheetsCounted (P := l.prog) (w := w) (base := base) D_sheetsCounted C_evenSheets C_counted K_Tally
  have C_lettersOf := ok_lettersOf (C_Form := C_Form) (P := l.prog) (w := w) (base := base) D_lettersOf n_tuple K_Tally
  have C_tallyOf := ok_tallyOf (C_Form := C_Form) (P := l.prog) (w := w) (base := base) D_tallyOf n_max n_sorted n_tuple K_Tally
  have C_heard := ok_heard (P := l.prog) (w := w) (base := base) D_heard C_tallyOf C_lettersOf K_Tally
  have C_merged := ok_merged (P := l.prog) (w := w) (base := base) D_merged E_Form K_Form ne_Form Z_InvalidSize C_tallyOf C_lettersOf K_Tally
  have C_source := ok_source (P := l.prog) (w := w) (base := base) D_source n_int n_abs
  have C_any := ok_any (P := l.prog) (w := w) (base := base) D_any n_int
  have C_of := ok_of (P := l.prog) (w := w) (base := base) D_of C_any n_len
  have C_lname := ok_lname (P := l.prog) (w := w) (base := base) D_lname C_any C_of n_range
  have C_lnames := ok_lnames (P := l.prog) (w := w) (base := base) D_lnames n_range C_lname n_sorted
  have C_lcommon := ok_lcommon (P := l.prog) (w := w) (base := base) D_lcommon n_int n_abs n_range
  have C_llow := ok_llow (P := l.prog) (w := w) (base := base) D_llow C_lcommon n_int
  have C_lform := ok_lform (P := l.prog) (w := w) (base := base) D_lform C_lnames C_any C_of n_tuple
  have C_lrows := ok_lrows (P := l.prog) (w := w) (base := base) D_lrows n_range
  have C_lletters := ok_lletters (P := l.prog) (w := w) (base := base) D_lletters C_lrows C_of n_range C_any
  have C_once := ok_once (P := l.prog) (w := w) (base := base) D_once 
  have C_due := ok_due (P := l.prog) (w := w) (base := base) D_due C_once n_sorted n_max n_tuple
  have C_lkinds := ok_lkinds (P := l.prog) (w := w) (base := base) D_lkinds n_len n_tuple
  have C_ltable := ok_ltable (P := l.prog) (w := w) (base := base) D_ltable C_once n_sorted C_llow n_len n_tuple
  have C_told := ok_told (P := l.prog) (w := w) (base := base) D_told C_sheetsCounted Z_BlankError n_isinstance Z_InvalidSheets Z_Refused ne1 ne2
  have C_ltallyRight := ok_ltallyRight (P := l.prog) (w := w) (base := base) D_ltallyRight C_lkinds C_due C_doubts C_gone C_counted n_repr n_list n_sorted C_once C_told C_sheetsCounted K_Sheets n_isinstance C_ltable E_Form t_Sheets
  have C_lnextRight := ok_lnextRight (P := l.prog) (w := w) (base := base) D_lnextRight C_of C_any C_lrows n_max C_nextLetter n_repr C_heard C_doubts C_gone C_counted
  have C_lapartRight := ok_lapartRight (P := l.prog) (w := w) (base := base) D_lapartRight C_tallyOf C_lkinds C_due C_merged n_len C_once n_sorted C_ltable C_llow C_sheetsCounted n_repr n_tuple K_Sheets
  have C_law := ok_law (P := l.prog) (w := w) (base := base) D_law C_source C_lform K_Form n_range C_lletters C_any C_tallyOf C_ltallyRight C_lnextRight C_merged n_max C_lapartRight C_told
  exact C_law.law hfa (fun _ _ _ _ _ _ s u => .of_eq rfl)
end K33
open PySem PySem.W PyProof.Rows in
set_option maxRecDepth 100000 in
set_option maxHeartbeats 0 in
theorem PySem.Challenge.cw_whyblank_k33_whole_what_counts_and_what_holds : PySem.Challenge.rw_whyblank_k33_whole_what_counts_and_what.Holds := by
  w_on; o_law; k_head; (case hw => w_witness2)
  k_fill
  refine Wb.walk2 (l := PySem.Challenge.rw_whyblank_k33_whole_what_counts_and_what) (k := 11) ⟨rfl, by decide, by decide⟩ rfl rfl (fun w h Y => PySem.W.kIn_of Y) ?F
  case F =>
    intro w mg fa h KX G hmg
    refine' K33.all_mk KX G hmg ?aC_BlankError ?aC_InvalidSheets ?aC_InvalidSize ?aC_Refused ?hn ?ht (Wb.EF.mk (Wb.ClsRow.mk2 ?r_BlankError) ?sa_BlankError ?ga_BlankError ?gg_BlankError ?ex_BlankError ?ty_BlankError ?hd_BlankError ?kp_BlankError ?hc_BlankError ?hm_BlankError) (Wb.EF.mk (Wb.ClsRow.mk2 ?r_InvalidSheets) ?sa_InvalidSheets ?ga_InvalidSheets ?gg_InvalidSheets ?ex_InvalidSheets ?ty_InvalidSheets ?hd_InvalidSheets ?kp_InvalidSheets ?hc_InvalidSheets ?hm_InvalidSheets) ?a_InvalidSheets ?t_InvalidSheets ?no_InvalidSheets (Wb.FnF.mk2 ?li_InvalidSheets ?ui_InvalidSheets ?vi_InvalidSheets) (Wb.EF.mk (Wb.ClsRow.mk2 ?r_InvalidSize) ?sa_InvalidSize ?ga_InvalidSize ?gg_InvalidSize ?ex_InvalidSize ?ty_InvalidSize ?hd_InvalidSize ?kp_InvalidSize ?hc_InvalidSize ?hm_InvalidSize) ?a_InvalidSize ?t_InvalidSize ?no_InvalidSize (Wb.FnF.mk2 ?li_InvalidSize ?ui_InvalidSize ?vi_InvalidSize) (Wb.EF.mk (Wb.ClsRow.mk2 ?r_Refused) ?sa_Refused ?ga_Refused ?gg_Refused ?ex_Refused ?ty_Refused ?hd_Refused ?kp_Refused ?hc_Refused ?hm_Refused) ?a_Refused ?t_Refused ?no_Refused (Wb.FnF.mk2 ?li_Refused ?ui_Refused ?vi_Refused) ?aC_Form ?pg_Form ?hd_Form ?po_Form ?sa_Form ?mk_Form ?kc_Form ?a_Form ?fn_Form ?na0_Form (Wb.FnF.mk2 ?li_Form ?ui_Form ?vi_Form) ?eqa_Form ?eqf_Form ?nea_Form ?ca_Form (Wb.FnF.mk2 ?jq_Form ?uq_Form ?vq_Form) ?aC_Sheets ?pg_Sheets ?hd_Sheets ?po_Sheets ?sa_Sheets ?mk_Sheets ?kc_Sheets ?a_Sheets ?fn_Sheets ?na0_Sheets ?na1_Sheets (Wb.FnF.mk2 ?li_Sheets ?ui_Sheets ?vi_Sheets) ?aC_Tally ?pg_Tally ?hd_Tally ?po_Tally ?sa_Tally ?mk_Tally ?kc_Tally ?a_Tally ?fn_Tally ?na0_Tally ?na1_Tally (Wb.FnF.mk2 ?li_Tally ?ui_Tally ?vi_Tally) ?z_fraction (Wb.FnF.mk2 ?l_fraction ?u_fraction ?v_fraction) ?z_totalOf (Wb.FnF.mk2 ?l_totalOf ?u_totalOf ?v_totalOf) ?z_addedUp (Wb.FnF.mk2 ?l_addedUp ?u_addedUp ?v_addedUp) ?z_gatheredSheets (Wb.FnF.mk2 ?l_gatheredSheets ?u_gatheredSheets ?v_gatheredSheets) ?z_evenSheets (Wb.FnF.mk2 ?l_evenSheets ?u_evenSheets ?v_evenSheets) ?z_doubts (Wb.FnF.mk2 ?l_doubts ?u_doubts ?v_doubts) ?z_gone (Wb.FnF.mk2 ?l_gone ?u_gone ?v_gone) ?z_counted (Wb.FnF.mk2 ?l_counted ?u_counted ?v_counted) ?z_nextLetter (Wb.FnF.mk2 ?l_nextLetter ?u_nextLetter ?v_nextLetter) ?z_sheetsCounted (Wb.FnF.mk2 ?l_sheetsCounted ?u_sheetsCounted ?v_sheetsCounted) ?z_lettersOf (Wb.FnF.mk2 ?l_lettersOf ?u_lettersOf ?v_lettersOf) ?z_tallyOf (Wb.FnF.mk2 ?l_tallyOf ?u_tallyOf ?v_tallyOf) ?z_heard (Wb.FnF.mk2 ?l_heard ?u_heard ?v_heard) ?z_merged (Wb.FnF.mk2 ?l_merged ?u_merged ?v_merged) ?z_source (Wb.FnF.mk2 ?l_source ?u_source ?v_source) ?z_any (Wb.FnF.mk2 ?l_any ?u_any ?v_any) ?z_of (Wb.FnF.mk2 ?l_of ?u_of ?v_of) ?z_lname (Wb.FnF.mk2 ?l_lname ?u_lname ?v_lname) ?z_lnames (Wb.FnF.mk2 ?l_lnames ?u_lnames ?v_lnames) ?z_lcommon (Wb.FnF.mk2 ?l_lcommon ?u_lcommon ?v_lcommon) ?z_llow (Wb.FnF.mk2 ?l_llow ?u_llow ?v_llow) ?z_lform (Wb.FnF.mk2 ?l_lform ?u_lform ?v_lform) ?z_lrows (Wb.FnF.mk2 ?l_lrows ?u_lrows ?v_lrows) ?z_lletters (Wb.FnF.mk2 ?l_lletters ?u_lletters ?v_lletters) ?z_due (Wb.FnF.mk2 ?l_due ?u_due ?v_due) ?z_once (Wb.FnF.mk2 ?l_once ?u_once ?v_once) ?z_lkinds (Wb.FnF.mk2 ?l_lkinds ?u_lkinds ?v_lkinds) ?z_ltable (Wb.FnF.mk2 ?l_ltable ?u_ltable ?v_ltable) ?z_told (Wb.FnF.mk2 ?l_told ?u_told ?v_told) ?z_ltallyRight (Wb.FnF.mk2 ?l_ltallyRight ?u_ltallyRight ?v_ltallyRight) ?z_lnextRight (Wb.FnF.mk2 ?l_lnextRight ?u_lnextRight ?v_lnextRight) ?z_lapartRight (Wb.FnF.mk2 ?l_lapartRight ?u_lapartRight ?v_lapartRight) ?z_law (Wb.FnF.mk2 ?l_law ?u_law ?v_law) ?o_sum ?o_sorted ?o_tuple ?o_len ?o_max ?o_range ?o_int ?o_abs ?o_isinstance ?o_repr ?o_list ?z_gcd ?z_lcm ?z_ZERO ?z_ONE ?w_ZERO ?rv_ZERO ?qz_ZERO ?w_ONE ?rv_ONE ?qz_ONE ?ne1 ?ne2 ?ca_Sheets
    (case aC_BlankError => k_is)
    (case aC_InvalidSheets => k_is)
    (case aC_InvalidSize => k_is)
    (case aC_Refused => k_is)
    (case hn => k_is)
    (case ht => k_is)
    (case r_BlankError => k_is)
    (case sa_BlankError => k_is)
    (case ga_BlankError => k_is)
    (case gg_BlankError => k_is)
    (case ex_BlankError => k_is)
    (case ty_BlankError => k_is)
    (case hd_BlankError => k_is)
    (case kp_BlankError => k_is)
    (case hc_BlankError => k_is)
    (case hm_BlankError => k_is)
    (case r_InvalidSheets => k_is)
    (case sa_InvalidSheets => k_is)
    (case ga_InvalidSheets => k_is)
    (case gg_InvalidSheets => k_is)
    (case ex_InvalidSheets => k_is)
    (case ty_InvalidSheets => k_is)
    (case hd_InvalidSheets => k_is)
    (case kp_InvalidSheets => k_is)
    (case hc_InvalidSheets => k_is)
    (case hm_InvalidSheets => k_is)
    (case a_InvalidSheets => k_is)
    (case t_InvalidSheets => k_is)
    (case no_InvalidSheets => k_is)
    (case li_InvalidSheets => k_is)
    (case ui_InvalidSheets => k_is)
    (case vi_InvalidSheets => k_is)
    (case r_InvalidSize => k_is)
    (case sa_InvalidSize => k_is)
    (case ga_InvalidSize => k_is)
    (case gg_InvalidSize => k_is)
    (case ex_InvalidSize => k_is)
    (case ty_InvalidSize => k_is)
    (case hd_InvalidSize => k_is)
    (case kp_InvalidSize => k_is)
    (case hc_InvalidSize => k_is)
    (case hm_InvalidSize => k_is)
    (case a_InvalidSize => k_is)
    (case t_InvalidSize => k_is)
    (case no_InvalidSize => k_is)
    (case li_InvalidSize => k_is)
    (case ui_InvalidSize => k_is)
    (case vi_InvalidSize => k_is)
    (case r_Refused => k_is)
    (case sa_Refused => k_is)
    (case ga_Refused => k_is)
    (case gg_Refused => k_is)
    (case ex_Refused => k_is)
    (case ty_Refused => k_is)
    (case hd_Refused => k_is)
    (case kp_Refused => k_is)
    (case hc_Refused => k_is)
    (case hm_Refused => k_is)
    (case a_Refused => k_is)
    (case t_Refused => k_is)
    (case no_Refused => k_is)
    (case li_Refused => k_is)
    (case ui_Refused => k_is)
    (case vi_Refused => k_is)
    (case aC_Form => k_is)
    (case pg_Form => k_is)
    (case hd_Form => k_is)
    (case po_Form => k_is)
    (case sa_Form => k_is)
    (case mk_Form => k_is)
    (case kc_Form => k_is)
    (case a_Form => k_is)
    (case fn_Form => k_is)
    (case na0_Form => k_is)
    (case li_Form => k_is)
    (case ui_Form => k_is)
    (case vi_Form => k_is)
    (case eqa_Form => k_is)
    (case eqf_Form => k_is)
    (case nea_Form => k_is)
    (case ca_Form => k_is)
    (case jq_Form => k_is)
    (case uq_Form => k_is)
    (case vq_Form => k_is)
    (case aC_Sheets => k_is)
    (case pg_Sheets => k_is)
    (case hd_Sheets => k_is)
    (case po_Sheets => k_is)
    (case sa_Sheets => k_is)
    (case mk_Sheets => k_is)
    (case kc_Sheets => k_is)
    (case a_Sheets => k_is)
    (case fn_Sheets => k_is)
    (case na0_Sheets => k_is)
    (case na1_Sheets => k_is)
    (case li_Sheets => k_is)
    (case ui_Sheets => k_is)
    (case vi_Sheets => k_is)
    (case aC_Tally => k_is)
    (case pg_Tally => k_is)
    (case hd_Tally => k_is)
    (case po_Tally => k_is)
    (case sa_Tally => k_is)
    (case mk_Tally => k_is)
    (case kc_Tally => k_is)
    (case a_Tally => k_is)
    (case fn_Tally => k_is)
    (case na0_Tally => k_is)
    (case na1_Tally => k_is)
    (case li_Tally => k_is)
    (case ui_Tally => k_is)
    (case vi_Tally => k_is)
    (case z_fraction => k_is)
    (case l_fraction => k_is)
    (case u_fraction => k_is)
    (case v_fraction => k_is)
    (case z_totalOf => k_is)
    (case l_totalOf => k_is)
    (case u_totalOf => k_is)
    (case v_totalOf => k_is)
    (case z_addedUp => k_is)
    (case l_addedUp => k_is)
    (case u_addedUp => k_is)
    (case v_addedUp => k_is)
    (case z_gatheredSheets => k_is)
    (case l_gatheredSheets => k_is)
    (case u_gatheredSheets => k_is)
    (case v_gatheredSheets => k_is)
    (case z_evenSheets => k_is)
    (case l_evenSheets => k_is)
    (case u_evenSheets => k_is)
    (case v_evenSheets => k_is)
    (case z_doubts => k_is)
    (case l_doubts => k_is)
    (case u_doubts => k_is)
    (case v_doubts => k_is)
    (case z_gone => k_is)
    (case l_gone => k_is)
    (case u_gone => k_is)
    (case v_gone => k_is)
    (case z_counted => k_is)
    (case l_counted => k_is)
    (case u_counted => k_is)
    (case v_counted => k_is)
    (case z_nextLetter => k_is)
    (case l_nextLetter => k_is)
    (case u_nextLetter => k_is)
    (case v_nextLetter => k_is)
    (case z_sheetsCounted => k_is)
    (case l_sheetsCounted => k_is)
    (case u_sheetsCounted => k_is)
    (case v_sheetsCounted => k_is)
    (case z_lettersOf => k_is)
    (case l_lettersOf => k_is)
    (case u_lettersOf => k_is)
    (case v_lettersOf => k_is)
    (case z_tallyOf => k_is)
    (case l_tallyOf => k_is)
    (case u_tallyOf => k_is)
    (case v_tallyOf => k_is)
    (case z_heard => k_is)
    (case l_heard => k_is)
    (case u_heard => k_is)
    (case v_heard => k_is)
    (case z_merged => k_is)
    (case l_merged => k_is)
    (case u_merged => k_is)
    (case v_merged => k_is)
    (case z_source => k_is)
    (case l_source => k_is)
    (case u_source => k_is)
    (case v_source => k_is)
    (case z_any => k_is)
    (case l_any => k_is)
    (case u_any => k_is)
    (case v_any => k_is)
    (case z_of => k_is)
    (case l_of => k_is)
    (case u_of => k_is)
    (case v_of => k_is)
    (case z_lname => k_is)
    (case l_lname => k_is)
    (case u_lname => k_is)
    (case v_lname => k_is)
    (case z_lnames => k_is)
    (case l_lnames => k_is)
    (case u_lnames => k_is)
    (case v_lnames => k_is)
    (case z_lcommon => k_is)
    (case l_lcommon => k_is)
    (case u_lcommon => k_is)
    (case v_lcommon => k_is)
    (case z_llow => k_is)
    (case l_llow => k_is)
    (case u_llow => k_is)
    (case v_llow => k_is)
    (case z_lform => k_is)
    (case l_lform => k_is)
    (case u_lform => k_is)
    (case v_lform => k_is)
    (case z_lrows => k_is)
    (case l_lrows => k_is)
    (case u_lrows => k_is)
    (case v_lrows => k_is)
    (case z_lletters => k_is)
    (case l_lletters => k_is)
    (case u_lletters => k_is)
    (case v_lletters => k_is)
    (case z_due => k_is)
    (case l_due => k_is)
    (case u_due => k_is)
    (case v_due => k_is)
    (case z_once => k_is)
    (case l_once => k_is)
    (case u_once => k_is)
    (case v_once => k_is)
    (case z_lkinds => k_is)
    (case l_lkinds => k_is)
    (case u_lkinds => k_is)
    (case v_lkinds => k_is)
    (case z_ltable => k_is)
    (case l_ltable => k_is)
    (case u_ltable => k_is)
    (case v_ltable => k_is)
    (case z_told => k_is)
    (case l_told => k_is)
    (case u_told => k_is)
    (case v_told => k_is)
    (case z_ltallyRight => k_is)
    (case l_ltallyRight => k_is)
    (case u_ltallyRight => k_is)
    (case v_ltallyRight => k_is)
    (case z_lnextRight => k_is)
    (case l_lnextRight => k_is)
    (case u_lnextRight => k_is)
    (case v_lnextRight => k_is)
    (case z_lapartRight => k_is)
    (case l_lapartRight => k_is)
    (case u_lapartRight => k_is)
    (case v_lapartRight => k_is)
    (case z_law => k_is)
    (case l_law => k_is)
    (case u_law => k_is)
    (case v_law => k_is)
    (case o_sum => k_is)
    (case o_sorted => k_is)
    (case o_tuple => k_is)
    (case o_len => k_is)
    (case o_max => k_is)
    (case o_range => k_is)
    (case o_int => k_is)
    (case o_abs => k_is)
    (case o_isinstance => k_is)
    (case o_repr => k_is)
    (case o_list => k_is)
    (case z_gcd => k_is)
    (case z_lcm => k_is)
    (case z_ZERO => k_is)
    (case z_ONE => k_is)
    (case w_ZERO => k_is)
    (case rv_ZERO => exact (.cons ⟨_, rfl⟩ (.cons ⟨_, rfl⟩ .nil)))
    (case qz_ZERO => decide)
    (case w_ONE => k_is)
    (case rv_ONE => exact (.cons ⟨_, rfl⟩ (.cons ⟨_, rfl⟩ .nil)))
    (case qz_ONE => decide)
    (case ne1 => decide)
    (case ne2 => decide)
    (case ca_Sheets => k_is)
