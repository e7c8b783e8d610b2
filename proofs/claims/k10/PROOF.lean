import PyProof.Rows.All
import Wide.All
import OpenK.AllK
import Wide.FinOn
import HandS.ForMost
import HandS.ForExc
import HandS.Wide
import HandS.Ends
import HandS.ExcInit
import KE.KExcIs
import KE.KExcInit
import HandS.IsInst
import HandS.TryMany
import HandS.Style
import PyProof.ReprLen
import PyProof.ReprText
import HandS.Gcd
import HandS.WideMore
import HandS.WideBits
import KE.SortData
import HandS.Conv
import PyProof.ReprBulk
import PyProof.FitsInt
import HandS.Deep
import HandS.TupAny
import HandS.Walk
import PyProof.P3In
import PyProof.StrOps2
import PyProof.Rows.SeqMore
import HandS.Zip
import KE.GoesEnum
import PyProof.P3Eq
import PyProof.ListStr
import HandS.TupLe
import KE.KeyNested
import HandS.DictComp
import HandS.OwnEq
import HandS.More
import HandS.TupSets
import KE.DatumOrd
import HandS.Strs
import KE.DataCmp
import PyProof.CallStr
import HandS.RaiseMore
import KE.DataMinMax
import KE.DataFind
import KE.KDictList
import HandS.StrMore
import KE.KDictCopyH
import HandS.MakeKwOnly
import PySem.Challenge.RW_whyblank_k10_whole_what_leads_where
import PyProof.Rows.IntBool
set_option Elab.async false
set_option linter.all false
set_option maxRecDepth 100000
set_option maxHeartbeats 4000000
/-! Wb0: repr of data, and calls whose surroundings run no repr (guards empty). -/
namespace Wb
open PySem PySem.Spec PyProof.Rows L2

/-! ### repr over data -/
def rShow (K : PySem.W.Frag) : List V → Hp → VK → Prop := fun xs H Q =>
  ∃ (x : V) (d : PyData), xs = [x] ∧ Dp K H x d ∧ d.showable = true ∧ d.hasDict = false ∧ d.depth ≤ 60 ∧ d.shown.length ≤ sizeLine ∧ Q (.str d.shown) H
section
variable {X : Cx}
theorem call_show (hg : X.A.guards = some []) (hu : X.A.units + 64 < cLine) : CallR X (.builtin "repr") (rShow X.K) := by
  intro pins s σ H xs us Q I rr hh
  obtain ⟨x, d, rfl, hd, hs, hn, hdep, hl, hq⟩ := hh
  cases rr with
  | cons r1 r2 =>
  cases r2
  rename_i u
  obtain ⟨as, rd⟩ := Dp.reads I d x u hd r1
  have done : ∀ (h' : Heap) (t tk : Nat), (∀ b o, s.heap.get? b = some o → h'.get? b = some o) → EP X pins σ Q (.str d.shown t) { s with heap := h', toks := tk } :=
    fun h' t tk kp => ⟨.str d.shown, H, I.kept kp, ⟨t, rfl⟩, hq⟩
  cases hd with
  | non =>
    obtain rfl : u = Value.none := r1
    simp only [PyData.shown] at done
    exact PySem.P.repr_of_none (done _ _ _ fun _ _ e => e)
  | bl b =>
    obtain rfl : u = Value.bool b := r1
    simp only [PyData.shown] at done
    exact PySem.P.repr_of_bool (done _ _ _ fun _ _ e => e)
  | int i =>
    obtain ⟨t, rfl⟩ := r1
    simp only [PyData.shown] at done
    exact PySem.P.repr_of_int (by simpa [PyData.showable] using hs) (done _ _ _ fun _ _ e => e)
  | str z =>
    obtain ⟨t, rfl⟩ := r1
    simp only [PyData.shown] at done
    exact PySem.P.repr_of_str (done _ _ _ fun _ _ e => e) (by simpa only [PyData.shown] using hl)
  | lst h1 h2 =>
    cases r1
    exact repr_of_reads' rd hs (PyData.noDict_hsm hn) hg (by omega) (fun _ _ e => e) (fun h' t tk kp => done h' t tk kp) hl
  | tup h1 h2 =>
    cases r1
    exact repr_of_reads' rd hs (PyData.noDict_hsm hn) hg (by omega) (fun _ _ e => e) (fun h' t tk kp => done h' t tk kp) hl
end

/-! ### a def that is called where no repr runs -/
structure FnG (P : Program) (w : World) (K : PySem.W.Frag) (mg : Str → Option Value) (base : Heap) (CX : CXT) (k : Nat) (f : Addr) (fd : FuncData) (ps : List Str) (sp : Sp) : Prop where
  arity : ∀ vs H Q E, sp vs H Q E → vs.length = ps.length
  go : ∀ (A : Around) (outer : List Env) (s : Shared) (H : Hp) (args : Args) (us : List Value) (vs : List V) (Q : VK) (E : XK),
    A.guards = some [] → Room k A → Env0 P w K mg base A outer s H → BindsTo s fd args (ps.zip us) → Vals vs us → sp vs H Q E →
    codeAny (model P w) A (.call (.ref f) args) (CR CX outer P w H s Q E) s

theorem FnG.of {P w K mg base CX k f fd ps sp} (F : FnOk P w K mg base CX k f fd ps sp) : FnG P w K mg base CX k f fd ps sp :=
  ⟨F.len, fun A outer s H args us vs Q E _ => F.run A outer s H args us vs Q E⟩

section
variable {P : Program} {w : World} {K : PySem.W.Frag} {mg : Str → Option Value} {base : Heap}
/-- the body of such a def, with the surroundings' guards told -/
theorem okG {CX : CXT} {x qual : Str} {st : Stmt} {f : Addr} {fd : FuncData} {N ps : List Str} {k : Nat} {sp : Sp} (F : Fun K x qual st f fd) (S : FnScope N ps (defScope st)) (ar : ∀ vs H Q E, sp vs H Q E → vs.length = ps.length)
    (body : ∀ (cdv : Value) (A : Around) (outer : List Env) (s : Shared) (H : Hp) (vs : List V) (Q : VK) (E : XK),
      (A.deeper (envOfC qual (defScope st) s.heap.objs.size f cdv)).guards = some [] → Room k (A.deeper (envOfC qual (defScope st) s.heap.objs.size f cdv)) → sp vs H Q E →
      ∃ t, PSs (cxOf CX P w K mg base N qual (defScope st) f cdv A outer s H E) (defBody st) t ∧ t { nx := fun _ H' => Q .non H', rt := Q } (start N vs) H) :
    FnG P w K mg base CX (k + 1) f fd ps sp := by
  obtain ⟨a1, a2, a3, a4, a5, a6, cdv, a8, a9, rfl, found, coded⟩ := F.ex
  refine ⟨ar, ?_⟩
  intro A outer s H args us vs Q E gd room env0 bnd rel want
  have many := ar _ _ _ _ want
  have inS : K.In s.heap := env0.mod.kin.keeps fun b o e => (env0.bs b o e).1
  have noLim : s.heap.NoLimit := env0.mod.nolimit.keeps fun b o e => (env0.bs b o e).1
  refine codeAny_call_function room.depth (inS _ _ found) rfl S.co S.gen rfl (PySem.W.codeRec_of inS coded) (bnd _ _ _ _ ?_)
  have kinds : ∀ y ∈ ps.zip us, (defScope st).names.lookup y.1 = some .local ∨
      ((defScope st).names.lookup y.1 = some .cell ∧ ((cellsFrom (s.heap.objs.size + 1) (defScope st).names []).lookup y.1).isSome = true) := by
    rintro ⟨n, v⟩ mem
    have hp := S.par n (List.of_mem_zip mem).1
    rcases hp with hp | hp
    · exact Or.inl hp
    · exact Or.inr ⟨hp, PySem.W.cellsFrom_some _ _ _ (Or.inl hp)⟩
  refine wpAny_newFunctionEnv_cells S.kind kinds ?_
  intro env isEnv s1 inCall
  subst isEnv
  refine ⟨noLim.keeps inCall.toInCall.keep, codeAny_func ?_⟩
  have gd2 : (A.deeper (envOfC qual (defScope st) s.heap.objs.size f cdv)).guards = some [] := gd
  obtain ⟨t, derived, holds⟩ := body cdv A outer s H vs Q E gd2 (room.deeper _) want
  have inv := inv_start (CX := CX) (E := E) (qual := qual) (cd := cdv) (f := f) S room.hd env0 many rel inCall
  refine wpAny_mono (derived.run [] s1 (start N vs) H _ inv holds) ?_ (fun _ _ z => z)
  intro fl s' got
  cases fl with
  | ret u =>
    obtain ⟨v, σ', H', J, rv, q⟩ := got
    exact ⟨v, H', J.os, J.bare, J.base, J.hok, rv, q⟩
  | next =>
    obtain ⟨σ', H', J, q⟩ := got
    exact ⟨V.non, H', J.os, J.bare, J.base, J.hok, rfl, q⟩
  | brk => obtain ⟨_, _, _, q⟩ := got; exact q.elim
  | cont => obtain ⟨_, _, _, q⟩ := got; exact q.elim
end

/-! ### calling it -/
section
variable {X : Cx} {CX : CXT} {k : Nat} {f : Addr} {fd : FuncData} {ps : List Str} {sp : Sp} {dvs : List V} {ds : List Value} {E : XK} {x : Str} {p pos : Pos} {e : Expr} {es : List Expr} {t : TA}
theorem runG {pins : List (Addr × Obj)} {σ : L2.St} {H : Hp} {s : Shared} {Q : VK} {us : List Value} {vs : List V} (F : FnG X.prog X.w X.K X.mg X.base CX k f fd ps sp) (gd : X.A.guards = some []) (hr : Room k X.A) (hb : Binds X.K fd ps ds) (hd : Vals dvs ds)
    (hx : Passes CX X E) (I : Inv X pins σ H s) (r : Vals vs us) (h : sp (vs ++ dvs) H Q E) : wpAny (model X.prog X.w) X.A (call (.ref f) us) (EP X pins σ Q) X.xe s := by
  have r2 := r.append hd
  have many : (us ++ ds).length = ps.length := r2.length.symm.trans (F.arity _ _ _ _ h)
  apply wpAny_call
  refine codeAny_mono (F.go X.A X.stack s H ⟨us, []⟩ _ _ Q E gd hr I.env0 (hb s us I.kIn many) r2 h) ?_
  intro res s' got
  match res, got with
  | .error er, got => exact hx pins σ H s er s' I got
  | .ok (.ret u), got => exact I.after got
theorem pe_callG (F : FnG X.prog X.w X.K X.mg X.base CX k f fd ps sp) (gd : X.A.guards = some []) (hr : Room k X.A) (hg : Gl X x) (hm : X.mg x = some (.ref f)) (hk : PySem.W.keepIn X.K (.ref f) = true) (hb : Binds X.K fd ps ds) (hd : Vals dvs ds)
    (hx : Passes CX X E) (ha : PA X (e :: es) t) (hdb : (x == ("__debug__" : Str)) = false := by decide) (he : starEach (e :: es) X.env = (false, eval e X.env) :: starEach es X.env := by rfl)
    (hpl : (backTo pos (starEach es X.env)).any (·.1) = false := by rfl) : PE X (.Call (.Name x p) (e :: es) [] pos) (tCall sp dvs E t) := by
  constructor
  intro pins s σ H Q I h
  apply wpAny_Call_Name_kw
  apply ld_glob I hg hm _ hdb
  refine PySem.W.callWith_K (h₀ := X.base) I.ok.mod.kin hk (thn (ha.run pos pins s σ H _ I h) ?_) he hpl
  rintro us s1 ⟨vs, H1, I1, r, q⟩
  exact ⟨I1.kIn, runG F gd hr hb hd hx I1 r q⟩
end
end Wb

set_option Elab.async false
set_option linter.all false
set_option maxRecDepth 100000
set_option maxHeartbeats 4000000
/-! Wb1: the law's own call, guards told. -/
namespace Wb
open PySem PySem.Spec PyProof.Rows L2

/-- the law's def, promised where no repr runs, called from outside -/
theorem lawG {P : Program} {w : World} {K : PySem.W.Frag} {mg mb : Str → Option Value} {CX : CXT} {k : Nat} {fa a : Addr} {fd : FuncData} {x : Str} {sp : Sp} {st : Shared} {vs : List Value} {ns : List Int}
    (inK : K.In st.heap) (names : st.heap.Ns mainGlobals mg) (bns : st.heap.Ns builtinsNs mb) (boot : ∀ x : Str, x ≠ "__name__" → mb x = bootBuiltins x) (lim : st.heap.NoLimit) (nogen : st.gens = #[])
    (atA : st.heap.get? a = some { cls := .type "list", data := .seq vs.toArray }) (areInts : IntsAre vs ns) (short : ns.length ≤ sizeLine) (room : Room k callerA)
    (F : ∀ base : Heap, K.In base → base.Ns mainGlobals mg → FnG P w K mg base CX k fa fd [x] sp) (bind1 : ∀ (s : Shared) (u : Value), BindsTo s fd ⟨[u], []⟩ [(x, u)])
    (want : ∀ H : Hp, Only H → SqL K H a (ns.map V.int) → sp [.ref a] H (fun v _ => v = .bl true) fun _ _ _ => False)
    (noX : ∀ H e s', CX [] H st (fun _ _ _ => False) e s' → False) :
    codeAny (model P w) callerA (.call (.ref fa) ⟨[.ref a], []⟩) (fun r s' => r = .ok (.ret (.bool true)) ∧ OldK st.heap s'.heap ∧ s'.os = st.os ∧ AllBare s'.gens) st := by
  have rel := vals_ints areInts
  have same := areInts.length
  -- what is told of any abstract heap that tracks the script at most
  suffices go : ∀ H : Hp, Only H → SqL K H a (ns.map V.int) → HOk P w H st.heap → (∀ b, H b ≠ none → b = a) → (H a ≠ none → K.lookup a = none) →
      codeAny (model P w) callerA (.call (.ref fa) ⟨[.ref a], []⟩) (fun r s' => r = .ok (.ret (.bool true)) ∧ OldK st.heap s'.heap ∧ s'.os = st.os ∧ AllBare s'.gens) st by
    rcases own : K.lookup a with _ | ob
    · -- the script is tracked, as a thing that stands still
      let frozen : HO := .frz { cls := .type "list", data := .seq vs.toArray } (.lst (ns.map V.int))
      refine go (fun b => if b = a then some frozen else none) ?_ ?_ ?_ ?_ (fun _ => own)
      · intro b
        by_cases e : b = a
        · exact Or.inr ⟨_, _, if_pos e⟩
        · exact Or.inl (if_neg e)
      · exact Or.inl (Or.inr ⟨_, if_pos rfl⟩)
      · intro b u e
        by_cases h : b = a
        · subst h
          cases (if_pos rfl).symm.trans e
          exact ⟨atA, by simpa using short, vs, _, rel, atA⟩
        · cases (if_neg h).symm.trans e
      · intro b e
        by_cases h : b = a
        · exact h
        · exact absurd (if_neg h) e
    · -- the script is one of the module's own objects
      have there := inK a ob own
      rw [atA] at there
      cases there
      refine go (fun _ => none) (fun _ => Or.inl rfl) ?_ (fun b u e => ?_) (fun b e => absurd rfl e) (fun e => absurd rfl e)
      · exact Or.inr ⟨_, vs.toArray, _, own, rfl, rfl, rfl, by rw [List.size_toArray, same]; exact short, by simpa using rel⟩
      · have e' : (none : Option HO) = some u := e
        cases e'
  intro H only seq ok just notK
  have keepB : ∀ {b : Addr} {o : Obj}, st.heap.get? b = some o → H b = none → (hidT st.heap H).get? b = some o := fun e n => hidT_get e n
  have dictFree : ∀ {b : Addr} {o : Obj} {es : Array DictEntry} {ep : Nat}, st.heap.get? b = some o → o.data = .dict es ep → H b = none := by
    intro b o es ep e d
    by_cases q : H b = none
    · exact q
    · have h := just b q
      subst h
      rw [atA] at e
      cases e
      have d' : Data.seq vs.toArray _ = Data.dict es ep := d
      cases d'
  have nsIn : ∀ {b : Addr} {m : Str → Option Value}, st.heap.Ns b m → (hidT st.heap H).Ns b m := by
    rintro b m ⟨o, es, ep, e, d, r⟩
    exact ⟨o, es, ep, keepB e (dictFree e d), d, r⟩
  have inBase : K.In (hidT st.heap H) := by
    intro b o e
    refine keepB (inK b o e) ?_
    by_cases q : H b = none
    · exact q
    · have h := just b q
      subst h
      rw [notK q] at e
      cases e
  have md : Mod K mg (hidT st.heap H) := by
    obtain ⟨mc, l1, l2⟩ := lim
    exact ⟨inBase, nsIn names, ⟨mb, nsIn bns, boot⟩, ⟨mc, nsIn l1, l2⟩⟩
  have env0 : Env0 P w K mg (hidT st.heap H) callerA [] st H :=
    ⟨rfl, md, fun b o e => of_hidT e, Nat.le_of_eq (hidT_size _ _), trivial, fun b hb => absurd (show b ∈ ([] : List Addr) from hb) (by simp), ok, .of_eq nogen⟩
  have ran := (F _ inBase (nsIn names)).go callerA [] st H ⟨[.ref a], []⟩ [.ref a] [.ref a] _ _ rfl room env0 (bind1 st (.ref a)) (.cons rfl .nil) (want H only seq)
  refine codeAny_mono ran ?_
  intro r s' h
  match r, h with
  | .error e, h => exact (noX H e s' h).elim
  | .ok (.ret u), h =>
    obtain ⟨v, H', os, bare, un, ok', rv, q⟩ := h
    have q' : v = .bl true := q
    subst q'
    obtain rfl : u = Value.bool true := rv
    refine ⟨rfl, OldK.of_keep ?_, os, bare⟩
    intro b o e
    by_cases q : H b = none
    · exact un.keep b o e q (fun z => absurd (show b ∈ ([] : List Addr) from z) (by simp)) (by simp)
    · rcases only b with z | ⟨ob, xs, z⟩
      · exact absurd z q
      · obtain ⟨e1, _⟩ := ok b _ z
        obtain ⟨e2, _⟩ := ok' b _ (un.frzs b ob _ z)
        rw [e] at e1
        cases e1
        exact e2

/-- the goal that the head leaves, from such a promise of the law's def -/
theorem walkG {l : PySem.W.OpenLaw} {n k : Nat} {q : Program} {loose : List Str} {XP : (Str → Option Value) → Heap → Prop} {YP : World → Heap → Prop} {d : DefRec} {K : Params → PySem.W.Frag} {CX : World → CXT} {sp : World → Sp} {x : Str}
    (h1 : l.most = some n) (h2 : n ≤ sizeLine) (h3 : d.params.defaults = []) (room : Room k callerA) (hY : ∀ (w : World) (h : Heap), YP w h → (K w.params).In h)
    (F : ∀ (w : World) (mg : Str → Option Value) (fa : Addr) (h : Heap), (K w.params).In h → h.Ns mainGlobals mg → mg d.name = some (.ref fa) →
      ∃ fd : FuncData, (∀ (s : Shared) (u : Value), BindsTo s fd ⟨[u], []⟩ [(x, u)]) ∧
        ∀ base : Heap, (K w.params).In base → base.Ns mainGlobals mg → FnG l.prog w (K w.params) mg base (CX w) k fa fd [x] (sp w))
    (want : ∀ (w : World) (H : Hp) (a : Addr) (ns : List Int), ns.length ≤ n → Only H → SqL (K w.params) H a (ns.map V.int) → sp w [.ref a] H (fun v _ => v = .bl true) fun _ _ _ => False)
    (noX : ∀ (w : World) (H : Hp) (s : Shared) (e : Value) (s' : Shared), CX w [] H s (fun _ _ _ => False) e s' → False) :
    PySem.W.WalkO q loose XP YP l.row.toRowW d [] (fun f vs => PySem.call f vs) := by
  apply Att.attach_call h1 h3
  intro w s₀ s₁ mg mb fa o pm cd doc a vs ns G Y ho hd hcd hmg hobj hints hlen hg
  have inK := hY w _ Y
  obtain ⟨fd, hb, hF⟩ := F w mg fa _ inK G.T.g hmg
  exact lawG inK G.T.g G.T.b G.T.builtins G.T.nolimit hg hobj hints (Nat.le_trans hlen h2) room hF hb (fun H hO hS => want w H a ns hlen hO hS) fun H e s' => noX w H s₁ e s'
end Wb

set_option Elab.async false
set_option linter.all false
set_option maxRecDepth 100000
set_option maxHeartbeats 4000000
/-! Wb2: own exceptions as values: made (by position and by name), their field read, isinstance. -/
namespace PySem
namespace WbE
open PySem.W PySem.Calls PyProof.Rows
section
variable {prog : Program} {w : World} {M : Model} {A : Around} {E : Value → Shared → Prop} {R : Result → Shared → Prop} {h : Heap} {g : Array GenState} {d : Drawn} {t : Nat} {os : OsState}
variable {nm q : Str} {C N : Addr} {bs bm bmB : List Value} {hdct : Bool} {sn : List Str} {sub : List Value} {ab : Bool} {col : Option Bool} {dd : Option Addr} {k0 k1 k2 k3 k5 : Option Value} {B newId initId : String}
variable {rest : List Value} {kw : List (Str × Value)}

/-- what is asked of the class's chain: the built-in base is in it, the two bases with members of their own are not -/
structure Chain (bm : List Value) (B : String) : Prop where
  base : bm.contains (.type B) = true
  noA : bm.contains (.type "AttributeError") = false
  noN : bm.contains (.type "NameError") = false

theorem checkNew (F : ExcBaseFacts B newId initId bmB) (ch : Chain bm B) {Q : Unit → Shared → Prop} (atC : h.get? C = some (excClassObj nm q C N bs bm hdct sn sub ab col dd k0 k1 k2 k3 k5 newId))
    (hq : Q () ⟨h, g, d, t, os⟩) : wpAny M A (checkBuiltinCall newId ⟨.ref C :: rest, kw⟩) Q E ⟨h, g, d, t, os⟩ := by
  have inB : (Value.ref C :: bm).contains (.type B) = true := by
    rw [List.contains_cons, ch.base, Bool.or_true]
  have star := F.noStar
  simp only [checkBuiltinCall, F.newKind, F.newSplit, F.newRow]
  repeat (first
    | refine wpAny_loadPart_at atC ?_
    | (refine wpAny_isSubtype_exc atC ?_; rw [inB])
    | refine wpAny_staticBase_exc atC ?_
    | refine wpAny_madeBy_exc atC ?_
    | simp only [bne_self_eq_false, Bool.false_eq_true, if_false]
    | wp_step)
  exact hq

theorem runNew (F : ExcBaseFacts B newId initId bmB) (ch : Chain bm B) (atC : h.get? C = some (excClassObj nm q C N bs bm hdct sn sub ab col dd k0 k1 k2 k3 k5 newId)) (short : rest.length ≤ sizeLine)
    (hq : R (.ok (.ret (.ref (h.objs.size + 1)))) ⟨(h.push (W.kdv_tup rest)).push (HandSPX.excO C h.objs.size), g, d, t, os⟩) :
    codeAny (model prog w) A (.builtin newId ⟨.ref C :: rest, kw⟩) R ⟨h, g, d, t, os⟩ := by
  have ends := F.ends
  have inB : (Value.ref C :: bm).contains (.type B) = true := by
    rw [List.contains_cons, ch.base, Bool.or_true]
  have outA : (Value.ref C :: bm).contains (.type "AttributeError") = false := by
    rw [List.contains_cons, ch.noA]
    rfl
  have outN : (Value.ref C :: bm).contains (.type "NameError") = false := by
    rw [List.contains_cons, ch.noN]
    rfl
  refine codeAny_builtinAt F.entry ?_
  unfold Builtin.«BaseException.__new__»
  apply wpAt_bind
  show wpAt _ _ _ (stack >>= _) _ _ _
  apply wpAt_bind
  apply wpAt_stack
  intro p below
  apply wpAt_of_wpAny
  wp_walk
  apply wpAt_of_wpAny
  rw [F.owner]
  repeat (first
    | with_reducible refine wpAny_madeHere_exc F.canon atC ?_
    | with_reducible refine wpAny_loadPart_at atC ?_
    | (with_reducible refine wpAny_isSubtype_exc atC ?_; first | rw [inB] | rw [outA] | rw [outN])
    | wp_step)
  show R _ _
  rw [Heap.size_push]
  exact hq

theorem runCall (F : ExcBaseFacts B newId initId bmB) (ch : Chain bm B) {iv : Value} {Q : Fin → Shared → Prop} (atC : h.get? C = some (excClassObj nm q C N bs bm hdct sn sub ab col dd k0 k1 k2 k3 k5 newId))
    (lk : W.Looks (model prog w) h (typeLookup (.ref C) "__init__") (some iv)) (bd : ∀ self, W.Looks (model prog w) h (bindSpecial iv self) (iv, [self])) (short : rest.length ≤ sizeLine)
    (hq : codeAny (model prog w) A (.call iv ⟨.ref (h.objs.size + 1) :: rest, kw⟩)
      (fun r s' => match r with
        | .ok (.ret v) => v = .none ∧ Q (.done (.ret (.ref (h.objs.size + 1)))) s'
        | .ok _ => False
        | .error e => E e s')
      ⟨(h.push (W.kdv_tup rest)).push (HandSPX.excO C h.objs.size), g, d, t, os⟩) :
    wpAny (model prog w) A (Builtin.«type.__call__» ⟨.ref C :: rest, kw⟩) Q E ⟨h, g, d, t, os⟩ := by
  repeat (first
    | with_reducible refine wpAny_loadPart_at atC ?_
    | with_reducible refine wpAny_madeBy_exc atC ?_
    | wp_step)
  refine codeAny_call_builtin_code (Code.quiet_builtin _ F.quiet) (checkNew F ch atC ?_)
  refine runNew F ch atC short ?_
  show wpAny _ _ _ _ _ _
  have grown : ∀ b o, h.get? b = some o → ((h.push (W.kdv_tup rest)).push (HandSPX.excO C h.objs.size)).get? b = some o :=
    fun b o e => Heap.get?_push_of_some _ (Heap.get?_push_of_some _ e)
  have atC1 := grown _ _ atC
  have made : ((h.push (W.kdv_tup rest)).push (HandSPX.excO C h.objs.size)).get? (h.objs.size + 1) = some (HandSPX.excO C h.objs.size) := by heap_get
  have self_ : (Value.ref C :: bm).contains (.ref C) = true := by simp
  have lk1 := lk.keeps grown
  have bd1 := (bd (.ref (h.objs.size + 1))).keeps grown
  unfold isInstance
  repeat (first
    | with_reducible refine wpAny_loadPart_at made ?_
    | (with_reducible refine wpAny_isSubtype_exc atC1 ?_; rw [self_])
    | wp_step)
  show wpAny _ _ (typeLookup (.ref C) _) _ _ _
  refine lk1.at ?_
  refine wpAny_holding (wpAny_bind (bd1.at ?_))
  apply wpAny_bind
  refine wpAny_call (codeAny_mono hq ?_)
  intro r s' z
  match r, z with
  | .error e, z => exact z
  | .ok (.ret v), z =>
    obtain ⟨rfl, z⟩ := z
    first
      | exact wpAny_pure (wpAny_pure z)
      | (wp_walk; exact z)

theorem callE (F : ExcBaseFacts B newId initId bmB) (ch : Chain bm B) {iv : Value} (atC : h.get? C = some (excClassObj nm q C N bs bm hdct sn sub ab col dd k0 k1 k2 k3 k5 newId))
    (lk : W.Looks (model prog w) h (typeLookup (.ref C) "__init__") (some iv)) (bd : ∀ self, W.Looks (model prog w) h (bindSpecial iv self) (iv, [self])) (short : rest.length ≤ sizeLine)
    (hq : codeAny (model prog w) (A.under (.builtin "type.__call__" ⟨.ref C :: rest, kw⟩)) (.call iv ⟨.ref (h.objs.size + 1) :: rest, kw⟩) (W.InitBack (h.objs.size + 1) R)
      ⟨(h.push (W.kdv_tup rest)).push (HandSPX.excO C h.objs.size), g, d, t, os⟩) :
    codeAny (model prog w) A (.call (.ref C) ⟨rest, kw⟩) R ⟨h, g, d, t, os⟩ := by
  have e1 := tc_lookup
  have e2 := tc_bind (.ref C)
  have isT : (⟨h, g, d, t, os⟩ : Shared).TypeIs (.ref C) "type" := ⟨_, atC, rfl⟩
  apply codeAny_of_tree
  show wpAny _ _ (callAny (.ref C) _) _ _ _
  repeat (any_goals (first
    | assumption
    | with_reducible refine wpAny_loadPart_at atC ?_
    | wp_step))
  refine ⟨rfl, ?_⟩
  refine codeAny_call_builtin_at (Code.quiet_builtin _ (by decide +kernel)) entry_typeCall ?_
  refine wpAny_check_type_call_sub atC ?_
  refine runCall F ch atC lk bd short (codeAny_mono hq ?_)
  intro r s' z
  match r, z with
  | .error e, z => exact z
  | .ok (.ret v), z => exact z
end
end WbE
end PySem

set_option Elab.async false
set_option linter.all false
set_option maxRecDepth 100000
set_option maxHeartbeats 4000000
/-! Wb3: own exceptions as tracked values. -/
namespace PySem.F
theorem storeKeyError : StoreFacts "KeyError"
    [.type "KeyError", .type "LookupError", .type "Exception", .type "BaseException", .type "object"]
    "object.__setattr__" "object" := by
  refine ⟨by kernel_rfl, ?_, entry_object_sa, by decide +kernel, by decide +kernel, by decide +kernel, ?_, fun _ => by kernel_rfl⟩
  · refine .of (owner := "object") (n := "__setattr__") ?_ (by decide +kernel) (by decide +kernel) (by decide +kernel) ?_ ?_
    · rw [typeLookup_type, builtinLookup_eq_fast]
      kernel_rfl
    · first
        | exact .inl (by decide +kernel)
        | exact .inr (by decide +kernel)
    · rw [isSubtype_type]
      kernel_rfl
  · intro a b c
    unfold argsOk
    kernel_rfl
end PySem.F
namespace PySem
namespace WbE
open PySem.W PySem.Calls PyProof.Rows
section
open Builtin Builtin.ObjectAttr
variable {prog : Program} {w : World} {A : Around} {R : Result → Shared → Prop} {hp : Heap} {g : Array GenState} {d : Drawn} {t : Nat} {os : OsState}
/-- the first field of an exception of an own class, whatever its built-in base -/
theorem setFirst {S : String} {bmS : List Value} {K : W.Frag} {name : Str} {tk : Tok} {v : Value} {x C : Addr} {fv : Array Value} {cd : ClassData} (SF : StoreFacts S bmS "object.__setattr__" "object")
    (X : K.In hp) (hx : hp.get? x = some { cls := .ref C, data := .fields fv }) (hcd : W.clsIn K C = some cd) (hd : cd.hasDict = true) (over : excOver K C bmS = true) (no : W.findIn K (.ref C) name = some none)
    (hq : ∀ h' tk' dx, (∀ b o, b ≠ x → hp.get? b = some o → h'.get? b = some o) → hp.objs.size ≤ dx → dx ≠ x →
      h'.get? x = some { cls := .ref C, dict := some dx, data := .fields fv } → h'.Ns1 dx (fun y => if y = name then some v else none) → R (.ok (.ret .none)) ⟨h', g, d, tk', os⟩) :
    codeAny (model prog w) A (.call (.builtin "object.__setattr__") ⟨[.ref x, .str name tk, v], []⟩) R ⟨hp, g, d, t, os⟩ := by
  have at_ : W.InstAt hp x { cls := .ref C, data := .fields fv } C none := ⟨hx, rfl, rfl, trivial⟩
  have ne : x ≠ hp.objs.size := Nat.ne_of_lt (Heap.lt_size hx)
  have look : W.Looks (model prog w) hp (classData C) cd := W.looks_clsIn X hcd
  have taker : W.takerIn K C name = some none := by
    unfold W.takerIn
    rw [no]
    rfl
  refine W.osa_openX (s := ⟨hp, g, d, t, os⟩) SF X at_ over taker fun b => ?_
  obtain ⟨c1, c2, c3, c4, c5, hasD, c7, c8, c9, c10, c11⟩ := cd
  dsimp only at hd
  subst hd
  unfold storeInOwnDict ownDictForStores
  repeat (first
    | with_reducible refine HandSPX.store_in_new ?_ ?_
    | with_reducible refine wpAny_loadPart_at hx ?_
    | with_reducible refine look.at ?_
    | wp_step)
  · exact ⟨_, #[], _, (Heap.get?_update_ne _ _ _ _ ne.symm).trans (Heap.get?_push_at rfl rfl), rfl, fun e he => absurd he (by simp), fun _ => rfl⟩
  · intro h' tk' ns' same
    have pushed : (hp.push { cls := .type "dict", data := .dict #[] }).get? x = some { cls := .ref C, data := .fields fv } := Heap.get?_push_of_some _ hx
    refine hq h' tk' hp.objs.size ?_ (Nat.le_refl _) ne.symm ?_ ns'
    · intro b o hb ho
      rw [same.2 b (Nat.ne_of_lt (Heap.lt_size ho)), Heap.get?_update_ne _ _ _ _ hb]
      exact Heap.get?_push_of_some _ ho
    · rw [same.2 x ne]
      exact Heap.get?_update_self _ pushed rfl
end
end WbE
end PySem

namespace Wb
open PySem PySem.Spec PyProof.Rows L2
/-- what the written part says of an own exception's class at C: made by newId (of the built-in B), the fields stored as S's chain stores them -/
structure ErrC (K : PySem.W.Frag) (C : Addr) : Prop where
  new : ∃ (B newId initId : String) (bmB : List Value) (nm q : Str) (N : Addr) (bs bm : List Value) (sn : List Str) (sub : List Value) (ab : Bool) (col : Option Bool) (dd : Option Addr) (k0 k1 k2 k3 k5 : Option Value),
    PySem.ExcBaseFacts B newId initId bmB ∧ PySem.WbE.Chain bm B ∧ K.lookup C = some (excClassObj nm q C N bs bm true sn sub ab col dd k0 k1 k2 k3 k5 newId)
  store : ∃ (S : String) (bmS : List Value), PySem.StoreFacts S bmS "object.__setattr__" "object" ∧ PySem.W.excOver K C bmS = true
  sa : PySem.W.findIn K (.ref C) "__setattr__" = some (some (.builtin "object.__setattr__"))
  ga : PySem.W.findIn K (.ref C) "__getattribute__" = some (some (.builtin "BaseException.__getattribute__"))
  gg : PySem.W.findIn K (.ref C) "__getattr__" = some none
  exc : PySem.W.subIn K (.ref C) (.type "BaseException") = some true
  ty : PySem.W.typeIn K (.ref C) = some (.type "type")
  hd : PySem.W.hasDictIn K C = true
  kp : PySem.W.keepIn K (.ref C) = true
  hc : PySem.W.findIn K (.ref C) "__class__" = some (some (.builtin "object.__class__"))
  hn : PySem.W.specialIn K (.builtin "object.__class__") "__get__" = some (some (.builtin "getset_descriptor.__get__"))
  ht : PySem.W.takesIn K (.builtin "object.__class__") = some true
  hm : PySem.W.mroIn K C (.type "object") = some true

section
variable {X : Cx} {pins : List (Addr × Obj)} {σ : L2.St} {H : Hp} {s : Shared} {a C dx fI : Addr} {f : Str} {y v : V} {u : Value} {fs : List (Str × V)} {A : Around} {k : Nat}
/-- self.f = y in an __init__, the first field -/
theorem setNew {Q : Unit → Shared → Prop} {E : Value → Shared → Prop} (T : ErrC X.K C) (I : Inv X pins σ H s) (e : H a = some (exo a C none)) (no : PySem.W.findIn X.K (.ref C) f = some none) (ry : RelV y u)
    (h : ∀ dx s', H dx = none → dx ≠ a → Inv X pins σ (upd (upd H dx (exd dx [(f, y)])) a (exo a C (some dx))) s' → Q () s') : wpAny (model X.prog X.w) A (setAttr (.ref a) f u) Q E s := by
  obtain ⟨B, newId, initId, bmB, nm, q, N, bs, bm, sn, sub, ab, col, dd, k0, k1, k2, k3, k5, _, _, atC⟩ := T.new
  obtain ⟨S, bmS, SF, over⟩ := T.store
  have cls : PySem.W.clsIn X.K C = some { name := nm, bases := bs, mro := .ref C :: bm, ns := N, qualname := q, hasDict := true, slotNames := sn, subclasses := sub, abstract := ab, collection := col, hasDel := false } := by
    unfold PySem.W.clsIn
    rw [atC] <;> rfl
  obtain ⟨t1, ho⟩ := exo_at I.hok e
  obtain ⟨hp, g, d, t, os⟩ := s
  refine PySem.W.set_plain I.kIn (ox := { cls := .ref C, dict := none, data := .fields #[.ref t1, .none, .none, .none, .bool false, .none] }) (od := none) ⟨ho, rfl, rfl, trivial⟩ T.sa ?_
  refine PySem.WbE.setFirst SF I.kIn ho cls rfl over no ?_
  intro h' tk' dx kept big ne hx ns'
  have free : H dx = none := I.hok.fresh big
  have old : ∀ {b : Addr} {o : Obj}, hp.get? b = some o → b ≠ dx := fun {b o} z => Nat.ne_of_lt (Nat.lt_of_lt_of_le (Heap.lt_size z) big)
  have notA : ∀ {b : Addr}, H b = none → b ≠ a := by
    intro b n z
    rw [z, e] at n
    cases n
  have un : Un X.fs [] H (upd (upd H dx (exd dx [(f, y)])) a (exo a C (some dx))) hp h' := by
    constructor
    · exact fun b o z n _ _ => kept b o (notA n) z
    · exact fun b o z n _ _ => ⟨o.slots, kept b o (notA n) z⟩
    · intro b o z n _
      rw [upd_ne (notA n), upd_ne (old z)]
      exact n
    · intro b o z _
      by_cases hb : b = a
      · exact ⟨_, by rw [hb]; exact hx⟩
      · exact ⟨o, kept b o hb z⟩
    · intro b xs z
      rw [upd_ne (at_ne e z exo_tup), upd_ne (ne_of_none z free)]
      exact z
    · intro b o w z
      rw [upd_ne (at_ne e z exo_frz), upd_ne (ne_of_none z free)]
      exact z
    · intro b ps z
      refine ⟨#[], ?_⟩
      rw [upd_ne (at_ne e z exo_tbl), upd_ne (ne_of_none z free), z]
      simp
  refine h dx _ free ne (I.un (t' := tk') un ?_)
  intro b o z
  by_cases hb : b = a
  · subst hb
    rw [upd_same] at z
    cases z
    exact exo_ok hx
  rw [upd_ne hb] at z
  by_cases hb2 : b = dx
  · subst hb2
    rw [upd_same] at z
    cases z
    exact exd_ok ns' (relO_put (fs := []) ry fun g => True.intro)
  rw [upd_ne hb2] at z
  refine (I.hok b o z).stay ?_ ?_ ?_
  · intro c w hc z2
    refine kept c w ?_ z2
    rcases hc with hc | hc
    · rw [hc]; exact hb
    · exact at_ne e hc exo_own
  · intro c hc
    rw [upd_ne (at_ne e hc exo_own), upd_ne (ne_of_none hc free)]
    exact hc
  · intro c xs hc
    rw [upd_ne (at_ne e hc exo_tup), upd_ne (ne_of_none hc free)]
    exact hc

/-- C(..), C(k = ..) with C's own __init__: an exception at a new address -/
theorem runErr {CX : CXT} {fd : FuncData} {ps : List Str} {sp : Sp} {us : List Value} {kw : List (Str × Value)} {vs : List V} {binds : List Value} {Q : VK} (T : ErrC X.K C) (iC : PySem.W.findIn X.K (.ref C) "__init__" = some (some (.ref fI)))
    (tI : PySem.W.typeIn X.K (.ref fI) = some (.type "function")) (F1 : FnOk X.prog X.w X.K X.mg X.base CX k fI fd ps sp) (room : Room (k + 1) X.A) (hx : Passes CX X (fun _ _ _ => False)) (I : Inv X pins σ H s) (short : us.length ≤ sizeLine)
    (bind : ∀ (s' : Shared) (a : Addr), X.K.In s'.heap → BindsTo s' fd ⟨.ref a :: us, kw⟩ (ps.zip (.ref a :: binds))) (rel : Vals vs binds)
    (h : ∀ a, H a = none → sp (.ref a :: vs) (upd H a (exo a C none)) (fun v H2 => v = .non ∧ Q (.ref a) H2) (fun _ _ _ => False)) :
    wpAny (model X.prog X.w) X.A (call (.ref C) us kw) (EP X pins σ Q) X.xe s := by
  obtain ⟨B, newId, initId, bmB, nm, q, N, bs, bm, sn, sub, ab, col, dd, k0, k1, k2, k3, k5, FB, ch, atC⟩ := T.new
  obtain ⟨hp, g, dr, tk, os⟩ := s
  have le1 : hp.objs.size ≤ hp.objs.size + 1 := Nat.le_succ _
  have free : H (hp.objs.size + 1) = none := I.hok.fresh le1
  have want := h _ free
  have grown : ∀ b o, hp.get? b = some o → ((hp.push (PySem.W.kdv_tup us)).push (PySem.HandSPX.excO C hp.objs.size)).get? b = some o :=
    fun b o e => Heap.get?_push_of_some _ (Heap.get?_push_of_some _ e)
  have made : ((hp.push (PySem.W.kdv_tup us)).push (PySem.HandSPX.excO C hp.objs.size)).get? (hp.objs.size + 1) = some (PySem.HandSPX.excO C hp.objs.size) := by heap_get
  have I2 : Inv X pins σ (upd H (hp.objs.size + 1) (exo (hp.objs.size + 1) C none)) ⟨(hp.push (PySem.W.kdv_tup us)).push (PySem.HandSPX.excO C hp.objs.size), g, dr, tk, os⟩ :=
    I.laid (t' := tk) (a := hp.objs.size + 1) (o := exo (hp.objs.size + 1) C none) (h' := (hp.push (PySem.W.kdv_tup us)).push (PySem.HandSPX.excO C hp.objs.size)) grown le1 (exo_ok made)
  have rel2 : Vals (V.ref (hp.objs.size + 1) :: vs) (Value.ref (hp.objs.size + 1) :: binds) := .cons rfl rel
  apply wpAny_call
  refine PySem.WbE.callE (iv := .ref fI) FB ch (I.kIn _ _ atC) (PySem.W.looks_findIn I.kIn iC) (fun self => PySem.W.bind_fn I.kIn self tI) short ?_
  refine codeAny_mono (F1.run _ X.stack _ _ ⟨Value.ref (hp.objs.size + 1) :: us, kw⟩ (Value.ref (hp.objs.size + 1) :: binds) _ _ (fun _ _ _ => False) (room.make C us kw) (I2.env0.make C us kw) (bind _ _ I2.kIn) rel2 want) ?_
  intro r s' got
  match r, got with
  | .error er, got => exact hx pins σ _ _ er s' I2 got
  | .ok (.ret u), got =>
    obtain ⟨v, H', I3, rv, ev, q3⟩ := I2.after got
    subst ev
    exact ⟨rv, ⟨V.ref (hp.objs.size + 1), H', I3, rfl, q3⟩⟩
end
end Wb

set_option Elab.async false
set_option linter.all false
set_option maxRecDepth 100000
set_option maxHeartbeats 4000000
/-! Wb4: the rules over them. -/
namespace Wb
open PySem PySem.Spec PyProof.Rows L2

theorem upd_mid {H : Hp} {a d : Addr} {o p q : HO} : upd (upd (upd H a o) d p) a q = upd (upd H d p) a q := by
  funext b
  unfold upd
  by_cases h : b = a
  · rw [if_pos h, if_pos h]
  · rw [if_neg h, if_neg h]
    by_cases h2 : b = d
    · rw [if_pos h2, if_neg h]
    · rw [if_neg h2, if_neg h]

/-- self.f = e of an exception's __init__ -/
def tIni (K : PySem.W.Frag) (f : Str) (to te : TE) : TS := fun D σ H => te σ H fun y H1 => to σ H1 fun x H2 =>
  ∃ a C : Addr, x = .ref a ∧ ErrC K C ∧ PySem.W.findIn K (.ref C) f = some none ∧ H2 a = some (exo a C none) ∧
    ∀ dx, H2 dx = none → dx ≠ a → D.nx σ (upd (upd H2 dx (exd dx [(f, y)])) a (exo a C (some dx)))
/-- err.f -/
def tEFld (K : PySem.W.Frag) (f : Str) (to : TE) : TE := fun σ H Q => to σ H fun x H1 =>
  ∃ (a C dx : Addr) (fs : List (Str × V)) (v : V), x = .ref a ∧ H1 a = some (exo a C (some dx)) ∧ H1 dx = some (exd dx fs) ∧ ErrC K C ∧ PySem.W.findIn K (.ref C) f = some none ∧ fs.lookup f = some v ∧ Q v H1
/-- isinstance(err, c) -/
def rIsErr (K : PySem.W.Frag) : List V → Hp → VK → Prop := fun xs H Q =>
  ∃ (a C : Addr) (od : Option Addr) (c : V) (cu : Value) (b : Bool), xs = [.ref a, c] ∧ H a = some (exo a C od) ∧ (∀ dx, od = some dx → ∃ fs, H dx = some (exd dx fs)) ∧ ErrC K C ∧ ClsV c cu ∧
    PySem.W.kitOne K (.ref C) cu = some b ∧ Q (.bl b) H
/-- C(v): an exception at a, its dict at dx -/
def tErr (C : Addr) (f : Str) (ta : TA) : TE := fun σ H Q => ta σ H fun vs H1 =>
  ∃ v, vs = [v] ∧ ∀ a dx, H1 a = none → H1 dx = none → dx ≠ a → Q (.ref a) (upd (upd H1 dx (exd dx [(f, v)])) a (exo a C (some dx)))
/-- the same, to be raised -/
def tErrX (C : Addr) (f : Str) (ta : TA) : L2.St → Hp → XK → Prop := fun σ H Q => ta σ H fun vs H1 =>
  ∃ v, vs = [v] ∧ ∀ dx, H1 dx = none → Q (.ref C) (some dx) (upd H1 dx (.xd [(f, v)]))
/-- __init__(self, f): self.f = f -/
def spIni (C : Addr) (f : Str) : Sp := fun vs H Q _ => ∃ (a : Addr) (v : V), vs = [.ref a, v] ∧ H a = some (exo a C none) ∧
  ∀ dx, H dx = none → dx ≠ a → Q .non (upd (upd H dx (exd dx [(f, v)])) a (exo a C (some dx)))
/-- __init__(self): pass -/
def spIni0 : Sp := fun vs H Q _ => ∃ a : Addr, vs = [.ref a] ∧ Q .non H

section
variable {X : Cx} {o e : Expr} {es : List Expr} {kws : List Keyword} {to te : TE} {ta : TA} {f x : Str} {p p' pos : Pos} {C fI : Addr} {fd : FuncData} {CX : CXT} {k : Nat}
theorem ps_ini (ho : PE X o to) (he : PE X e te) (hs : swapsWith e (some (.Attribute o f p')) pos.line X.env = pure false := by rfl) : PS X (.Assign [.Attribute o f p'] e pos) (tIni X.K f to te) := by
  constructor
  intro pins s σ H D I h
  refine plainObj_wpAny_Assign_Attribute (thn (he.run pins s σ H _ I h) ?_) hs
  rintro v s1 ⟨y, H1, I1, ry, q1⟩
  refine thn (ho.run pins s1 σ H1 _ I1 q1) ?_
  rintro u s2 ⟨x, H2, I2, rx, a, C, rfl, T, no, ea, q⟩
  obtain rfl : u = Value.ref a := rx
  exact setNew T I2 ea no ry fun dx s' n ne J => ⟨σ, _, J, q dx n ne⟩

theorem readErr {pins : List (Addr × Obj)} {σ : L2.St} {H : Hp} {s : Shared} {a dx : Addr} {fs : List (Str × V)} {v : V} {b : Bool} {A : Around} {Q : Value → Shared → Prop} {E : Value → Shared → Prop} (T : ErrC X.K C) (I : Inv X pins σ H s) (ea : H a = some (exo a C (some dx)))
    (ed : H dx = some (exd dx fs)) (no : PySem.W.findIn X.K (.ref C) f = some none) (l : fs.lookup f = some v) (h : ∀ u t', RelV v u → Q u { s with toks := t' }) : wpAny (model X.prog X.w) A (getAttr (.ref a) f b) Q E s := by
  obtain ⟨t1, ho⟩ := exo_at I.hok ea
  obtain ⟨mA, hns, rel⟩ := exd_at I.hok ed
  obtain ⟨od, hod, look⟩ := lookIn_ns hns
  obtain ⟨u, hu, ru⟩ := RelO.some_of (v := v) (o := mA f) (by rw [← l]; exact rel f)
  exact PySem.HandSPX.exc_get (od := some od) I.kIn ⟨ho, rfl, rfl, hod⟩ T.ga T.gg T.exc (PySem.W.findObj_own T.hd no rfl (by rw [look, hu])) (handed_of ru) (h u _ ru)

theorem pe_efld (ho : PE X o to) (hb : attributeBase o f X.env (eval o X.env) = eval o X.env := by rfl) : PE X (.Attribute o f pos) (tEFld X.K f to) := by
  constructor
  intro pins s σ H Q I h
  refine attr_of hb (thn (ho.run pins s σ H _ I h) ?_)
  rintro u s1 ⟨x, H1, I1, rx, a, C, dx, fs, v, rfl, ea, ed, T, no, l, q⟩
  obtain rfl : u = Value.ref a := rx
  exact readErr T I1 ea ed no l fun w t' rw' => ⟨v, H1, I1.tok t', rw', q⟩

theorem call_isErr : CallR X (.builtin "isinstance") (rIsErr X.K) := by
  intro pins s σ H xs us Q I r h
  obtain ⟨a, C, od, c, cu, b, rfl, ea, hod, T, kc, ek, q⟩ := h
  obtain ⟨u1, u2, rfl, r1, r2⟩ := vals2 r
  obtain rfl : u1 = Value.ref a := r1
  have e2 := kc.eq r2
  subst e2
  obtain ⟨t1, ho⟩ := exo_at I.hok ea
  have cls : (PySem.W.clsIn X.K C).isSome = true := by
    obtain ⟨cd, hcd, _⟩ := PySem.W.any_some T.hd
    rw [hcd]
    rfl
  have fin : ∀ tk, EP X pins σ Q (.bool b) { s with toks := tk } := fun tk => ⟨.bl b, H, I.tok tk, rfl, q⟩
  cases od with
  | none =>
    exact PySem.W.kia_one (PySem.W.kitx_exc (od := none) cls T.ga T.gg T.exc T.hc T.hn T.ht T.hm) I.kIn (⟨ho, rfl, rfl, trivial⟩ : PySem.W.InstAt s.heap a _ C none) ek (fun z => nomatch z) fin
  | some dx =>
    obtain ⟨fs, ed⟩ := hod dx rfl
    obtain ⟨mA, hns, _⟩ := exd_at I.hok ed
    obtain ⟨od, hod, _⟩ := lookIn_ns hns
    exact PySem.W.kia_one (PySem.W.kitx_exc (od := some od) cls T.ga T.gg T.exc T.hc T.hn T.ht T.hm) I.kIn (⟨ho, rfl, rfl, hod⟩ : PySem.W.InstAt s.heap a _ C (some od)) ek (fun z => nomatch z) fin

/-- C(e) -/
theorem pe_err (T : ErrC X.K C) (iC : PySem.W.findIn X.K (.ref C) "__init__" = some (some (.ref fI))) (tI : PySem.W.typeIn X.K (.ref fI) = some (.type "function")) {ps : List Str} (F1 : FnOk X.prog X.w X.K X.mg X.base CX k fI fd ps (spIni C f)) (room : Room (k + 1) X.A)
    (hb : Binds X.K fd ps []) (hx : Passes CX X (fun _ _ _ => False)) (hg : Gl X x) (hm : X.mg x = some (.ref C)) (ha : PA X (e :: es) ta) (hdb : (x == ("__debug__" : Str)) = false := by decide)
    (he : starEach (e :: es) X.env = (false, eval e X.env) :: starEach es X.env := by rfl) (hpl : (backTo pos (starEach es X.env)).any (·.1) = false := by rfl) : PE X (.Call (.Name x p) (e :: es) [] pos) (tErr C f ta) := by
  constructor
  intro pins s σ H Q I h
  apply wpAny_Call_Name_kw
  apply ld_glob I hg hm _ hdb
  refine PySem.W.callWith_K (h₀ := X.base) I.ok.mod.kin T.kp (thn (ha.run pos pins s σ H _ I h) ?_) he hpl
  rintro us s1 ⟨vs, H1, I1, r1, v, rfl, q⟩
  refine ⟨I1.kIn, ?_⟩
  show wpAny _ _ (call (.ref C) us) _ _ _
  have want : ∀ a : Addr, H1 a = none → spIni C f (.ref a :: [v]) (upd H1 a (exo a C none)) (fun v H2 => v = .non ∧ Q (.ref a) H2) (fun _ _ _ => False) := by
    intro a ha
    refine ⟨a, v, rfl, upd_same, fun dx hd ne => ⟨rfl, ?_⟩⟩
    rw [upd_mid]
    rw [upd_ne ne] at hd
    exact q a dx ha hd ne
  have many : ∀ a : Addr, (Value.ref a :: us).length = ps.length := by
    intro a
    obtain ⟨n0, hn0⟩ : ∃ n0, H1 n0 = none := ⟨s1.heap.objs.size, I1.hok.fresh (Nat.le_refl _)⟩
    have e1 := F1.len _ _ _ _ (want n0 hn0)
    have e2 := r1.length
    simp only [List.length_cons] at e1 e2 ⊢
    omega
  refine runErr T iC tI F1 room hx I1 (binds := us) (vs := [v]) ?_ ?_ r1 want
  · rw [← r1.length, sizeLine_eq]
    simp
  · intro s' a inK
    have q2 := hb s' (.ref a :: us) inK (by rw [List.append_nil]; exact many a)
    rw [List.append_nil] at q2
    exact q2

/-- C(f = e) -/
theorem pe_errK {g : Str} {kpos : Pos} (T : ErrC X.K C) (iC : PySem.W.findIn X.K (.ref C) "__init__" = some (some (.ref fI))) (tI : PySem.W.typeIn X.K (.ref fI) = some (.type "function")) {s0 : Str} (F1 : FnOk X.prog X.w X.K X.mg X.base CX k fI fd [s0, g] (spIni C f)) (room : Room (k + 1) X.A)
    (hb : ∀ (s' : Shared) (a v : Value), BindsTo s' fd ⟨[a], [(g, v)]⟩ [(s0, a), (g, v)]) (hx : Passes CX X (fun _ _ _ => False)) (hg : Gl X x) (hm : X.mg x = some (.ref C)) (he : PE X e te) (hdb : (x == ("__debug__" : Str)) = false := by decide) :
    PE X (.Call (.Name x p) [] [⟨some g, e, kpos⟩] pos) (tErr C f (tCons te tNil)) := by
  constructor
  intro pins s σ H Q I h
  apply wpAny_Call_Name_kw
  apply ld_glob I hg hm _ hdb
  have pk : PK X [⟨some g, e, kpos⟩] (tCons te tNil) := pk_cons he pk_nil
  refine PySem.W.callWith_KW0 (h₀ := X.base) I.ok.mod.kin T.kp (by rfl) (thn (pk.run pos pins s σ H _ I h) ?_)
  rintro us s1 ⟨vs, H1, I1, r1, v, rfl, q⟩
  refine ⟨I1.kIn, ?_⟩
  have want : ∀ a : Addr, H1 a = none → spIni C f (.ref a :: [v]) (upd H1 a (exo a C none)) (fun v H2 => v = .non ∧ Q (.ref a) H2) (fun _ _ _ => False) := by
    intro a ha
    refine ⟨a, v, rfl, upd_same, fun dx hd ne => ⟨rfl, ?_⟩⟩
    rw [upd_mid]
    rw [upd_ne ne] at hd
    exact q a dx ha hd ne
  cases r1 with
  | cons rv rn =>
  cases rn
  rename_i u
  refine runErr (us := []) (kw := [(g, u)]) T iC tI F1 room hx I1 (binds := [u]) (vs := [v]) (by rw [sizeLine_eq]; simp) ?_ (.cons rv .nil) want
  intro s' a inK
  exact hb s' _ _
end
end Wb

set_option Elab.async false
set_option linter.all false
set_option maxRecDepth 100000
set_option maxHeartbeats 4000000
/-! Wb5: own exceptions raised; those whose __init__ does nothing; those without one. -/
namespace Wb
open PySem PySem.Spec PyProof.Rows L2

section
variable {X : Cx} {e : Expr} {es : List Expr} {te : TE} {ta : TA} {f x : Str} {p p' pos : Pos} {C fI : Addr} {fd : FuncData} {CX : CXT} {k : Nat}
theorem untracked' {H : Hp} {a dx : Addr} {o o' u : HO} {z : HO} (ha : H a = none) (ne : dx ≠ a) : upd (del (upd (upd (upd H a o) dx u) a o') a) dx z = upd H dx z := by
  funext b
  unfold upd del
  by_cases h : b = dx
  · rw [if_pos h, if_pos h]
  · rw [if_neg h, if_neg h]
    by_cases h2 : b = a
    · rw [if_pos h2, h2, ha]
    · rw [if_neg h2]
      show (if b = a then some o' else if b = dx then some u else if b = a then some o else H b) = H b
      rw [if_neg h2, if_neg h, if_neg h2]

/-- C(e), to be raised -/
theorem pmk_err (T : ErrC X.K C) (iC : PySem.W.findIn X.K (.ref C) "__init__" = some (some (.ref fI))) (tI : PySem.W.typeIn X.K (.ref fI) = some (.type "function")) {ps : List Str} (F1 : FnOk X.prog X.w X.K X.mg X.base CX k fI fd ps (spIni C f)) (room : Room (k + 1) X.A)
    (hb : Binds X.K fd ps []) (hx : Passes CX X (fun _ _ _ => False)) (hg : Gl X x) (hm : X.mg x = some (.ref C)) (ha : PA X (e :: es) ta) (hdb : (x == ("__debug__" : Str)) = false := by decide)
    (he : starEach (e :: es) X.env = (false, eval e X.env) :: starEach es X.env := by rfl) (hpl : (backTo pos (starEach es X.env)).any (·.1) = false := by rfl) : PMk X (.Call (.Name x p) (e :: es) [] pos) (tErrX C f ta) := by
  intro pins s σ H Q I h
  obtain ⟨B, newId, initId, bmB, nm, q, N, bs, bm, sn, sub, ab, col, dd, k0, k1, k2, k3, k5, FB, ch, atC⟩ := T.new
  apply wpAny_Call_Name_kw
  apply ld_glob I hg hm _ hdb
  refine PySem.W.callWith_K (h₀ := X.base) I.ok.mod.kin T.kp (thn (ha.run pos pins s σ H _ I h) ?_) he hpl
  rintro us s1 ⟨vs, H1, I1, r1, v, rfl, q1⟩
  refine ⟨I1.kIn, ?_⟩
  show wpAny _ _ (call (.ref C) us) _ _ _
  obtain ⟨hp, g, dr, tk, os⟩ := s1
  have le1 : hp.objs.size ≤ hp.objs.size + 1 := Nat.le_succ _
  have free : H1 (hp.objs.size + 1) = none := I1.hok.fresh le1
  have want : spIni C f (.ref (hp.objs.size + 1) :: [v]) (upd H1 (hp.objs.size + 1) (exo (hp.objs.size + 1) C none))
      (fun r H2 => r = .non ∧ ∃ d : Addr, H2 (hp.objs.size + 1) = some (exo (hp.objs.size + 1) C (some d)) ∧ H2 d = some (exd d [(f, v)]) ∧ H1 d = none ∧ Q (.ref C) (some d) (upd (del H2 (hp.objs.size + 1)) d (.xd [(f, v)]))) (fun _ _ _ => False) := by
    refine ⟨_, v, rfl, upd_same, fun dx hd ne => ⟨rfl, dx, upd_same, ?_, ?_, ?_⟩⟩
    · rw [upd_ne ne, upd_same]
    · rw [upd_ne ne] at hd
      exact hd
    · rw [untracked' free ne]
      rw [upd_ne ne] at hd
      exact q1 dx hd
  have grown : ∀ b o, hp.get? b = some o → ((hp.push (PySem.W.kdv_tup us)).push (PySem.HandSPX.excO C hp.objs.size)).get? b = some o :=
    fun b o z => Heap.get?_push_of_some _ (Heap.get?_push_of_some _ z)
  have made : ((hp.push (PySem.W.kdv_tup us)).push (PySem.HandSPX.excO C hp.objs.size)).get? (hp.objs.size + 1) = some (PySem.HandSPX.excO C hp.objs.size) := by heap_get
  have I2 : Inv X pins σ (upd H1 (hp.objs.size + 1) (exo (hp.objs.size + 1) C none)) ⟨(hp.push (PySem.W.kdv_tup us)).push (PySem.HandSPX.excO C hp.objs.size), g, dr, tk, os⟩ :=
    I1.laid (t' := tk) (a := hp.objs.size + 1) (o := exo (hp.objs.size + 1) C none) (h' := (hp.push (PySem.W.kdv_tup us)).push (PySem.HandSPX.excO C hp.objs.size)) grown le1 (exo_ok made)
  have rel2 : Vals (V.ref (hp.objs.size + 1) :: [v]) (Value.ref (hp.objs.size + 1) :: us) := .cons rfl r1
  have many : (Value.ref (hp.objs.size + 1) :: us).length = ps.length := rel2.length.symm.trans (F1.len _ _ _ _ want)
  have short : us.length ≤ sizeLine := by
    rw [← r1.length, sizeLine_eq]
    simp
  have hb2 := hb ⟨(hp.push (PySem.W.kdv_tup us)).push (PySem.HandSPX.excO C hp.objs.size), g, dr, tk, os⟩ (Value.ref (hp.objs.size + 1) :: us) I2.kIn (by rw [List.append_nil]; exact many)
  rw [List.append_nil] at hb2
  apply wpAny_call
  refine PySem.WbE.callE (iv := .ref fI) FB ch (I1.kIn _ _ atC) (PySem.W.looks_findIn I1.kIn iC) (fun self => PySem.W.bind_fn I1.kIn self tI) short ?_
  refine codeAny_mono (F1.run _ X.stack _ _ ⟨Value.ref (hp.objs.size + 1) :: us, []⟩ (Value.ref (hp.objs.size + 1) :: us) _ _ (fun _ _ _ => False) (room.make C us []) (I2.env0.make C us []) hb2 rel2 want) ?_
  intro r s' got
  match r, got with
  | .error er, got => exact hx pins σ _ _ er s' I2 got
  | .ok (.ret u), got =>
    obtain ⟨r, H2, os2, bare2, un2, ok2, rv, ev, d, ea, ed, hd1, q2⟩ := got
    subst ev
    obtain ⟨h2, g2, d2, t2, os'⟩ := s'
    exact ⟨rv, mk_end (raises_own T.exc T.ty) I1 le1 grown un2 ok2 os2 bare2 ea ed hd1 q2⟩
end

/-! ### an __init__ that does nothing -/
section
variable {prog : Program} {w : World} {A : Around} {R : Result → Shared → Prop} {s : Shared} {K : PySem.W.Frag}
theorem idle {qual : Str} {st : Stmt} {fI : Addr} {fd : FuncData} {pp : Pos} {x : Value} (inK : K.In s.heap) (lim : s.heap.NoLimit) (F : Fun K "__init__" qual st fI fd) (body : defBody st = [.Pass pp])
    (S : FnScope ["self"] ["self"] (defScope st)) (loc : (defScope st).names.lookup ("self" : Str) = some NameKind.local) (bind : BindsTo s fd ⟨[x], []⟩ [("self", x)]) (room : A.depth < recursionLimit)
    (hq : ∀ h' tk, (∀ b o, s.heap.get? b = some o → h'.get? b = some o) → R (.ok (.ret .none)) { s with heap := h', toks := tk }) :
    codeAny (model prog w) A (.call (.ref fI) ⟨[x], []⟩) R s := by
  obtain ⟨a1, a2, a3, a4, a5, a6, cdv, a8, a9, rfl, found, coded⟩ := F.ex
  refine Att.call_fn inK lim found coded room bind ?_ ?_ S.co S.gen S.kind
  · simp [loc]
  · intro s1 ic
    obtain ⟨h1, tk1, rfl⟩ := ic.toInCall.same
    rw [body]
    refine wpAny_execs_cons (wpAny_Pass ?_)
    exact wpAny_execs_nil (hq h1 tk1 ic.toInCall.keep)
end
section
variable {X : Cx} {f x : Str} {p pos : Pos} {C fI : Addr} {fd : FuncData} {k : Nat}
/-- C(): an exception at a new address -/
def tErr0 (C : Addr) : TE := fun _ H Q => ∀ a, H a = none → Q (.ref a) (upd H a (exo a C none))
def tErrX0 (C : Addr) : L2.St → Hp → XK → Prop := fun _ H Q => Q (.ref C) none H

theorem run0 {pins : List (Addr × Obj)} {σ : L2.St} {H : Hp} {s : Shared} {qual : Str} {st : Stmt} {pp : Pos} {Q : Value → Shared → Prop} {E : Value → Shared → Prop} (T : ErrC X.K C) (iC : PySem.W.findIn X.K (.ref C) "__init__" = some (some (.ref fI))) (tI : PySem.W.typeIn X.K (.ref fI) = some (.type "function"))
    (F : Fun X.K "__init__" qual st fI fd) (body : defBody st = [.Pass pp]) (S : FnScope ["self"] ["self"] (defScope st)) (loc : (defScope st).names.lookup ("self" : Str) = some NameKind.local) (bind : ∀ (s : Shared) (v : Value), BindsTo s fd ⟨[v], []⟩ [("self", v)]) (room : Room 1 X.A) (I : Inv X pins σ H s)
    (hq : ∀ h' tk t0, (∀ b o, s.heap.get? b = some o → h'.get? b = some o) → h'.get? (s.heap.objs.size + 1) = some (PySem.HandSPX.excO C t0) → s.heap.get? t0 = none → h'.get? t0 = some (PySem.W.kdv_tup []) → Q (.ref (s.heap.objs.size + 1)) { s with heap := h', toks := tk }) :
    wpAny (model X.prog X.w) X.A (call (.ref C) []) Q E s := by
  obtain ⟨B, newId, initId, bmB, nm, q, N, bs, bm, sn, sub, ab, col, dd, k0, k1, k2, k3, k5, FB, ch, atC⟩ := T.new
  have lim := I.nolimit
  have inK := I.kIn
  obtain ⟨hp, g, dr, tk, os⟩ := s
  have grown : ∀ b o, hp.get? b = some o → ((hp.push (PySem.W.kdv_tup [])).push (PySem.HandSPX.excO C hp.objs.size)).get? b = some o :=
    fun b o z => Heap.get?_push_of_some _ (Heap.get?_push_of_some _ z)
  have made : ((hp.push (PySem.W.kdv_tup [])).push (PySem.HandSPX.excO C hp.objs.size)).get? (hp.objs.size + 1) = some (PySem.HandSPX.excO C hp.objs.size) := by heap_get
  have made2 : ((hp.push (PySem.W.kdv_tup [])).push (PySem.HandSPX.excO C hp.objs.size)).get? hp.objs.size = some (PySem.W.kdv_tup []) := by heap_get
  apply wpAny_call
  refine PySem.WbE.callE (iv := .ref fI) FB ch (inK _ _ atC) (PySem.W.looks_findIn inK iC) (fun self => PySem.W.bind_fn inK self tI) (by rw [sizeLine_eq]; simp) ?_
  refine idle (s := ⟨(hp.push (PySem.W.kdv_tup [])).push (PySem.HandSPX.excO C hp.objs.size), g, dr, tk, os⟩) (inK.keeps grown) (lim.keeps grown) F body S loc (bind _ _) ?_ ?_
  · have := (room.make C [] [] (k := 0)).depth
    exact this
  · intro h' tk' kept
    exact ⟨rfl, hq h' tk' hp.objs.size (fun b o z => kept b o (grown b o z)) (kept _ _ made) (Heap.get?_none_of_le (Nat.le_refl _)) (kept _ _ made2)⟩

theorem pe_err0 {qual : Str} {st : Stmt} {pp : Pos} (T : ErrC X.K C) (iC : PySem.W.findIn X.K (.ref C) "__init__" = some (some (.ref fI))) (tI : PySem.W.typeIn X.K (.ref fI) = some (.type "function"))
    (F : Fun X.K "__init__" qual st fI fd) (body : defBody st = [.Pass pp]) (S : FnScope ["self"] ["self"] (defScope st)) (loc : (defScope st).names.lookup ("self" : Str) = some NameKind.local) (bind : ∀ (s : Shared) (v : Value), BindsTo s fd ⟨[v], []⟩ [("self", v)]) (room : Room 1 X.A)
    (hg : Gl X x) (hm : X.mg x = some (.ref C)) (hdb : (x == ("__debug__" : Str)) = false := by decide) : PE X (.Call (.Name x p) [] [] pos) (tErr0 C) := by
  constructor
  intro pins s σ H Q I h
  apply wpAny_Call_Name_kw
  apply ld_glob I hg hm _ hdb
  refine PySem.W.callWith_K0 I.kIn T.kp ?_
  refine run0 T iC tI F body S loc bind room I ?_
  intro h' tk t0 kept made _ _
  exact ⟨.ref _, _, I.laid (t' := tk) kept (Nat.le_succ _) (exo_ok made), rfl, h _ (I.hok.fresh (Nat.le_succ _))⟩

theorem pmk_err0 {qual : Str} {st : Stmt} {pp : Pos} (T : ErrC X.K C) (iC : PySem.W.findIn X.K (.ref C) "__init__" = some (some (.ref fI))) (tI : PySem.W.typeIn X.K (.ref fI) = some (.type "function"))
    (F : Fun X.K "__init__" qual st fI fd) (body : defBody st = [.Pass pp]) (S : FnScope ["self"] ["self"] (defScope st)) (loc : (defScope st).names.lookup ("self" : Str) = some NameKind.local) (bind : ∀ (s : Shared) (v : Value), BindsTo s fd ⟨[v], []⟩ [("self", v)]) (room : Room 1 X.A)
    (hg : Gl X x) (hm : X.mg x = some (.ref C)) (hdb : (x == ("__debug__" : Str)) = false := by decide) : PMk X (.Call (.Name x p) [] [] pos) (tErrX0 C) := by
  intro pins s σ H Q I h
  apply wpAny_Call_Name_kw
  apply ld_glob I hg hm _ hdb
  refine PySem.W.callWith_K0 I.kIn T.kp ?_
  refine run0 T iC tI F body S loc bind room I ?_
  intro h' tk t0 kept made fr madeT
  have mexc : Heap.MadeExcOf s.heap h' (s.heap.objs.size + 1) (.ref C) [] := ⟨kept, Heap.get?_none_of_le (Nat.le_succ _), t0, made, fr, madeT⟩
  have J : Inv X pins σ H { s with toks := tk } := I.tok tk
  exact mk_of (s := { s with toks := tk }) J mexc (raises_own T.exc T.ty) h (I.hok.fresh (Nat.le_succ _))

/-- a class without own __init__: C() -/
theorem pe_errB {B newId initId : String} {bmB : List Value} (T : ErrC X.K C) (FB : PySem.ExcBaseFacts B newId initId bmB) (iC : PySem.W.findIn X.K (.ref C) "__init__" = some (some (.builtin initId)))
    (new : ∃ (nm q : Str) (N : Addr) (bs bm : List Value) (sn : List Str) (sub : List Value) (ab : Bool) (col : Option Bool) (dd : Option Addr) (k0 k1 k2 k3 k5 : Option Value),
      X.K.lookup C = some (excClassObj nm q C N bs bm true sn sub ab col dd k0 k1 k2 k3 k5 newId) ∧ PySem.WbE.Chain bm B ∧ ∀ X : String, bm.contains (.type X) = bmB.contains (.type X))
    (hg : Gl X x) (hm : X.mg x = some (.ref C)) (hdb : (x == ("__debug__" : Str)) = false := by decide) : PE X (.Call (.Name x p) [] [] pos) (tErr0 C) := by
  obtain ⟨nm, q, N, bs, bm, sn, sub, ab, col, dd, k0, k1, k2, k3, k5, atC, ch, hT⟩ := new
  constructor
  intro pins s σ H Q I h
  apply wpAny_Call_Name_kw
  apply ld_glob I hg hm _ hdb
  refine PySem.W.callWith_K0 I.kIn T.kp ?_
  show wpAny _ _ (call (.ref C) []) _ _ _
  have inK := I.kIn
  have fr := I.hok.fresh (a := s.heap.objs.size + 1) (Nat.le_succ _)
  obtain ⟨hp, g, dr, tk, os⟩ := s
  have grown : ∀ b o, hp.get? b = some o → ((hp.push (PySem.W.kdv_tup [])).push (PySem.HandSPX.excO C hp.objs.size)).get? b = some o :=
    fun b o z => Heap.get?_push_of_some _ (Heap.get?_push_of_some _ z)
  have made : ((hp.push (PySem.W.kdv_tup [])).push (PySem.HandSPX.excO C hp.objs.size)).get? (hp.objs.size + 1) = some (PySem.HandSPX.excO C hp.objs.size) := by heap_get
  apply wpAny_call
  refine PySem.WbE.callE (iv := .builtin initId) FB ch (inK _ _ atC) (PySem.W.looks_findIn inK iC) (fun self => ?_) (by rw [sizeLine_eq]; simp) ?_
  · rw [FB.init.bind self]
    exact .now
  · refine PySem.HandSPX.init_base FB hT (grown _ _ (inK _ _ atC)) made (by rw [sizeLine_eq]; simp) ?_
    intro h' t1 kept now
    have old : ∀ b o, hp.get? b = some o → h'.get? b = some o := fun b o z => kept b o (Nat.ne_of_lt (Nat.lt_succ_of_lt (Heap.lt_size z))) (grown b o z)
    exact ⟨rfl, .ref _, _, I.laid (t' := tk) old (Nat.le_succ _) (exo_ok now), rfl, h _ fr⟩
end
end Wb

set_option Elab.async false
set_option linter.all false
set_option maxRecDepth 100000
set_option maxHeartbeats 4000000
/-! Wb6: the deal that a law draws from: what is known of it, and what is kept beside it. -/
namespace Wb
open PySem PySem.Spec PyProof.Rows L2

/-- the heap without the deal's two lists -/
def off (H : Hp) (d c : Addr) : Hp := fun b => if b = d ∨ b = c then none else H b
theorem off_at {H : Hp} {d c b : Addr} (h1 : b ≠ d) (h2 : b ≠ c) : off H d c b = H b := if_neg (fun z => z.elim h1 h2)
theorem off_some {H : Hp} {d c b : Addr} {o : HO} (h : off H d c b = some o) : H b = some o ∧ b ≠ d ∧ b ≠ c := by
  unfold off at h
  by_cases e : b = d ∨ b = c
  · rw [if_pos e] at h
    cases h
  · rw [if_neg e] at h
    exact ⟨h, fun z => e (.inl z), fun z => e (.inr z)⟩
theorem off_le (H : Hp) (d c : Addr) : Same (off H d c) H := fun b o h => (off_some h).1
theorem off_mono {H H' : Hp} {d c : Addr} (h : Same H H') : Same (off H d c) (off H' d c) := by
  intro b o z
  obtain ⟨z1, z2, z3⟩ := off_some z
  rw [off_at z2 z3]
  exact h b o z1
theorem off_none {H : Hp} {d c b : Addr} (h : H b = none) : off H d c b = none := by
  unfold off
  split
  · rfl
  · exact h
/-- a new object is kept -/
theorem new_same {H : Hp} {p : Addr} {o : HO} (h : H p = none) : Same H (upd H p o) := fun b u z => by
  rw [upd_ne (ne_of_none z h)]
  exact z
theorem off_new {H : Hp} {d c p : Addr} {o : HO} (h1 : p ≠ d) (h2 : p ≠ c) : off (upd H p o) d c p = some o := by
  rw [off_at h1 h2]
  exact upd_same

/-- the deal: a list at d of the cells' list at c, and a number -/
structure Deal (H : Hp) (d c : Addr) : Prop where
  ex : ∃ (cs : List Int) (mix : Int), H d = some (.lst [.ref c, .int mix]) ∧ H c = some (.lst (cs.map V.int)) ∧ cs.length ≤ 63 ∧ (∀ z ∈ cs, 0 ≤ z) ∧ 0 ≤ mix ∧ mix < 2147483647
theorem Deal.ne {H : Hp} {d c : Addr} (D : Deal H d c) : d ≠ c := by
  obtain ⟨cs, mix, h1, h2, _⟩ := D.ex
  refine ne_of h1 h2 fun z => ?_
  have z2 : [V.ref c, V.int mix] = cs.map V.int := HO.lst.inj z
  cases cs with
  | nil => cases z2
  | cons a r => cases z2
theorem Deal.same {H H' : Hp} {d c : Addr} (D : Deal H d c) (s : Same H H') : Deal H' d c := by
  obtain ⟨cs, mix, h1, h2, h3⟩ := D.ex
  exact ⟨cs, mix, s _ _ h1, s _ _ h2, h3⟩
/-- a free address is none of the deal's -/
theorem Deal.free {H : Hp} {d c p : Addr} (D : Deal H d c) (h : H p = none) : p ≠ d ∧ p ≠ c := by
  obtain ⟨cs, mix, h1, h2, h3⟩ := D.ex
  exact ⟨(ne_of_none h1 h).symm, (ne_of_none h2 h).symm⟩
/-- the deal's own lists changed: all else is kept -/
theorem off_dc {H : Hp} {d c : Addr} {o u : HO} : off (upd (upd H c o) d u) d c = off H d c := by
  funext b
  unfold off
  by_cases e : b = d ∨ b = c
  · rw [if_pos e, if_pos e]
  · rw [if_neg e, if_neg e, upd_ne (fun z => e (.inl z)), upd_ne (fun z => e (.inr z))]
theorem off_c {H : Hp} {d c : Addr} {o : HO} : off (upd H c o) d c = off H d c := by
  funext b
  unfold off
  by_cases e : b = d ∨ b = c
  · rw [if_pos e, if_pos e]
  · rw [if_neg e, if_neg e, upd_ne (fun z => e (.inr z))]
theorem off_d {H : Hp} {d c : Addr} {o : HO} : off (upd H d o) d c = off H d c := by
  funext b
  unfold off
  by_cases e : b = d ∨ b = c
  · rw [if_pos e, if_pos e]
  · rw [if_neg e, if_neg e, upd_ne (fun z => e (.inl z))]

theorem seqT {K : PySem.W.Frag} {H H' : Hp} {a : Addr} {xs : List V} (e : Same H H') (h : SqT K H a xs) : SqT K H' a xs := by
  rcases h with (h | ⟨o, h⟩) | h
  · exact Or.inl (Or.inl (e _ _ h))
  · exact Or.inl (Or.inr ⟨o, e _ _ h⟩)
  · exact Or.inr h
/-- an item at a place drawn -/
theorem item_at {xs : List V} {r : Int} (h0 : 0 ≤ r) (h1 : r < (xs.length : Int)) : ∃ v, v ∈ xs ∧ atI xs r = some v := by
  obtain ⟨j, rfl⟩ := Int.eq_ofNat_of_zero_le h0
  have hj : j < xs.length := by omega
  exact ⟨xs[j], List.getElem_mem hj, atI_nat (List.getElem?_eq_getElem hj)⟩
theorem nil_or_last {α : Type} (l : List α) : l = [] ∨ ∃ ini z, l = ini ++ [z] := by
  cases l with
  | nil => exact .inl rfl
  | cons a r => exact .inr ⟨(a :: r).dropLast, (a :: r).getLast (by simp), (List.dropLast_concat_getLast (by simp)).symm⟩
/-- one statement and the rest, what is known between them said apart -/
theorem seqI {t1 t2 : TS} {D : Ends} {σ : L2.St} {H : Hp} (Ex : L2.St → Hp → Prop) (rest : ∀ σ' H', Ex σ' H' → t2 D σ' H')
    (first : ∀ Z : L2.St → Hp → Prop, (∀ σ' H', Ex σ' H' → Z σ' H') → t1 { D with nx := Z } σ H) : tSeq t1 t2 D σ H :=
  first _ rest
/-- a while by an invariant, a measure, and what is known at its end; what follows is asked apart -/
theorem whileI {c : TT} {tb : TS} {D : Ends} {σ : L2.St} {H : Hp} (I Ex : L2.St → Hp → Prop) (m : L2.St → Hp → Nat) (h0 : I σ H) (rest : ∀ σ H, Ex σ H → D.nx σ H)
    (step : ∀ σ H, I σ H → ∀ Y Z : Hp → Prop,
      (∀ H1, tb { D with nx := fun σ' H' => I σ' H' ∧ m σ' H' < m σ H, ct := fun σ' H' => I σ' H' ∧ m σ' H' < m σ H, bk := D.nx } σ H1 → Y H1) → (∀ H1, Ex σ H1 → Z H1) →
      c σ H fun b H1 => if b = true then Y H1 else Z H1) : tWhile c tb D σ H := by
  refine ⟨fun k σ H => k = m σ H ∧ I σ H, ⟨_, rfl, h0⟩, ?_⟩
  rintro k σ H ⟨rfl, hI⟩
  refine step σ H hI _ _ (fun H1 q => ?_) (fun H1 e => rest σ H1 e)
  exact ⟨_, fun σ' H' ⟨p', l⟩ => ⟨_, l, rfl, p'⟩, q⟩

/-- _law_any(deal, bound): some number below the bound; the deal is one again, all else is kept -/
def spAny : Sp := fun vs H Q _ => ∃ (d c : Addr) (bound : Int), vs = [.ref d, .int bound] ∧ Deal H d c ∧ 0 < bound ∧ bound < 2 ^ 300 ∧
  ∀ (r : Int) (H' : Hp), 0 ≤ r → r < bound → Deal H' d c → Same (off H d c) (off H' d c) → Q (.int r) H'
/-- _law_of(deal, some): some item of a list, of a tuple, or a sign of a text -/
def spOf (K : PySem.W.Frag) : Sp := fun vs H Q _ => ∃ (d c : Addr) (x : V), vs = [.ref d, x] ∧ Deal H d c ∧
  ((∃ (p : Addr) (xs : List V), x = .ref p ∧ SqL K (off H d c) p xs ∧ xs ≠ [] ∧ xs.length ≤ 1000 ∧ ∀ (v : V) (H' : Hp), v ∈ xs → Deal H' d c → Same (off H d c) (off H' d c) → Q v H') ∨
   (∃ (p : Addr) (xs : List V), x = .ref p ∧ SqT K (off H d c) p xs ∧ xs ≠ [] ∧ xs.length ≤ 1000 ∧ ∀ (v : V) (H' : Hp), v ∈ xs → Deal H' d c → Same (off H d c) (off H' d c) → Q v H') ∨
   (∃ z : Str, x = .str z ∧ 0 < z.length ∧ z.length ≤ 1000 ∧ ∀ (a : Nat) (H' : Hp), a ∈ z.cps.toList → Deal H' d c → Same (off H d c) (off H' d c) → Q (.str ⟨#[a]⟩) H'))
/-- _law_deal(script, base): a new deal -/
def spDeal (K : PySem.W.Frag) : Sp := fun vs H Q _ => ∃ (a : Addr) (ns : List Int) (b : Int), vs = [.ref a, .int b] ∧ SqL K H a (ns.map V.int) ∧ ns.length ≤ 63 ∧ 0 ≤ b ∧ b ≤ 1000 ∧
  ∀ (d c : Addr) (H' : Hp), H d = none → H c = none → Deal H' d c → Same H H' → Q (.ref d) H'
end Wb

set_option Elab.async false
set_option linter.all false
set_option maxRecDepth 100000
set_option maxHeartbeats 4000000
/-! Wb7: data that is all new; how large it is shown. -/
namespace Wb
open PySem PySem.Spec PyProof.Rows L2

/-- what stands in H' and was free in H -/
def nw (H H' : Hp) : Hp := fun b => if H b = none then H' b else none
theorem nw_at {H H' : Hp} {b : Addr} (h : H b = none) : nw H H' b = H' b := if_pos h
theorem nw_some {H H' : Hp} {b : Addr} {o : HO} (h : nw H H' b = some o) : H b = none ∧ H' b = some o := by
  unfold nw at h
  by_cases e : H b = none
  · rw [if_pos e] at h
    exact ⟨e, h⟩
  · rw [if_neg e] at h
    cases h
theorem nw_le (H H' : Hp) : Same (nw H H') H' := fun b o h => (nw_some h).2
/-- every address that is taken stays taken -/
def Dom (H H' : Hp) : Prop := ∀ b, H' b = none → H b = none
theorem Dom.refl (H : Hp) : Dom H H := fun _ h => h
theorem Dom.trans {H G J : Hp} (a : Dom H G) (b : Dom G J) : Dom H J := fun x h => a x (b x h)
theorem Dom.of {H H' : Hp} (s : Same H H') : Dom H H' := fun b h => s.free h
theorem Dom.deal {H H' : Hp} {d c : Addr} (s : Same (off H d c) (off H' d c)) (D : Deal H' d c) : Dom H H' := by
  intro b h
  obtain ⟨n1, n2⟩ := D.free h
  have q : off H' d c b = none := (off_at n1 n2).trans h
  have z := s.free q
  rwa [off_at n1 n2] at z
/-- new since later is new since earlier; and it is kept where all but the deal is -/
theorem nw_mono {H0 H G G' : Hp} {d c : Addr} (a : Dom H0 H) (D : Deal H d c) (s : Same (off G d c) (off G' d c)) : Same (nw H G) (nw H0 G') := by
  intro b o h
  obtain ⟨h1, h2⟩ := nw_some h
  obtain ⟨n1, n2⟩ := D.free h1
  rw [nw_at (a b h1)]
  have q := s b o (by rw [off_at n1 n2]; exact h2)
  exact (off_some q).1
theorem nw_off {H G : Hp} {d c : Addr} (D : Deal H d c) : Same (nw H G) (off G d c) := by
  intro b o h
  obtain ⟨h1, h2⟩ := nw_some h
  obtain ⟨n1, n2⟩ := D.free h1
  rw [off_at n1 n2]
  exact h2
theorem nw_upd {H G : Hp} {p : Addr} {o : HO} (h : H p ≠ none) : nw H (upd G p o) = nw H G := by
  funext b
  unfold nw
  by_cases e : H b = none
  · rw [if_pos e, if_pos e, upd_ne (fun z => h (by rw [← z]; exact e))]
  · rw [if_neg e, if_neg e]

mutual
theorem dpMono {K : PySem.W.Frag} {H H' : Hp} (s : Same H H') : ∀ (d : PyData) (v : V), Dp K H v d → Dp K H' v d
  | .none, _, h => by
    cases h
    exact .non
  | .bool b, _, h => by
    cases h
    exact .bl b
  | .int i, _, h => by
    cases h
    exact .int i
  | .str x, _, h => by
    cases h
    exact .str x
  | .list ds, _, h => by
    cases h with
    | lst h1 h2 => exact .lst (s.seq h1) (dpMonoAll s ds _ h2)
  | .tuple ds, _, h => by
    cases h with
    | tup h1 h2 => exact .tup (seqT s h1) (dpMonoAll s ds _ h2)
  | .dict _, _, h => by cases h
theorem dpMonoAll {K : PySem.W.Frag} {H H' : Hp} (s : Same H H') : ∀ (ds : List PyData) (vs : List V), DpAll K H vs ds → DpAll K H' vs ds
  | [], _, h => by
    cases h
    exact .nil
  | d :: ds, _, h => by
    cases h with
    | cons h1 h2 => exact .cons (dpMono s d _ h1) (dpMonoAll s ds _ h2)
end
theorem dpAll_snoc {K : PySem.W.Frag} {H : Hp} {v : V} {e : PyData} (h : Dp K H v e) : ∀ {vs : List V} {es : List PyData}, DpAll K H vs es → DpAll K H (vs ++ [v]) (es ++ [e])
  | _, _, .nil => .cons h .nil
  | _, _, .cons h1 h2 => .cons h1 (dpAll_snoc h h2)
theorem dpAll_len {K : PySem.W.Frag} {H : Hp} : ∀ {vs : List V} {es : List PyData}, DpAll K H vs es → vs.length = es.length
  | _, _, .nil => rfl
  | _, _, .cons _ h2 => by simp [dpAll_len h2]
theorem dpAll_mem {K : PySem.W.Frag} {H : Hp} : ∀ {vs : List V} {es : List PyData} {v : V}, DpAll K H vs es → v ∈ vs → ∃ e, e ∈ es ∧ Dp K H v e
  | _, _, _, .nil, h => nomatch h
  | _, _, v, .cons h1 h2, h => by
    rcases List.mem_cons.mp h with rfl | h
    · exact ⟨_, List.mem_cons_self, h1⟩
    · obtain ⟨e, q1, q2⟩ := dpAll_mem h2 h
      exact ⟨e, List.mem_cons_of_mem _ q1, q2⟩

/-- what may be shown: n deep, of a weight W -/
structure Tame (n W : Nat) (e : PyData) : Prop where
  shows : e.showable = true
  noDict : e.hasDict = false
  deep : e.depth ≤ n
  short : e.leavesShort 13 = true
  light : e.weight ≤ W
theorem Tame.fits {n W : Nat} {e : PyData} (t : Tame n W e) (h : W ≤ 1000000) : e.shown.length ≤ sizeLine := by
  have q := PyData.shown_le 13 (by decide) e t.short
  have l := t.light
  rw [sizeLine_eq]
  omega
theorem Tame.more {n m W Z : Nat} {e : PyData} (t : Tame n W e) (h1 : n ≤ m) (h2 : W ≤ Z) : Tame m Z e :=
  ⟨t.shows, t.noDict, Nat.le_trans t.deep h1, t.short, Nat.le_trans t.light h2⟩
structure TameAll (n W : Nat) (es : List PyData) : Prop where
  shows : PyData.showableAll es = true
  noDict : PyData.hasDictAll es = false
  deep : PyData.depthAll es ≤ n
  short : PyData.leavesShortAll 13 es = true
  light : PyData.weightAll es ≤ es.length * (W + 1)
theorem TameAll.nil {n W : Nat} : TameAll n W [] := ⟨by simp [PyData.showableAll], by simp [PyData.hasDictAll], by simp [PyData.depthAll], by simp [PyData.leavesShortAll], by simp [PyData.weightAll]⟩
theorem TameAll.cons {n W : Nat} {e : PyData} {es : List PyData} (t : Tame n W e) (h : TameAll n W es) : TameAll n W (e :: es) := by
  obtain ⟨a1, a2, a3, a4, a5⟩ := t
  obtain ⟨b1, b2, b3, b4, b5⟩ := h
  refine ⟨by simp [PyData.showableAll, a1, b1], by simp [PyData.hasDictAll, a2, b2], ?_, by simp [PyData.leavesShortAll, a4, b4], ?_⟩
  · simp only [PyData.depthAll]
    exact Nat.max_le.mpr ⟨a3, b3⟩
  · simp only [PyData.weightAll, List.length_cons, Nat.succ_mul]
    omega
theorem TameAll.of {n W : Nat} : ∀ {es : List PyData}, (∀ e ∈ es, Tame n W e) → TameAll n W es
  | [], _ => .nil
  | e :: es, h => .cons (h e List.mem_cons_self) (TameAll.of fun x hx => h x (List.mem_cons_of_mem _ hx))
theorem TameAll.list {n W k : Nat} {es : List PyData} (h : TameAll n W es) (few : es.length ≤ k) : Tame (n + 1) (k * (W + 1)) (.list es) := by
  obtain ⟨b1, b2, b3, b4, b5⟩ := h
  refine ⟨by simpa [PyData.showable] using b1, by simpa [PyData.hasDict] using b2, ?_, by simpa [PyData.leavesShort] using b4, ?_⟩
  · simp only [PyData.depth]
    omega
  · simp only [PyData.weight]
    exact Nat.le_trans b5 (Nat.mul_le_mul_right _ few)
theorem TameAll.tuple {n W k : Nat} {es : List PyData} (h : TameAll n W es) (few : es.length ≤ k) : Tame (n + 1) (k * (W + 1)) (.tuple es) := by
  obtain ⟨b1, b2, b3, b4, b5⟩ := h
  refine ⟨by simpa [PyData.showable] using b1, by simpa [PyData.hasDict] using b2, ?_, by simpa [PyData.leavesShort] using b4, ?_⟩
  · simp only [PyData.depth]
    omega
  · simp only [PyData.weight]
    exact Nat.le_trans b5 (Nat.mul_le_mul_right _ few)
theorem tame_none : Tame 0 40 .none := ⟨by decide +kernel, by decide +kernel, by decide +kernel, by decide +kernel, by decide +kernel⟩
theorem tame_bool (b : Bool) : Tame 0 40 (.bool b) := by cases b <;> exact ⟨by decide +kernel, by decide +kernel, by decide +kernel, by decide +kernel, by decide +kernel⟩
theorem log2_small {i : Int} (h : i.natAbs < 10 ^ 12) : i.natAbs.log2 ≤ 39 := by
  by_cases z : i.natAbs = 0
  · rw [z]
    decide
  · have := (Nat.log2_lt z (k := 40)).mpr (Nat.lt_trans h (by decide))
    omega
theorem tame_int {i : Int} (h : i.natAbs < 10 ^ 12) : Tame 0 40 (.int i) := by
  have l := log2_small h
  refine ⟨?_, by simp [PyData.hasDict], by simp [PyData.depth], ?_, ?_⟩
  · simp only [PyData.showable, decide_eq_true_eq]
    omega
  · simp only [PyData.leavesShort, decide_eq_true_eq]
    exact PyData.shown_int_le h
  · simp only [PyData.weight]
    split <;> omega
theorem tame_str {x : Str} (h : ∀ a ∈ x.cps.toList, a < 16 ^ 8) (few : x.length ≤ 40) : Tame 0 40 (.str x) := by
  refine ⟨by simp [PyData.showable], by simp [PyData.hasDict], by simp [PyData.depth], ?_, ?_⟩
  · simp only [PyData.leavesShort, List.all_eq_true, decide_eq_true_eq]
    exact h
  · simp only [PyData.weight]
    exact few

/-- signs glued -/
theorem glued (L : List Nat) : ∀ ys : List Str, (∀ y ∈ ys, ∃ a ∈ L, y = ⟨#[a]⟩) → (Str.join (Str.ofString "") ys).length = ys.length ∧ ∀ a ∈ (Str.join (Str.ofString "") ys).cps.toList, a ∈ L
  | [], _ => ⟨by decide, fun a ha => by
    have e : (Str.join (Str.ofString "") []).cps.toList = [] := by decide
    rw [e] at ha
    cases ha⟩
  | [y], h => by
    obtain ⟨a, ha, rfl⟩ := h y List.mem_cons_self
    refine ⟨rfl, fun b hb => ?_⟩
    have hb' : b ∈ [a] := hb
    rw [List.mem_singleton.mp hb']
    exact ha
  | y :: z :: r, h => by
    obtain ⟨a, ha, rfl⟩ := h y List.mem_cons_self
    obtain ⟨i1, i2⟩ := glued L (z :: r) fun x hx => h x (List.mem_cons_of_mem _ hx)
    have e : Str.join (Str.ofString "") (⟨#[a]⟩ :: z :: r) = (⟨#[a]⟩ ++ Str.ofString "") ++ Str.join (Str.ofString "") (z :: r) := rfl
    rw [e]
    refine ⟨?_, fun b hb => ?_⟩
    · rw [strLen_append, strLen_append, i1]
      have e1 : (Str.ofString "").length = 0 := by decide
      have e2 : (⟨#[a]⟩ : Str).length = 1 := rfl
      rw [e1, e2]
      simp
      omega
    · rw [cps_toList_append, cps_toList_append] at hb
      have e1 : (Str.ofString "").cps.toList = [] := by decide
      rw [e1, List.append_nil] at hb
      rcases List.mem_append.mp hb with q | q
      · have q' : b ∈ [a] := q
        rw [List.mem_singleton.mp q']
        exact ha
      · exact i2 b q
end Wb

set_option Elab.async false
set_option linter.all false
set_option maxRecDepth 100000
set_option maxHeartbeats 4000000
/-! Wf1: what fractions take of the language: // below 0, lcm, calls by names alone, a caught error looked at. -/
namespace Wb
open PySem PySem.Spec PyProof.Rows L2
section
variable {X : Cx}
/-- // by a divisor of either sign -/
def CDivS (_ j : Int) : Prop := j ≠ 0 ∧ j.natAbs.log2 < 9000
theorem op_fdivS : OpR X (binaryOp .FloorDiv) (rI CDivS fun i j => .int (i.fdiv j)) := opI fun i j _ _ _ _ _ hc q => floordiv_int hc.1 q (.inl (PyProof.noPylong_of_log2 hc.2))
def rLcm : List V → Hp → VK → Prop := fun vs H Q => ∃ a b : Int, vs = [.int a, .int b] ∧ a.natAbs < 2 ^ 9000 ∧ b.natAbs < 2 ^ 9000 ∧ Q (.int ((Nat.lcm a.natAbs b.natAbs : Nat) : Int)) H
theorem log_le {n k : Nat} (h : n < 2 ^ k) (h0 : 0 < k) : n.log2 < k := by
  by_cases z : n = 0
  · subst z
    rw [Nat.log2_zero]
    exact h0
  · exact (Nat.log2_lt z).mpr h
theorem cr_lcm : CallR X (.builtin "math.lcm") rLcm := by
  intro pins s σ H vs us Q I r h
  obtain ⟨a, b, rfl, ha, hb, q⟩ := h
  obtain ⟨t, u, rfl⟩ := Vals.int2 r
  have one9 : (1 : Nat) < 2 ^ 9000 := Nat.one_lt_two_pow (by decide)
  have h1 : (max 1 a.natAbs).log2 < 9000 := log_le (Nat.max_lt.mpr ⟨one9, ha⟩) (by decide)
  have h2 : (max a.natAbs b.natAbs).log2 < 9000 := log_le (Nat.max_lt.mpr ⟨ha, hb⟩) (by decide)
  have h3 : (Nat.lcm 1 a.natAbs).lcm b.natAbs = Nat.lcm a.natAbs b.natAbs := by rw [PySem.W.mc_lcm_one]
  have h4 : (Nat.lcm a.natAbs b.natAbs).log2 < 18000 := by
    refine log_le (Nat.lt_of_le_of_lt (PySem.W.mc_lcm_le _ _) ?_) (by decide)
    have e : (18000 : Nat) = 9000 + 9000 := rfl
    rw [e, Nat.pow_add]
    exact Nat.mul_lt_mul'' ha hb
  have h5 : ((((Nat.lcm 1 a.natAbs).lcm b.natAbs : Nat) : Int)).natAbs.log2 < bitsLine := by
    rw [h3, Int.natAbs_natCast]
    exact Nat.lt_trans h4 (by decide)
  refine call_function_meets PySem.W.MGF.kind_lcm PySem.W.MGF.plain_lcm PySem.W.MGF.entry_lcm (PySem.W.MGF.args_lcm _ _) (PySem.W.mg_run_lcm a t b u (by omega) (by omega) h5).meets ?_
  rw [h3]
  exact ⟨.int _, H, I.tok _, ⟨_, rfl⟩, q⟩
end
section
variable {X : Cx} {CX : CXT} {k : Nat} {f C : Addr} {fd : FuncData} {ps ks : List Str} {sp : Sp} {E : XK} {x m : Str} {p pos apos kpos : Pos} {e o : Expr} {es : List Expr} {kws : List Keyword} {te ta : TE} {t tk : TA} {nm : Option Str}
variable {g : List Value → List Value → List Value} {gV : List V → List V → List V}
def tCallK0 (sp : Sp) (gV : List V → List V → List V) (E : XK) (tk : TA) : TE := fun σ H Q => tk σ H fun zs H2 => sp (gV [] zs) H2 Q E
/-- f(k = v, ..), nothing by position -/
theorem pe_callK0 (F : FnOk X.prog X.w X.K X.mg X.base CX k f fd ps sp) (hr : Room k X.A) (hg : Gl X x) (hm : X.mg x = some (.ref f)) (hk : PySem.W.keepIn X.K (.ref f) = true) (hb : KBinds X.K fd ps ks g gV) (hx : Passes CX X E)
    (hkw : PK X kws tk) (hall : (backToKw pos (keywordEach kws X.env)).all (·.1.isSome) = true := by rfl) (hks : (backToKw pos (keywordEach kws X.env)).filterMap (·.1) = ks := by rfl)
    (hdb : (x == ("__debug__" : Str)) = false := by decide) (hpl : ((backTo pos (starEach [] X.env)).any (·.1) || (backToKw pos (keywordEach kws X.env)).any (·.1.isNone)) = false := by rfl) :
    PE X (.Call (.Name x p) [] kws pos) (tCallK0 sp gV E tk) := by
  refine ⟨fun pins s σ H Q I h => ?_⟩
  refine wpAny_Call_Name_kw (ld_glob I hg hm ?_ hdb)
  refine PySem.W.callWith_KW0 (h₀ := X.base) I.ok.mod.kin hk hall (thn (hkw.run pos pins s σ H _ I h) fun ws s2 ⟨zs, H2, I2, rz, q2⟩ => ⟨I2.kIn, ?_⟩) hpl
  rw [hks]
  exact run_fnk (us := []) (vs := []) F hr hb hx I2 .nil rz q2
end
/-- a def that may raise, where it doesn't -/
theorem quiet {P : Program} {w : World} {K : PySem.W.Frag} {mg : Str → Option Value} {base : Heap} {k : Nat} {f : Addr} {fd : FuncData} {ps : List Str} {sp : Sp} (F : FnOk P w K mg base (L2.CX P w) k f fd ps sp) :
    FnOk P w K mg base CX0 k f fd ps (fun vs H Q _ => sp vs H Q (fun _ _ _ => False)) :=
  ⟨fun vs H Q E h => F.len vs H Q _ h, fun A outer s H args us vs Q E hr he hb hv hs => by
    refine codeAny_mono (F.run A outer s H args us vs Q (fun _ _ _ => False) hr he hb hv hs) ?_
    intro r s' h
    match r, h with
    | .ok (.ret u), h => exact h
    | .error er, h =>
      obtain ⟨a, B, H', cls, d, _, _, _, _, _, _, _, z⟩ := h
      exact z.elim⟩
section
variable {X : Cx} {e : Expr} {te : TE} {pos : Pos} {a : Addr} {oe : Obj} {cls : Value} {d : Option Addr} {pn : List (Addr × Obj)} {f : Str}
theorem xd_at {P : Program} {w : World} {H : Hp} {h : Heap} {dd : Addr} {fs : List (Str × V)} (hok : HOk P w H h) (ea : H dd = some (.xd fs)) : ∃ mA, h.Ns1 dd mA ∧ ∀ g, RelO (fs.lookup g) (mA g) := by
  have hx : ObjOk P w H h dd (.xd fs) := hok dd _ ea
  obtain ⟨mA, hns, hr⟩ := hx
  exact ⟨mA, hns, hr⟩
/-- e.f, e the error that the suite holds -/
def tErrF (K : PySem.W.Frag) (a : Addr) (cls : Value) (d : Option Addr) (f : Str) (te : TE) : TE := fun σ H Q => te σ H fun x H1 => x = .ref a ∧ ∃ (C dd : Addr) (v : V), cls = .ref C ∧ d = some dd ∧ ErrC K C ∧ PySem.W.findIn K (.ref C) f = some none ∧ H1 dd = some (.xd [(f, v)]) ∧ Q v H1
theorem pe_errF (hz : Zc cls d oe) (hf : ∃ vs, oe.data = .fields vs) (he : PE (X.suite a ((a, oe) :: pn)) e te) (hb : attributeBase e f X.env (eval e X.env) = eval e X.env := by rfl) :
    PE (X.suite a ((a, oe) :: pn)) (.Attribute e f pos) (tErrF X.K a cls d f te) := by
  refine ⟨fun pins s σ H Q I h => ?_⟩
  refine attr_of hb (thn (he.run pins s σ H _ I h) fun u s1 hh => ?_)
  obtain ⟨x, H1, I1, rx, ex, C, dd, v, ec, ed, T, no, ea, q⟩ := hh
  subst ex
  obtain rfl : u = Value.ref a := rx
  subst ec
  subst ed
  obtain ⟨ha, _⟩ := I1.pin (a, oe) (List.mem_append_left _ List.mem_cons_self)
  obtain ⟨vs, hd⟩ := hf
  obtain ⟨mA, hns, hr⟩ := xd_at I1.hok ea
  obtain ⟨od, ho, hl⟩ := lookIn_ns hns
  have l : List.lookup f [(f, v)] = some v := by simp [List.lookup]
  obtain ⟨u, hu, ru⟩ := RelO.some_of (v := v) (o := mA f) (by rw [← l]; exact hr f)
  have J : PySem.W.InstAt s1.heap a oe C (some od) := ⟨ha, hz.1, by unfold PySem.W.notCls; rw [hd] <;> rfl, by rw [hz.2]; exact ho⟩
  exact HandSPX.exc_get I1.kIn J T.ga T.gg T.exc (PySem.W.findObj_own T.hd no rfl (by rw [hl, hu])) (handed_of ru) ⟨v, H1, I1.tok _, ru, q⟩
/-- isinstance(e, ..), e the error that the suite holds -/
def rIsX (K : PySem.W.Frag) (a : Addr) (cls : Value) (d : Option Addr) : List V → Hp → VK → Prop := fun xs H Q =>
  ∃ (C : Addr) (c : V) (cu : Value) (b : Bool), xs = [.ref a, c] ∧ cls = .ref C ∧ (∀ dd, d = some dd → ∃ fs, H dd = some (.xd fs)) ∧ ErrC K C ∧ ClsV c cu ∧ PySem.W.kitOne K (.ref C) cu = some b ∧ Q (.bl b) H
theorem call_isX (hz : Zc cls d oe) (hf : ∃ vs, oe.data = .fields vs) : CallR (X.suite a ((a, oe) :: pn)) (.builtin "isinstance") (rIsX X.K a cls d) := by
  intro pins s σ H xs us Q I r h
  obtain ⟨C, c, cu, b, rfl, ec, hod, T, kc, ek, q⟩ := h
  obtain ⟨u1, u2, rfl, r1, r2⟩ := vals2 r
  obtain rfl : u1 = Value.ref a := r1
  have e2 := kc.eq r2
  subst e2
  subst ec
  obtain ⟨ha, _⟩ := I.pin (a, oe) (List.mem_append_left _ List.mem_cons_self)
  obtain ⟨vs, hd⟩ := hf
  have cls : (PySem.W.clsIn X.K C).isSome = true := by
    obtain ⟨cd, hcd, _⟩ := PySem.W.any_some T.hd
    rw [hcd]
    rfl
  have fin : ∀ tk, EP (X.suite a ((a, oe) :: pn)) pins σ Q (.bool b) { s with toks := tk } := fun tk => ⟨.bl b, H, I.tok tk, rfl, q⟩
  have no : PySem.W.notCls oe = true := by unfold PySem.W.notCls; rw [hd] <;> rfl
  cases d with
  | none =>
    exact PySem.W.kia_one (PySem.W.kitx_exc (od := none) cls T.ga T.gg T.exc T.hc T.hn T.ht T.hm) I.kIn (⟨ha, hz.1, no, by rw [hz.2]; exact trivial⟩ : PySem.W.InstAt s.heap a oe C none) ek (fun z => nomatch z) fin
  | some dx =>
    obtain ⟨fs, ed⟩ := hod dx rfl
    obtain ⟨mA, hns, _⟩ := xd_at I.hok ed
    obtain ⟨od, ho, _⟩ := lookIn_ns hns
    exact PySem.W.kia_one (PySem.W.kitx_exc (od := some od) cls T.ga T.gg T.exc T.hc T.hn T.ht T.hm) I.kIn (⟨ha, hz.1, no, by rw [hz.2]; exact ho⟩ : PySem.W.InstAt s.heap a oe C (some od)) ek (fun z => nomatch z) fin
end
end Wb

set_option Elab.async false
set_option linter.all false
set_option maxRecDepth 100000
set_option maxHeartbeats 4000000
/-! Wc0: a def by its name: what may be called (Cal, CalG), the rules of its calls, how one comes to be. -/
namespace Wb
open PySem PySem.Spec PyProof.Rows L2
/-- the def's record -/
def FdOf (x : Str) (st : Stmt) (fd : FuncData) : Prop := ∃ (kV dc pm : Value) (an : Option Addr) (cd ct : Value), fd = PySem.W.fnOf x x (defArgs st) (defBody st) (defScope st) .none kV dc pm an cd ct
section
variable (P : Program) (w : World) (K : PySem.W.Frag) (mg : Str → Option Value) (base : Heap)
/-- the def of this name, promised -/
def Cal (CX : CXT) (k : Nat) (x : Str) (st : Stmt) (ps : List Str) (sp : Sp) : Prop := ∃ (f : Addr) (fd : FuncData), FnOk P w K mg base CX k f fd ps sp ∧ mg x = some (.ref f) ∧ PySem.W.keepIn K (.ref f) = true ∧ Binds K fd ps [] ∧ FdOf x st fd
/-- .. where no repr runs -/
def CalG (CX : CXT) (k : Nat) (x : Str) (st : Stmt) (ps : List Str) (sp : Sp) : Prop := ∃ (f : Addr) (fd : FuncData), FnG P w K mg base CX k f fd ps sp ∧ mg x = some (.ref f) ∧ PySem.W.keepIn K (.ref f) = true ∧ Binds K fd ps [] ∧ FdOf x st fd
/-- the def of this name as it stands in the text -/
def Def (K : PySem.W.Frag) (mg : Str → Option Value) (x : Str) (st : Stmt) (ps : List Str) : Prop := ∃ (f : Addr) (fd : FuncData), Fun K x x st f fd ∧ mg x = some (.ref f) ∧ Binds K fd ps [] ∧ FdOf x st fd
end
section
variable {P : Program} {w : World} {K : PySem.W.Frag} {mg : Str → Option Value} {base : Heap} {CX : CXT} {k : Nat} {x : Str} {N ps : List Str} {sp : Sp} {st : Stmt}
theorem Cal.G (C : Cal P w K mg base CX k x st ps sp) : CalG P w K mg base CX k x st ps sp := by
  obtain ⟨f, fd, F, m, kp, b, o⟩ := C
  exact ⟨f, fd, .of F, m, kp, b, o⟩
theorem Cal.quiet (C : Cal P w K mg base (L2.CX P w) k x st ps sp) : Cal P w K mg base CX0 k x st ps (fun vs H Q _ => sp vs H Q (fun _ _ _ => False)) := by
  obtain ⟨f, fd, F, m, kp, b, o⟩ := C
  exact ⟨f, fd, Wb.quiet F, m, kp, b, o⟩
theorem Cal.weaken {sp' : Sp} (C : Cal P w K mg base CX k x st ps sp) (h : ∀ vs H Q E, sp' vs H Q E → sp vs H Q E) : Cal P w K mg base CX k x st ps sp' := by
  obtain ⟨f, fd, F, m, kp, b, o⟩ := C
  exact ⟨f, fd, ⟨fun vs H Q E z => F.len vs H Q E (h _ _ _ _ z), fun A outer s H args us vs Q E hr he hb hv hs => F.run A outer s H args us vs Q E hr he hb hv (h _ _ _ _ hs)⟩, m, kp, b, o⟩
theorem Def.ok (D : Def K mg x st ps) (S : FnScope N ps (defScope st)) (len : ∀ vs H Q E, sp vs H Q E → vs.length = ps.length)
    (hbody : ∀ (cdv : Value) (f : Addr) (A : Around) (outer : List Env) (s : Shared) (H : Hp) (vs : List V) (Q : VK) (E : XK), Room k (A.deeper (envOfC x (defScope st) s.heap.objs.size f cdv)) → sp vs H Q E →
      ∃ t, PSs (cxOf CX0 P w K mg base N x (defScope st) f cdv A outer s H E).nox (defBody st) t ∧ t { nx := fun _ H' => Q .non H', rt := Q } (start N vs) H) : Cal P w K mg base CX0 (k + 1) x st ps sp := by
  obtain ⟨f, fd, F, m, b, o⟩ := D
  exact ⟨f, fd, F.ok S len fun cdv => hbody cdv f, m, F.kp, b, o⟩
theorem Def.okX (D : Def K mg x st ps) (S : FnScope N ps (defScope st)) (len : ∀ vs H Q E, sp vs H Q E → vs.length = ps.length)
    (hbody : ∀ (cdv : Value) (f : Addr) (A : Around) (outer : List Env) (s : Shared) (H : Hp) (vs : List V) (Q : VK) (E : XK), Room k (A.deeper (envOfC x (defScope st) s.heap.objs.size f cdv)) → sp vs H Q E →
      ∃ t, PSs (cxOf (L2.CX P w) P w K mg base N x (defScope st) f cdv A outer s H E) (defBody st) t ∧ t { nx := fun _ H' => Q .non H', rt := Q } (start N vs) H) : Cal P w K mg base (L2.CX P w) (k + 1) x st ps sp := by
  obtain ⟨f, fd, F, m, b, o⟩ := D
  exact ⟨f, fd, F.okX S len fun cdv => hbody cdv f, m, F.kp, b, o⟩
theorem Def.okG (D : Def K mg x st ps) (S : FnScope N ps (defScope st)) (len : ∀ vs H Q E, sp vs H Q E → vs.length = ps.length)
    (hbody : ∀ (cdv : Value) (f : Addr) (A : Around) (outer : List Env) (s : Shared) (H : Hp) (vs : List V) (Q : VK) (E : XK),
      (A.deeper (envOfC x (defScope st) s.heap.objs.size f cdv)).guards = some [] → Room k (A.deeper (envOfC x (defScope st) s.heap.objs.size f cdv)) → sp vs H Q E →
      ∃ t, PSs (cxOf CX P w K mg base N x (defScope st) f cdv A outer s H E) (defBody st) t ∧ t { nx := fun _ H' => Q .non H', rt := Q } (start N vs) H) : CalG P w K mg base CX (k + 1) x st ps sp := by
  obtain ⟨f, fd, F, m, b, o⟩ := D
  exact ⟨f, fd, Wb.okG F S len fun cdv => hbody cdv f, m, F.kp, b, o⟩
end
section
variable {X : Cx} {CX : CXT} {k : Nat} {ps ks : List Str} {sp : Sp} {E : XK} {x : Str} {st : Stmt} {p pos : Pos} {e : Expr} {es : List Expr} {t : TA}
theorem pe_cal (C : Cal X.prog X.w X.K X.mg X.base CX k x st ps sp) (hr : Room k X.A) (hg : Gl X x) (hx : Passes CX X E)
    (ha : PA X (e :: es) t) (hdb : (x == ("__debug__" : Str)) = false := by decide) (he : starEach (e :: es) X.env = (false, eval e X.env) :: starEach es X.env := by rfl) (hpl : (backTo pos (starEach es X.env)).any (·.1) = false := by rfl) :
    PE X (.Call (.Name x p) (e :: es) [] pos) (tCall sp [] E t) := by
  obtain ⟨f, fd, F, m, kp, b, o⟩ := C
  exact pe_call F hr hg m kp b .nil hx ha hdb he hpl
theorem pe_cal0 (C : Cal X.prog X.w X.K X.mg X.base CX k x st ps sp) (hr : Room k X.A) (hg : Gl X x) (hx : Passes CX X E) (hdb : (x == ("__debug__" : Str)) = false := by decide) : PE X (.Call (.Name x p) [] [] pos) (tCall sp [] E tNil) := by
  obtain ⟨f, fd, F, m, kp, b, o⟩ := C
  exact pe_call0 F hr hg m kp b .nil hx hdb
theorem pe_calG (C : CalG X.prog X.w X.K X.mg X.base CX k x st ps sp) (gd : X.A.guards = some []) (hr : Room k X.A) (hg : Gl X x) (hx : Passes CX X E)
    (ha : PA X (e :: es) t) (hdb : (x == ("__debug__" : Str)) = false := by decide) (he : starEach (e :: es) X.env = (false, eval e X.env) :: starEach es X.env := by rfl) (hpl : (backTo pos (starEach es X.env)).any (·.1) = false := by rfl) :
    PE X (.Call (.Name x p) (e :: es) [] pos) (tCall sp [] E t) := by
  obtain ⟨f, fd, F, m, kp, b, o⟩ := C
  exact pe_callG F gd hr hg m kp b .nil hx ha hdb he hpl
/-- a def that may raise, called where it is caught, or let out -/
theorem pe_calS {E : L2.St → XK} (C : Cal X.prog X.w X.K X.mg X.base CX k x st ps sp) (hr : Room k X.A) (hg : Gl X x) (hx : ∀ σ, PassesAt CX X σ (E σ))
    (ha : PA X (e :: es) t) (hdb : (x == ("__debug__" : Str)) = false := by decide) (he : starEach (e :: es) X.env = (false, eval e X.env) :: starEach es X.env := by rfl) (hpl : (backTo pos (starEach es X.env)).any (·.1) = false := by rfl) :
    PE X (.Call (.Name x p) (e :: es) [] pos) (tCallS sp E t) := by
  obtain ⟨f, fd, F, m, kp, b, o⟩ := C
  exact pe_callS F hr hg m kp b hx ha hdb he hpl
end
/-- f(k = v, ..): ix tells, for each parameter, the place of its keyword among those written -/
def kwV (ix : List Nat) (zs : List V) : List V := ix.map fun i => zs.getD i .non
def kwU (ix : List Nat) (zs : List Value) : List Value := ix.map fun i => zs.getD i .none
theorem kw_rel {vs : List V} {us : List Value} (r : Vals vs us) : ∀ ix : List Nat, Vals (kwV ix vs) (kwU ix us)
  | [] => .nil
  | i :: ix => by
    refine .cons ?_ (kw_rel r ix)
    have go : ∀ {vs : List V} {us : List Value}, Vals vs us → ∀ i : Nat, RelV (vs.getD i .non) (us.getD i .none) := by
      intro vs us r
      induction r with
      | nil => intro i; exact rfl
      | cons h _ ih =>
        intro i
        cases i with
        | zero => exact h
        | succ i => exact ih i
    exact go r i
/-- how the keywords of such a call bind -/
def Kw (x : Str) (st : Stmt) (ps ks : List Str) (ix : List Nat) : Prop := ix.length = ps.length ∧ ∀ (kV dc pm : Value) (an : Option Addr) (cd ct : Value) (s : Shared) (ws : List Value), ws.length = ks.length →
  BindsTo s (PySem.W.fnOf x x (defArgs st) (defBody st) (defScope st) .none kV dc pm an cd ct) ⟨[], ks.zip ws⟩ (ps.zip (kwU ix ws))
section
variable {X : Cx} {CX : CXT} {k : Nat} {ps ks : List Str} {sp : Sp} {E : XK} {x : Str} {p pos : Pos} {st : Stmt} {kws : List Keyword} {tk : TA} {ix : List Nat}
def tCalK (sp : Sp) (ix : List Nat) (n : Nat) (E : XK) (tk : TA) : TE := fun σ H Q => tk σ H fun zs H2 => zs.length = n ∧ sp (kwV ix zs) H2 Q E
theorem pe_calK (C : Cal X.prog X.w X.K X.mg X.base CX k x st ps sp) (hr : Room k X.A) (hg : Gl X x) (hx : Passes CX X E) (hb : Kw x st ps ks ix)
    (hkw : PK X kws tk) (hall : (backToKw pos (keywordEach kws X.env)).all (·.1.isSome) = true := by rfl) (hks : (backToKw pos (keywordEach kws X.env)).filterMap (·.1) = ks := by rfl)
    (hdb : (x == ("__debug__" : Str)) = false := by decide) (hpl : ((backTo pos (starEach [] X.env)).any (·.1) || (backToKw pos (keywordEach kws X.env)).any (·.1.isNone)) = false := by rfl) :
    PE X (.Call (.Name x p) [] kws pos) (tCalK sp ix ks.length E tk) := by
  obtain ⟨f, fd, F, m, kp, b, ⟨kV, dc, pm, an, cd, ct, rfl⟩⟩ := C
  refine ⟨fun pins s σ H Q I h => ?_⟩
  refine wpAny_Call_Name_kw (ld_glob I hg m ?_ hdb)
  refine PySem.W.callWith_KW0 (h₀ := X.base) I.ok.mod.kin kp hall (thn (hkw.run pos pins s σ H _ I h) fun ws s2 ⟨zs, H2, I2, rz, hl, q2⟩ => ⟨I2.kIn, ?_⟩) hpl
  rw [hks]
  have hl2 : ws.length = ks.length := by rw [← rz.length]; exact hl
  have r2 := kw_rel rz ix
  refine wpAny_call (codeAny_mono (F.run X.A X.stack s2 H2 ⟨[], ks.zip ws⟩ (kwU ix ws) (kwV ix zs) _ E hr I2.env0 (hb.2 _ _ _ _ _ _ s2 ws hl2) r2 q2) fun r s' hq => ?_)
  cases r with
  | error e => exact hx pins σ H2 s2 e s' I2 hq
  | ok fl =>
    cases fl with
    | ret u => exact I2.after hq
    | next => exact False.elim hq
    | brk => exact False.elim hq
    | cont => exact False.elim hq
theorem pe_calKG (C : CalG X.prog X.w X.K X.mg X.base CX k x st ps sp) (gd : X.A.guards = some []) (hr : Room k X.A) (hg : Gl X x) (hx : Passes CX X E) (hb : Kw x st ps ks ix)
    (hkw : PK X kws tk) (hall : (backToKw pos (keywordEach kws X.env)).all (·.1.isSome) = true := by rfl) (hks : (backToKw pos (keywordEach kws X.env)).filterMap (·.1) = ks := by rfl)
    (hdb : (x == ("__debug__" : Str)) = false := by decide) (hpl : ((backTo pos (starEach [] X.env)).any (·.1) || (backToKw pos (keywordEach kws X.env)).any (·.1.isNone)) = false := by rfl) :
    PE X (.Call (.Name x p) [] kws pos) (tCalK sp ix ks.length E tk) := by
  obtain ⟨f, fd, F, m, kp, b, ⟨kV, dc, pm, an, cd, ct, rfl⟩⟩ := C
  refine ⟨fun pins s σ H Q I h => ?_⟩
  refine wpAny_Call_Name_kw (ld_glob I hg m ?_ hdb)
  refine PySem.W.callWith_KW0 (h₀ := X.base) I.ok.mod.kin kp hall (thn (hkw.run pos pins s σ H _ I h) fun ws s2 ⟨zs, H2, I2, rz, hl, q2⟩ => ⟨I2.kIn, ?_⟩) hpl
  rw [hks]
  have hl2 : ws.length = ks.length := by rw [← rz.length]; exact hl
  have r2 := kw_rel rz ix
  refine wpAny_call (codeAny_mono (F.go X.A X.stack s2 H2 ⟨[], ks.zip ws⟩ (kwU ix ws) (kwV ix zs) _ E gd hr I2.env0 (hb.2 _ _ _ _ _ _ s2 ws hl2) r2 q2) fun r s' hq => ?_)
  cases r with
  | error e => exact hx pins σ H2 s2 e s' I2 hq
  | ok fl =>
    cases fl with
    | ret u => exact I2.after hq
    | next => exact False.elim hq
    | brk => exact False.elim hq
    | cont => exact False.elim hq
end
/-! ### what the head finds -/
/-- a def as the top has left it -/
def FnF (K : PySem.W.Frag) (nm q : Str) (st : Stmt) (f : Addr) : Prop := ∃ (oc : Value) (od : Option Addr) (kV dc pm : Value) (an : Option Addr) (cd ct : Value) (sl : Array (Option Value)),
  K.lookup f = some ⟨oc, od, .func (PySem.W.fnOf nm q (defArgs st) (defBody st) (defScope st) .none kV dc pm an cd ct), sl⟩ ∧ PySem.W.codeIn K cd q = true ∧ PySem.W.keepIn K (.ref f) = true
theorem FnF.mk2 {K : PySem.W.Frag} {nm q : Str} {st : Stmt} {f : Addr} {oc : Value} {od : Option Addr} {kV dc pm : Value} {an : Option Addr} {cd ct : Value} {sl : Array (Option Value)}
    (l : K.lookup f = some ⟨oc, od, .func (PySem.W.fnOf nm q (defArgs st) (defBody st) (defScope st) .none kV dc pm an cd ct), sl⟩) (c : PySem.W.codeIn K cd q = true) (k : PySem.W.keepIn K (.ref f) = true) : FnF K nm q st f := ⟨oc, od, kV, dc, pm, an, cd, ct, sl, l, c, k⟩
theorem FnF.def_ {K : PySem.W.Frag} {mg : Str → Option Value} {h : Heap} (X : K.In h) (G : h.Ns mainGlobals mg) {x : Str} {st : Stmt} {ps : List Str} {f : Addr} (z : PySem.W.nsIn K mainGlobals x = some (some (.ref f))) (y : FnF K x x st f)
    (b : ∀ (kV doc pm : Value) (an : Option Addr) (cdv ct : Value) (us : List Value), us.length = ps.length → bindArgs (PySem.W.fnOf x x (defArgs st) (defBody st) (defScope st) .none kV doc pm an cdv ct) ⟨us, []⟩ = pure (ps.zip us)) : Def K mg x st ps := by
  obtain ⟨oc, od, kV, dc, pm, an, cd, ct, sl, l, c, kp⟩ := y
  exact ⟨f, _, fun_mk l c kp, PySem.W.mg_of X G z, .all (b kV dc pm an cd ct), kV, dc, pm, an, cd, ct, rfl⟩
end Wb

set_option Elab.async false
set_option linter.all false
set_option maxRecDepth 100000
set_option maxHeartbeats 4000000
/-! Wc1: own exceptions by their names: what the head finds of them, how they are raised, caught, asked. -/
namespace Wb
open PySem PySem.Spec PyProof.Rows L2
section
variable {K : PySem.W.Frag}
/-- an own exception's class as the top has left it: what stands above it in its chain, and how it is made -/
def ClsRow (K : PySem.W.Frag) (C : Addr) (top : List Value) (newId : String) : Prop :=
  ∃ (nm q : Str) (N : Addr) (bs : List Value) (sn : List Str) (sub : List Value) (ab : Bool) (col : Option Bool) (dd : Option Addr) (k0 k1 k2 k3 k5 : Option Value),
    K.lookup C = some (excClassObj nm q C N bs top true sn sub ab col dd k0 k1 k2 k3 k5 newId)
structure EF (K : PySem.W.Frag) (C : Addr) (top : List Value) (newId : String) : Prop where
  row : ClsRow K C top newId
  sa : PySem.W.findIn K (.ref C) "__setattr__" = some (some (.builtin "object.__setattr__"))
  ga : PySem.W.findIn K (.ref C) "__getattribute__" = some (some (.builtin "BaseException.__getattribute__"))
  gg : PySem.W.findIn K (.ref C) "__getattr__" = some none
  exc : PySem.W.subIn K (.ref C) (.type "BaseException") = some true
  ty : PySem.W.typeIn K (.ref C) = some (.type "type")
  hd : PySem.W.hasDictIn K C = true
  kp : PySem.W.keepIn K (.ref C) = true
  hc : PySem.W.findIn K (.ref C) "__class__" = some (some (.builtin "object.__class__"))
  hm : PySem.W.mroIn K C (.type "object") = some true
theorem EF.err {C : Addr} {top : List Value} {newId B initId S : String} {bmB bmS : List Value} (e : EF K C top newId) (FB : PySem.ExcBaseFacts B newId initId bmB) (SF : PySem.StoreFacts S bmS "object.__setattr__" "object") (ch : PySem.WbE.Chain top B)
    (tl : PySem.W.excTail bmS top = true) (hn : PySem.W.specialIn K (.builtin "object.__class__") "__get__" = some (some (.builtin "getset_descriptor.__get__"))) (ht : PySem.W.takesIn K (.builtin "object.__class__") = some true) : ErrC K C := by
  obtain ⟨nm, q, N, bs, sn, sub, ab, col, dd, k0, k1, k2, k3, k5, xL⟩ := e.row
  refine ⟨⟨B, newId, initId, bmB, nm, q, N, bs, top, sn, sub, ab, col, dd, k0, k1, k2, k3, k5, FB, ch, xL⟩, ⟨S, bmS, SF, ?_⟩, e.sa, e.ga, e.gg, e.exc, e.ty, e.hd, e.kp, e.hc, hn, ht, e.hm⟩
  unfold PySem.W.excOver PySem.W.clsIn
  rw [xL]
  show (C == C && PySem.W.excTail bmS top) = true
  rw [tl]
  simp
/-- what is below what -/
structure Row (K : PySem.W.Frag) (C : Addr) (top : List Value) : Prop where
  sub : ∀ v, PySem.W.subIn K (.ref C) v = some ((Value.ref C :: top).contains v)
  cls : (PySem.W.clsIn K C).isSome = true
  ty : PySem.W.typeIn K (.ref C) = some (.type "type")
theorem EF.chain {C : Addr} {top : List Value} {newId : String} (e : EF K C top newId) : Row K C top := by
  obtain ⟨nm, q, N, bs, sn, sub, ab, col, dd, k0, k1, k2, k3, k5, xL⟩ := e.row
  refine ⟨fun v => ?_, ?_, e.ty⟩
  · show PySem.W.mroIn K C v = _
    unfold PySem.W.mroIn PySem.W.clsIn
    rw [xL]
    rfl
  · unfold PySem.W.clsIn
    rw [xL]
    rfl
theorem Row.one_ty {C : Addr} {top : List Value} {X : String} (r : Row K C top) (km : PySem.W.kitMeta X = true) : PySem.W.kitOne K (.ref C) (.type X) = some (top.contains (.type X)) := by
  unfold PySem.W.kitOne
  rw [if_neg (by simp)]
  show (if PySem.W.kitMeta X = true then PySem.W.subIn K (.ref C) (.type X) else none) = _
  rw [if_pos km, r.sub]
  simp
theorem Row.one_ref {C D : Addr} {top up : List Value} (r : Row K C top) (r2 : Row K D up) : PySem.W.kitOne K (.ref C) (.ref D) = some (decide (C = D) || top.contains (.ref D)) := by
  unfold PySem.W.kitOne
  by_cases h : C = D
  · subst h
    rw [if_pos (by simp)]
    simp
  · rw [if_neg (by simpa using h)]
    show (if ((PySem.W.clsIn K D).isSome && PySem.W.typeIn K (.ref D) == some (.type "type")) = true then PySem.W.subIn K (.ref C) (.ref D) else none) = _
    rw [r2.cls, r2.ty, if_pos (by simp), r.sub]
    have h' : ¬ D = C := fun e => h e.symm
    simp [h, h']
theorem Row.exm_ref {C D : Addr} {top up : List Value} (r : Row K C top) (r2 : Row K D up) (b : up.contains (.type "BaseException") = true) : PySem.W.exmOne K (.ref C) (.ref D) = some (decide (C = D) || top.contains (.ref D)) := by
  unfold PySem.W.exmOne
  rw [r2.sub, if_pos (by rw [List.contains_cons, b]; simp)]
  show (if ((PySem.W.clsIn K D).isSome && PySem.W.typeIn K (.ref D) == some (.type "type")) = true then PySem.W.subIn K (.ref C) (.ref D) else none) = _
  rw [r2.cls, r2.ty, if_pos (by simp), r.sub]
  by_cases h : C = D
  · subst h
    simp
  · have h' : ¬ D = C := fun e => h e.symm
    simp [h, h']
theorem Row.exm_ty {C : Addr} {top : List Value} {X : String} (r : Row K C top) (km : PySem.W.kitMeta X = true) (b : PySem.W.subIn K (.type X) (.type "BaseException") = some true) : PySem.W.exmOne K (.ref C) (.type X) = some (top.contains (.type X)) := by
  unfold PySem.W.exmOne
  rw [b, if_pos (by simp)]
  show (if PySem.W.kitMeta X = true then PySem.W.subIn K (.ref C) (.type X) else none) = _
  rw [if_pos km, r.sub]
  simp
theorem ClsRow.mk2 {C : Addr} {top : List Value} {newId : String} {nm q : Str} {N : Addr} {bs : List Value} {sn : List Str} {sub : List Value} {ab : Bool} {col : Option Bool} {dd : Option Addr} {k0 k1 k2 k3 k5 : Option Value}
    (l : K.lookup C = some (excClassObj nm q C N bs top true sn sub ab col dd k0 k1 k2 k3 k5 newId)) : ClsRow K C top newId := ⟨nm, q, N, bs, sn, sub, ab, col, dd, k0, k1, k2, k3, k5, l⟩

end
def topE (CB : Addr) : List Value := [.ref CB, .type "Exception", .type "BaseException", .type "object"]
def topK : List Value := [.type "KeyError", .type "LookupError", .type "Exception", .type "BaseException", .type "object"]
def topB : List Value := [.type "Exception", .type "BaseException", .type "object"]
section
variable (P : Program) (w : World) (K : PySem.W.Frag) (mg : Str → Option Value) (base : Heap)
/-- an own exception with one field -/
structure Err (x fld : Str) (C : Addr) (top : List Value) : Prop where
  T : ErrC K C
  g : mg x = some (.ref C)
  row : Row K C top
  no : PySem.W.findIn K (.ref C) fld = some none
  ini : ∃ (fI : Addr) (fd : FuncData), PySem.W.findIn K (.ref C) "__init__" = some (some (.ref fI)) ∧ PySem.W.typeIn K (.ref fI) = some (.type "function") ∧ FnOk P w K mg base CX0 1 fI fd ["self", fld] (spIni C fld) ∧ Binds K fd ["self", fld] []
/-- an own exception without fields -/
structure ErrB (K : PySem.W.Frag) (mg : Str → Option Value) (x : Str) (C : Addr) (top : List Value) : Prop where
  T : ErrC K C
  g : mg x = some (.ref C)
  row : Row K C top
end
section
variable {P : Program} {w : World} {K : PySem.W.Frag} {mg : Str → Option Value} {base : Heap} {x fld y g : Str} {C D B : Addr} {top : List Value}
theorem Err.exm_self (Z : Err P w K mg base x fld C top) (h : top.contains (.type "BaseException") = true) : PySem.W.exmOne K (.ref C) (.ref C) = some true := by
  rw [Z.row.exm_ref Z.row h]
  simp
theorem Err.is_self (Z : Err P w K mg base x fld C top) : PySem.W.kitOne K (.ref C) (.ref C) = some true := by
  rw [Z.row.one_ref Z.row]
  simp
theorem Err.is_base (Z : Err P w K mg base x fld C (topE B)) (ZB : ErrB K mg y B topB) : PySem.W.kitOne K (.ref C) (.ref B) = some true := by
  rw [Z.row.one_ref ZB.row]
  simp [topE]
theorem Err.isnt {up : List Value} (Z : Err P w K mg base x fld C (topE B)) (Y : Err P w K mg base y g D up) (h1 : C ≠ D) (h2 : D ≠ B) : PySem.W.kitOne K (.ref C) (.ref D) = some false := by
  rw [Z.row.one_ref Y.row]
  simp [topE, h1, h2]
end
section
variable {X : Cx} {x fld : Str} {C : Addr} {top : List Value} {k : Nat} {p pos : Pos} {e : Expr} {es : List Expr} {ta : TA}
/-- raise C(e) -/
theorem pmk_E (Z : Err X.prog X.w X.K X.mg X.base x fld C top) (hr : Room k X.A) (hk : 2 ≤ k) (hg : Gl X x) (ha : PA X (e :: es) ta) (hdb : (x == ("__debug__" : Str)) = false := by decide)
    (he : starEach (e :: es) X.env = (false, eval e X.env) :: starEach es X.env := by rfl) (hpl : (backTo pos (starEach es X.env)).any (·.1) = false := by rfl) : PMk X (.Call (.Name x p) (e :: es) [] pos) (tErrX C fld ta) := by
  obtain ⟨fI, fd, iC, tI, F1, hb⟩ := Z.ini
  exact pmk_err Z.T iC tI F1 (hr.mono hk) hb pass0 hg Z.g ha hdb he hpl
end
end Wb

set_option Elab.async false
set_option linter.all false
set_option maxRecDepth 100000
set_option maxHeartbeats 4000000
/-! Wc2: the law's own call, for a def by its name; the head's ends. -/
namespace Wb
open PySem PySem.Spec PyProof.Rows L2

/-- the law's def, promised where no repr runs, called from outside -/
theorem lawG2 {P : Program} {w : World} {K : PySem.W.Frag} {mg mb : Str → Option Value} {CX : CXT} {k : Nat} {fa a : Addr} {x : Str} {sp : Sp} {st : Shared} {vs : List Value} {ns : List Int}
    (inK : K.In st.heap) (names : st.heap.Ns mainGlobals mg) (bns : st.heap.Ns builtinsNs mb) (boot : ∀ x : Str, x ≠ "__name__" → mb x = bootBuiltins x) (lim : st.heap.NoLimit) (nogen : st.gens = #[])
    (atA : st.heap.get? a = some { cls := .type "list", data := .seq vs.toArray }) (areInts : IntsAre vs ns) (short : ns.length ≤ sizeLine) (room : Room k callerA)
    (F : ∀ base : Heap, K.In base → base.Ns mainGlobals mg → ∃ fd : FuncData, (∀ (s : Shared) (u : Value), BindsTo s fd ⟨[u], []⟩ [(x, u)]) ∧ FnG P w K mg base CX k fa fd [x] sp)
    (want : ∀ H : Hp, Only H → SqL K H a (ns.map V.int) → sp [.ref a] H (fun v _ => v = .bl true) fun _ _ _ => False)
    (noX : ∀ H e s', CX [] H st (fun _ _ _ => False) e s' → False) :
    codeAny (model P w) callerA (.call (.ref fa) ⟨[.ref a], []⟩) (fun r s' => r = .ok (.ret (.bool true)) ∧ OldK st.heap s'.heap ∧ s'.os = st.os ∧ AllBare s'.gens) st := by
  have rel := vals_ints areInts
  have same := areInts.length
  -- what is told of any abstract heap that tracks the script at most
  suffices go : ∀ H : Hp, Only H → SqL K H a (ns.map V.int) → HOk P w H st.heap → (∀ b, H b ≠ none → b = a) → (H a ≠ none → K.lookup a = none) →
      codeAny (model P w) callerA (.call (.ref fa) ⟨[.ref a], []⟩) (fun r s' => r = .ok (.ret (.bool true)) ∧ OldK st.heap s'.heap ∧ s'.os = st.os ∧ AllBare s'.gens) st by
    rcases own : K.lookup a with _ | ob
    · -- the script is tracked, as a thing that stands still
      let frozen : HO := .frz { cls := .type "list", data := .seq vs.toArray } (.lst (ns.map V.int))
      refine go (fun b => if b = a then some frozen else none) ?_ ?_ ?_ ?_ (fun _ => own)
      · intro b
        by_cases e : b = a
        · exact Or.inr ⟨_, _, if_pos e⟩
        · exact Or.inl (if_neg e)
      · exact Or.inl (Or.inr ⟨_, if_pos rfl⟩)
      · intro b u e
        by_cases h : b = a
        · subst h
          cases (if_pos rfl).symm.trans e
          exact ⟨atA, by simpa using short, vs, _, rel, atA⟩
        · cases (if_neg h).symm.trans e
      · intro b e
        by_cases h : b = a
        · exact h
        · exact absurd (if_neg h) e
    · -- the script is one of the module's own objects
      have there := inK a ob own
      rw [atA] at there
      cases there
      refine go (fun _ => none) (fun _ => Or.inl rfl) ?_ (fun b u e => ?_) (fun b e => absurd rfl e) (fun e => absurd rfl e)
      · exact Or.inr ⟨_, vs.toArray, _, own, rfl, rfl, rfl, by rw [List.size_toArray, same]; exact short, by simpa using rel⟩
      · have e' : (none : Option HO) = some u := e
        cases e'
  intro H only seq ok just notK
  have keepB : ∀ {b : Addr} {o : Obj}, st.heap.get? b = some o → H b = none → (hidT st.heap H).get? b = some o := fun e n => hidT_get e n
  have dictFree : ∀ {b : Addr} {o : Obj} {es : Array DictEntry} {ep : Nat}, st.heap.get? b = some o → o.data = .dict es ep → H b = none := by
    intro b o es ep e d
    by_cases q : H b = none
    · exact q
    · have h := just b q
      subst h
      rw [atA] at e
      cases e
      have d' : Data.seq vs.toArray _ = Data.dict es ep := d
      cases d'
  have nsIn : ∀ {b : Addr} {m : Str → Option Value}, st.heap.Ns b m → (hidT st.heap H).Ns b m := by
    rintro b m ⟨o, es, ep, e, d, r⟩
    exact ⟨o, es, ep, keepB e (dictFree e d), d, r⟩
  have inBase : K.In (hidT st.heap H) := by
    intro b o e
    refine keepB (inK b o e) ?_
    by_cases q : H b = none
    · exact q
    · have h := just b q
      subst h
      rw [notK q] at e
      cases e
  have md : Mod K mg (hidT st.heap H) := by
    obtain ⟨mc, l1, l2⟩ := lim
    exact ⟨inBase, nsIn names, ⟨mb, nsIn bns, boot⟩, ⟨mc, nsIn l1, l2⟩⟩
  have env0 : Env0 P w K mg (hidT st.heap H) callerA [] st H :=
    ⟨rfl, md, fun b o e => of_hidT e, Nat.le_of_eq (hidT_size _ _), trivial, fun b hb => absurd (show b ∈ ([] : List Addr) from hb) (by simp), ok, .of_eq nogen⟩
  obtain ⟨fd, bind1, FF⟩ := F _ inBase (nsIn names)
  have ran := FF.go callerA [] st H ⟨[.ref a], []⟩ [.ref a] [.ref a] _ _ rfl room env0 (bind1 st (.ref a)) (.cons rfl .nil) (want H only seq)
  refine codeAny_mono ran ?_
  intro r s' h
  match r, h with
  | .error e, h => exact (noX H e s' h).elim
  | .ok (.ret u), h =>
    obtain ⟨v, H', os, bare, un, ok', rv, q⟩ := h
    have q' : v = .bl true := q
    subst q'
    obtain rfl : u = Value.bool true := rv
    refine ⟨rfl, OldK.of_keep ?_, os, bare⟩
    intro b o e
    by_cases q : H b = none
    · exact un.keep b o e q (fun z => absurd (show b ∈ ([] : List Addr) from z) (by simp)) (by simp)
    · rcases only b with z | ⟨ob, xs, z⟩
      · exact absurd z q
      · obtain ⟨e1, _⟩ := ok b _ z
        obtain ⟨e2, _⟩ := ok' b _ (un.frzs b ob _ z)
        rw [e] at e1
        cases e1
        exact e2

/-- the goal that the head leaves, from such a promise of the law's def -/
theorem walkG2 {l : PySem.W.OpenLaw} {n k : Nat} {q : Program} {loose : List Str} {XP : (Str → Option Value) → Heap → Prop} {YP : World → Heap → Prop} {d : DefRec} {K : Params → PySem.W.Frag} {CX : World → CXT} {sp : World → Sp} {x : Str}
    (h1 : l.most = some n) (h2 : n ≤ sizeLine) (h3 : d.params.defaults = []) (room : Room k callerA) (hY : ∀ (w : World) (h : Heap), YP w h → (K w.params).In h)
    (F : ∀ (w : World) (mg : Str → Option Value) (fa : Addr) (h : Heap), (K w.params).In h → h.Ns mainGlobals mg → mg d.name = some (.ref fa) →
      ∀ base : Heap, (K w.params).In base → base.Ns mainGlobals mg → ∃ fd : FuncData, (∀ (s : Shared) (u : Value), BindsTo s fd ⟨[u], []⟩ [(x, u)]) ∧ FnG l.prog w (K w.params) mg base (CX w) k fa fd [x] (sp w))
    (want : ∀ (w : World) (H : Hp) (a : Addr) (ns : List Int), ns.length ≤ n → Only H → SqL (K w.params) H a (ns.map V.int) → sp w [.ref a] H (fun v _ => v = .bl true) fun _ _ _ => False)
    (noX : ∀ (w : World) (H : Hp) (s : Shared) (e : Value) (s' : Shared), CX w [] H s (fun _ _ _ => False) e s' → False) :
    PySem.W.WalkO q loose XP YP l.row.toRowW d [] (fun f vs => PySem.call f vs) := by
  apply Att.attach_call h1 h3
  intro w s₀ s₁ mg mb fa o pm cd doc a vs ns G Y ho hd hcd hmg hobj hints hlen hg
  have inK := hY w _ Y
  have hF := F w mg fa _ inK G.T.g hmg
  exact lawG2 inK G.T.g G.T.b G.T.builtins G.T.nolimit hg hobj hints (Nat.le_trans hlen h2) room hF (fun H hO hS => want w H a ns hlen hO hS) fun H e s' => noX w H s₁ e s'
theorem FnF.fn {K : PySem.W.Frag} {nm q : Str} {st : Stmt} {f : Addr} (h : FnF K nm q st f) : ∃ (kV dc pm : Value) (an : Option Addr) (cd ct : Value), Fun K nm q st f (PySem.W.fnOf nm q (defArgs st) (defBody st) (defScope st) .none kV dc pm an cd ct) := by
  obtain ⟨oc, od, kV, dc, pm, an, cd, ct, sl, l, c, k⟩ := h
  exact ⟨kV, dc, pm, an, cd, ct, fun_mk l c k⟩
/-- what the head needs of the law -/
theorem CalG.law {P : Program} {w : World} {K : PySem.W.Frag} {mg : Str → Option Value} {base : Heap} {k : Nat} {st : Stmt} {sp : Sp} {fa : Addr} (C : CalG P w K mg base CX0 k "law" st ["script"] sp) (hfa : mg "law" = some (.ref fa))
    (hb : ∀ (kV dc pm : Value) (an : Option Addr) (cd ct : Value) (s : Shared) (u : Value), BindsTo s (PySem.W.fnOf "law" "law" (defArgs st) (defBody st) (defScope st) .none kV dc pm an cd ct) ⟨[u], []⟩ [("script", u)]) :
    ∃ fd : FuncData, (∀ (s : Shared) (u : Value), BindsTo s fd ⟨[u], []⟩ [("script", u)]) ∧ FnG P w K mg base CX0 k fa fd ["script"] sp := by
  obtain ⟨f, fd, F, m, _, _, kV, dc, pm, an, cd, ct, rfl⟩ := C
  have e := m.symm.trans hfa
  cases e
  exact ⟨_, hb kV dc pm an cd ct, F⟩
/-- the law of a script -/
def spLaw (K : PySem.W.Frag) : Sp := fun vs H Q _ => ∃ (a : Addr) (ns : List Int), vs = [.ref a] ∧ SqL K H a (ns.map V.int) ∧ ns.length ≤ 63 ∧ ∀ H', Q (.bl true) H'
theorem walk2 {l : PySem.W.OpenLaw} {q : Program} {loose : List Str} {XP : (Str → Option Value) → Heap → Prop} {YP : World → Heap → Prop} {d : DefRec} {K : Params → PySem.W.Frag} {k : Nat} (room : Room k callerA) (hn : l.most = some 63) (hdf : d.params.defaults = [])
    (hY : ∀ (w : World) (h : Heap), YP w h → (K w.params).In h)
    (F : ∀ (w : World) (mg : Str → Option Value) (fa : Addr) (h : Heap), (K w.params).In h → h.Ns mainGlobals mg → mg d.name = some (.ref fa) →
      ∀ base : Heap, (K w.params).In base → base.Ns mainGlobals mg → ∃ fd : FuncData, (∀ (s : Shared) (u : Value), BindsTo s fd ⟨[u], []⟩ [("script", u)]) ∧ FnG l.prog w (K w.params) mg base CX0 k fa fd ["script"] (spLaw (K w.params))) :
    PySem.W.WalkO q loose XP YP l.row.toRowW d [] (fun f vs => PySem.call f vs) :=
  walkG2 (n := 63) (k := k) (x := "script") (CX := fun _ => CX0) (sp := fun w => spLaw (K w.params)) hn (by decide) hdf room hY F (fun _ _ a ns hl _ hS => ⟨a, ns, rfl, hS, hl, fun _ => rfl⟩) fun _ _ _ _ _ z => z
/-- a written tuple of ints -/
theorem tup_of {K : PySem.W.Frag} {a : Addr} {od : Option Addr} {its : Array Value} {n : Nat} {sl : Array (Option Value)} {xs : List V} (l : K.lookup a = some ⟨.type "tuple", od, .seq its n, sl⟩) (hz : its.size ≤ sizeLine) (r : Vals xs its.toList) : ∀ H, SqT K H a xs :=
  fun H => .inr ⟨_, its, n, l, rfl, rfl, hz, r⟩
end Wb

set_option Elab.async false
set_option linter.all false
set_option maxRecDepth 100000
set_option maxHeartbeats 4000000
/-! Ws0: sorted(xs), xs a list of data that are alike, empty tuples among them too. -/
namespace PySem.W
open PySem PySem.Calls PyProof.Rows PySem.SeqAt
section
variable {prog : Program} {w : World} {A : Around} {E : Value → Shared → Prop} {s : Shared}
theorem oneLt_tup {f : Bool} {xs ys : List PyData} {a b : Value} {as bs : List Addr} {Q : Bool → Shared → Prop} (ra : Reads s.heap a (.tuple xs) as) (rb : Reads s.heap b (.tuple ys) bs) (h : alike (.tuple xs) (.tuple ys) = true)
    (hu : A.units + min (PyData.tuple xs).depth (PyData.tuple ys).depth < cLine) (hq : Q (dataLt (.tuple xs) (.tuple ys)) s) : wpAny (model prog w) A (oneLt' f a b) Q E s := by
  cases f with
  | false => exact oneLt_alike (fun z => nomatch z) ra rb h (fun z => nomatch z) hu hq
  | true =>
    have hal : alikeAll xs ys = true := by simpa [alike] using h
    cases ra with
    | @tuple l o vs n _ as₁ h1 h2 h3 h4 =>
      cases rb with
      | @tuple l' o' vs' n' _ bs₁ k1 k2 k3 k4 =>
        have n1 : vs.size = xs.length := by simpa using ReadsAll.length _ _ _ h4
        have n2 : vs'.size = ys.length := by simpa using ReadsAll.length _ _ _ k4
        rw [dataLt_tuple, ← firstLt_toks xs ys hal, ← n1, ← n2] at hq
        rw [oneLt'_eq]
        simp only [if_true]
        refine wpAny_bind (wpAny_cRoomFor (room_here hu) ?_)
        obtain ⟨cls, dd, data, sl⟩ := o
        obtain ⟨cls2, dd2, data2, sl2⟩ := o'
        simp only at h2 h3 k2 k3
        subst h2 h3 k2 k3
        refine wpAny_bind (wpAny_callSpecialIfBound?_slot (T := "tuple") ⟨_, h1, rfl⟩ F.slot_tuple_lt (call_meets F.slot_tuple_lt ⟨_, h1, rfl⟩ F.entry_tuple_lt (F.args_tuple_lt_2 _ _)
          (tuple_ltAt l l' vs vs' n n' dd dd2 sl sl2 (pairEq xs ys) (fun j => dataLt (xs.getD j .none) (ys.getD j .none))) ⟨h1, k1, fun j j1 j2 => ?_, fun j j1 j2 hj => ?_, ?_⟩))
        · have := eqAt_alikeAll xs ys A.in1 s vs.toList vs'.toList _ _ h4 k4 hal (room_in hu) j (by simpa using j1) (by simpa using j2)
          simpa using this
        · have := rcLt_alikeAll xs ys A.in1 s vs.toList vs'.toList _ _ h4 k4 hal (room_in hu) j (by simpa using j1) (by simpa using j2) hj
          simpa using this
        · exact wpAny_truthy_bool hq
def full : PyData → Bool
  | .tuple (_ :: _) => true
  | _ => false
/-- the first items of tuples, empty ones among them -/
theorem firsts_mix : ∀ (vs : List Value) (ds : List PyData) {Q : List (Option Value) → Shared → Prop}, EachIs (fun v d => ∃ as, Reads s.heap v d as) vs ds → (∀ d, d ∈ ds → ∃ xs, d = .tuple xs) →
    (∀ fs : List (Option Value), fs.map (·.isSome) = ds.map full → Q fs s) → wpAny (model prog w) A (vs.mapM firstOfTuple') Q E s
  | _, _, _, .nil, _, h => by
    rw [List.mapM_nil]
    exact wpAny_pure (h [] rfl)
  | _, _, Q, .cons (b := d) (as := vs) (bs := ds) ⟨as, r⟩ t, ht, h => by
    obtain ⟨xs, rfl⟩ := ht d List.mem_cons_self
    cases r with
    | @tuple a o us n _ _ ho hc hd hr =>
      rw [List.mapM_cons]
      refine wpAny_bind ?_
      rw [kas_first_eq]
      refine wpAny_bind (Looks.here (show Looks (model prog w) s.heap (typeOf (.ref a)) o.cls from (Looks.ld ho).andThen .now) ?_)
      rw [hc, if_neg (by first | decide | simp)]
      refine wpAny_bind (listItems_at ho hd (wpAny_pure ?_))
      have e : (us[0]?).isSome = full (.tuple xs) := by
        have n1 : us.size = xs.length := by simpa using ReadsAll.length _ _ _ hr
        cases xs with
        | nil =>
          have : us[0]? = none := by
            rw [Array.getElem?_eq_none_iff, n1]
            exact Nat.le_refl _
          rw [this]
          rfl
        | cons x r =>
          have : 0 < us.size := by rw [n1]; simp
          rw [Array.getElem?_eq_getElem this]
          rfl
      exact wpAny_bind (firsts_mix vs ds (Q := fun bs s' => wpAny (model prog w) A (pure (us[0]? :: bs)) Q E s') t (fun d hd => ht d (List.mem_cons_of_mem _ hd)) fun fs hf => wpAny_pure (h _ (by rw [List.map_cons, List.map_cons, hf, e])))
/-- tuples that are alike can be sorted -/
theorem SortsAt.tups {vs : List Value} {ds : List PyData} (e : EachIs (fun v d => ∃ as, Reads s.heap v d as) vs ds) (hal : AllAlike ds) (ht : ∀ d, d ∈ ds → ∃ xs, d = .tuple xs) (hu : ∀ d, d ∈ ds → A.units + d.depth < cLine) : SortsAt prog w A s (dataKind s.heap ds) vs := by
  by_cases hf : ∀ d, d ∈ ds → full d = true
  · refine SortsAt.data e hal (.inl fun d hd => ?_) hu
    obtain ⟨xs, rfl⟩ := ht d hd
    have := hf _ hd
    cases xs with
    | nil => cases this
    | cons x r => exact ⟨x, r, rfl⟩
  have lt : ∀ kd : SortKind, (∀ x y, keyLt' kd x y = oneLt' true x y) ∨ (∀ x y, keyLt' kd x y = oneLt' false x y) → H.LtAt prog w A s (dataKind s.heap ds) kd := by
    intro kd hk E x y a b Q ha hb hq
    obtain ⟨d, as, hd, ra, rfl⟩ := dataKind_inv ha
    obtain ⟨d', as', hd', rb, rfl⟩ := dataKind_inv hb
    obtain ⟨xs, rfl⟩ := ht d hd
    obtain ⟨ys, rfl⟩ := ht d' hd'
    have room : A.units + min (PyData.tuple xs).depth (PyData.tuple ys).depth < cLine := Nat.lt_of_le_of_lt (Nat.add_le_add_left (Nat.min_le_left _ _) _) (hu _ hd)
    rcases hk with hk | hk
    · rw [hk]
      exact oneLt_tup ra rb (hal _ hd _ hd') room hq
    · rw [hk]
      exact oneLt_tup ra rb (hal _ hd _ hd') room hq
  have hkeys : ∀ v, v ∈ vs → ∃ a, (dataKind s.heap ds).keyOf v = some a := fun v hv => by
    obtain ⟨d, hd, as, r⟩ := e.left v hv
    exact ⟨_, dataKind_some hal hd r⟩
  cases ds with
  | nil => exact absurd (fun d hd => nomatch hd) hf
  | cons d₀ ds₀ =>
    have many : ∀ fs : List (Option Value), fs.map (·.isSome) = (d₀ :: ds₀).map full → fs.toArray.all (·.isSome) = false := by
      intro fs hfs
      rw [Bool.eq_false_iff]
      intro q
      refine hf fun d hd => ?_
      rw [List.all_toArray, List.all_eq_true] at q
      have m : full d ∈ fs.map (·.isSome) := by
        rw [hfs]
        exact List.mem_map.mpr ⟨d, hd, rfl⟩
      obtain ⟨o, ho, eo⟩ := List.mem_map.mp m
      rw [← eo]
      exact q o ho
    have first : ∀ fs : List (Option Value), fs.map (·.isSome) = (d₀ :: ds₀).map full → ((fs.toArray[0]?).bind id).isSome = full d₀ := by
      intro fs hfs
      cases fs with
      | nil => cases hfs
      | cons o r =>
        rw [List.map_cons, List.map_cons] at hfs
        have := (List.cons.inj hfs).1
        simpa using this
    cases hd0 : full d₀ with
    | true =>
      refine ⟨hkeys, general', lt _ (.inr fun _ _ => rfl), fun _ E Q hq => ?_⟩
      rw [keyKind'_eq, List.mapM_toArray, map_eq_pure_bind]
      refine wpAny_bind (wpAny_bind (firsts_mix vs _ e ht fun fs hfs => wpAny_pure ?_))
      rw [if_neg (by rw [many fs hfs]; decide), if_pos (by rw [first fs hfs, hd0])]
      exact wpAny_pure hq
    | false =>
      refine ⟨hkeys, oneType', lt _ (.inl fun _ _ => rfl), fun _ E Q hq => ?_⟩
      rw [keyKind'_eq, List.mapM_toArray, map_eq_pure_bind]
      refine wpAny_bind (wpAny_bind (firsts_mix vs _ e ht fun fs hfs => wpAny_pure ?_))
      rw [if_neg (by rw [many fs hfs]; decide), if_neg (by rw [first fs hfs, hd0]; decide)]
      rw [oneTypeOnly'_eq, List.mapM_toArray, map_eq_pure_bind]
      have tys : ∀ v ∈ vs, ∀ Q' : Value → Shared → Prop, Q' (.type "tuple") s → wpAny (model prog w) A (typeOf v) Q' E s := fun v hv Q' hq' => by
        obtain ⟨d, hd, as, r⟩ := e.left v hv
        obtain ⟨xs, rfl⟩ := ht d hd
        exact (looks_reads r).here hq'
      refine wpAny_bind (wpAny_bind (wpAny_bind (kas_mapM (r := Value.type "tuple") _ (fun v hv Q' hq' => tys v hv Q' hq') (wpAny_pure ?_))))
      cases e with
      | cons h1 t =>
        rename_i v0 vr _
        have h0 : (List.map (fun _ => Value.type "tuple") (v0 :: vr)).toArray[0]? = some (Value.type "tuple") := by simp
        rw [h0]
        have h3 : ((List.map (fun _ => Value.type "tuple") (v0 :: vr)).toArray.all fun x => x == Value.type "tuple") = true := by
          simp only [List.all_toArray, List.all_map, List.all_eq_true]
          intro _ _
          exact beq_self_eq_true _
        dsimp only
        rw [if_pos h3]
        exact wpAny_pure (wpAny_pure hq)
/-- what can be sorted: tuples, or neither tuples nor None -/
def SortOk (ds : List PyData) : Prop := (∀ d, d ∈ ds → ∃ xs, d = .tuple xs) ∨ ∀ d, d ∈ ds → d ≠ .none ∧ ∀ xs, d ≠ .tuple xs
theorem SortsAt.ok {vs : List Value} {ds : List PyData} (e : EachIs (fun v d => ∃ as, Reads s.heap v d as) vs ds) (hal : AllAlike ds) (hk : SortOk ds) (hu : ∀ d, d ∈ ds → A.units + d.depth < cLine) : SortsAt prog w A s (dataKind s.heap ds) vs := by
  rcases hk with h | h
  · exact SortsAt.tups e hal h hu
  · exact SortsAt.data e hal (.inr h) hu
theorem sorted_ok {l : Addr} {β : Type} {vs : List Value} {bs : List β} {enc : β → PyData} {R : Value → β → Prop} {Q : Value → Shared → Prop} (hl : s.heap.IsList l vs.toArray) (e : EachIs R vs bs) (er : EachIs (fun v b => ∃ as, Reads s.heap v (enc b) as) vs bs)
    (hal : AllAlike (bs.map enc)) (hk : SortOk (bs.map enc)) (hL : bs.length ≤ sizeLine)
    (hu : ∀ b, b ∈ bs → A.units + 2 + (enc b).depth < cLine) (h : ∀ out, out.length = bs.length → EachIs R out (bs.mergeSort (dataLe false enc)) → Q (.ref (s.heap.objs.size + 1)) { s with heap := sortedAll s.heap vs (List.toArray out) }) :
    wpAny (model prog w) A (call (.builtin "sorted") [.ref l]) Q E s := by
  have er' : EachIs (fun v b => ∃ as, Reads (sortingHeap (copyHeap s.heap vs) (s.heap.objs.size + 1) vs) v (enc b) as) vs bs := er.mono fun _ _ ⟨as, r⟩ => ⟨as, PyProof.Rows.Reads.keeps (fun _ _ => sorting_copy_old) r⟩
  exact sorted_vals hl (SortsAt.ok (s := { s with heap := sortingHeap (copyHeap s.heap vs) (s.heap.objs.size + 1) vs }) (each_map (R := fun v d => ∃ as, Reads (sortingHeap (copyHeap s.heap vs) (s.heap.objs.size + 1) vs) v d as) enc er') hal hk (bound_map hu)) (by rw [e.length]; exact hL)
    (h _ (by rw [sortVals_length false rfl]; exact e.length) (sortVals_data false e er' hal))
end
end PySem.W
namespace Wb
open PySem PySem.Spec PyProof.Rows L2
/-- the order of data -/
def dle (x y : PyData) : Bool := PySem.W.dataLe false (fun d : PyData => d) x y
def sortD (ds : List PyData) : List PyData := ds.mergeSort dle
/-- the values in that order -/
def sortV (xs : List V) (ds : List PyData) : List V := ((xs.zip ds).mergeSort fun a b => dle a.2 b.2).map Prod.fst
/-- sorted(xs) of a list of data -/
def rSortedD (K : PySem.W.Frag) : List V → Hp → VK → Prop := fun vs H Q => ∃ (a : Addr) (xs : List V) (ds : List PyData), vs = [.ref a] ∧ SqL K H a xs ∧ DpAll K H xs ds ∧ PySem.W.AllAlike ds ∧ PySem.W.SortOk ds ∧ (∀ d ∈ ds, d.depth ≤ 60) ∧
  ∀ p, H p = none → Q (.ref p) (upd H p (.lst (sortV xs ds)))
theorem dpAll_pairs {K : PySem.W.Frag} {H : Hp} : ∀ {l : List (V × PyData)}, (∀ p ∈ l, Dp K H p.1 p.2) → DpAll K H (l.map Prod.fst) (l.map Prod.snd)
  | [], _ => .nil
  | p :: l, h => .cons (h p List.mem_cons_self) (dpAll_pairs fun q hq => h q (List.mem_cons_of_mem _ hq))
theorem pairs_dpAll {K : PySem.W.Frag} {H : Hp} : ∀ {xs : List V} {ds : List PyData}, DpAll K H xs ds → ∀ p ∈ xs.zip ds, Dp K H p.1 p.2
  | _, _, .nil => fun p h => nomatch h
  | _, _, .cons h t => fun p hp => by
    rcases List.mem_cons.mp hp with e | hp
    · rw [e]
      exact h
    · exact pairs_dpAll t p hp
theorem each_pairs {X : Cx} {pins : List (Addr × Obj)} {σ : L2.St} {H : Hp} {s : Shared} (I : Inv X pins σ H s) : ∀ {xs : List V} {its : List Value} {ds : List PyData}, Vals xs its → DpAll X.K H xs ds →
    PySem.W.EachIs (fun (v : Value) (b : V × PyData) => RelV b.1 v ∧ Dp X.K H b.1 b.2) its (xs.zip ds)
  | _, _, _, .nil, .nil => .nil
  | _, _, _, .cons r t, .cons h g => .cons ⟨r, h⟩ (each_pairs I t g)
theorem pairs_out {K : PySem.W.Frag} {H : Hp} : ∀ {out : List Value} {bs : List (V × PyData)}, PySem.W.EachIs (fun (v : Value) (b : V × PyData) => RelV b.1 v ∧ Dp K H b.1 b.2) out bs → Vals (bs.map Prod.fst) out ∧ DpAll K H (bs.map Prod.fst) (bs.map Prod.snd)
  | _, _, .nil => ⟨.nil, .nil⟩
  | _, _, .cons h t => by
    obtain ⟨a, b⟩ := pairs_out t
    exact ⟨.cons h.1 a, .cons h.2 b⟩
theorem zip_snd : ∀ {xs : List V} {ds : List PyData}, xs.length = ds.length → (xs.zip ds).map Prod.snd = ds
  | [], [], _ => rfl
  | x :: xs, d :: ds, h => by
    rw [List.zip_cons_cons, List.map_cons, zip_snd (by simpa using h)]
theorem dp_sort {K : PySem.W.Frag} {H : Hp} {xs : List V} {ds : List PyData} (h : DpAll K H xs ds) : DpAll K H (sortV xs ds) (sortD ds) := by
  have e : ((xs.zip ds).mergeSort fun a b => dle a.2 b.2).map Prod.snd = sortD ds := by
    unfold sortD
    rw [List.map_mergeSort (s := dle) (f := Prod.snd) (fun a _ b _ => rfl), zip_snd (dpAll_len h)]
  rw [← e]
  exact dpAll_pairs fun p hp => pairs_dpAll h p ((List.mergeSort_perm _ _).mem_iff.mp hp)
section
variable {X : Cx}
theorem cr_sortedD (hu : X.A.units + 64 < cLine) : CallR X (.builtin "sorted") (rSortedD X.K) := by
  intro pins s σ H vs us Q I r h
  obtain ⟨a, xs, ds, rfl, hs, hd, hal, hk, hdep, q⟩ := h
  obtain ⟨its, rv, hl, hz⟩ := I.list hs
  obtain ⟨u, rfl, ru⟩ := vals1 r
  obtain rfl : u = Value.ref a := ru
  have len : xs.length = ds.length := dpAll_len hd
  have em : (xs.zip ds).map Prod.snd = ds := zip_snd len
  have e := each_pairs I rv hd
  have er : PySem.W.EachIs (fun (v : Value) (b : V × PyData) => ∃ as, Reads s.heap v b.2 as) its (xs.zip ds) := e.mono fun v b h => Dp.reads I b.2 b.1 v h.2 h.1
  refine PySem.W.sorted_ok (enc := Prod.snd) hl.isList e er (by rw [em]; exact hal) (by rw [em]; exact hk) (by rw [List.length_zip]; omega) (fun b hb => ?_) fun out ho eo => ?_
  · have := hdep b.2 (List.of_mem_zip hb).2
    omega
  · obtain ⟨o1, o2⟩ := pairs_out eo
    obtain ⟨c, hc⟩ := PyProof.Rows.sortedAll_at s.heap its out.toArray
    have ln : (((xs.zip ds).mergeSort (PySem.W.dataLe false Prod.snd)).map Prod.fst).length ≤ sizeLine := by
      rw [List.length_map, List.length_mergeSort, List.length_zip]
      omega
    exact ⟨.ref (s.heap.objs.size + 1), upd H (s.heap.objs.size + 1) (.lst (((xs.zip ds).mergeSort (PySem.W.dataLe false Prod.snd)).map Prod.fst)), I.laid (t' := s.toks) (fun _ _ => PyProof.Rows.sortedAll_old) (Nat.le_succ _) ⟨ln, out, c, o1, hc⟩, rfl, q _ (I.hok.fresh (Nat.le_succ _))⟩
end
end Wb

set_option Elab.async false
set_option linter.all false
set_option maxRecDepth 100000
set_option maxHeartbeats 4000000
/-! Wz0: sorted(d), d a dict whose keys are tuples of ints and texts. -/
namespace PySem.W
open PySem PySem.Calls PyProof.Rows PySem.SeqAt
section
variable {prog : Program} {w : World} {A : Around} {E : Value → Shared → Prop} {s : Shared}
theorem sorted_src {T : String} {r d : Addr} {n : Nat} {P : Nat → Value → Prop} {OK : Heap → Prop} (K : KdlSrc prog w T r d n P OK) (hh : A.handled = none) (hok : OK s.heap) (hn : n ≤ sizeLine) {Q : Value → Shared → Prop}
    (hQ : ∀ (h' : Heap) (tk : Nat) (acc : Array Value), (∀ b o, s.heap.get? b = some o → h'.get? b = some o) → ItemsOf P acc n → ∃ ds : List PyData,
      SortsAt prog w A.in1.in1 { s with heap := sortingHeap (h'.push (seqObj "list" acc.toList.toArray 0)) h'.objs.size acc.toList, toks := tk } (dataKind (sortingHeap (h'.push (seqObj "list" acc.toList.toArray 0)) h'.objs.size acc.toList) ds) acc.toList ∧
      Q (.ref h'.objs.size) { s with heap := sortedHeap (h'.push (seqObj "list" acc.toList.toArray 0)) h'.objs.size acc.toList (sortVals (dataKind (sortingHeap (h'.push (seqObj "list" acc.toList.toArray 0)) h'.objs.size acc.toList) ds) false acc.toList acc.toList).toArray, toks := tk }) :
    wpAny (model prog w) A (call (.builtin "sorted") [.ref r]) Q E s := by
  refine Calls.call_function_entry kind_sorted plain_sorted entry_sorted (args_sorted1 _) ?_
  unfold Builtin.«sorted»
  refine wpAny_bind (m := checkCount "sorted" 1 1 _) (wpAny_pure ?_)
  refine wpAny_bind (kdu_collect (A := A.in1) K hh hok hn fun h' tk acc hk hacc => ?_)
  obtain ⟨ds, S, q⟩ := hQ h' tk acc hk hacc
  have hl : acc.toList.length = n := by rw [Array.length_toList, hacc.1]
  refine wpAny_bind (wpAny_newList ?_ (by rw [hl]; exact hn))
  have hoL : (h'.push (seqObj "list" acc.toList.toArray 0)).get? h'.objs.size = some (seqObj "list" acc.toList.toArray 0) := Heap.get?_push_size _ rfl
  show wpAny _ _ _ _ _ { s with heap := h'.push (seqObj "list" acc.toList.toArray 0), toks := tk }
  refine wpAny_bind (wpAny_holding (wpAny_call_entry slot_list_sort ⟨_, hoL, rfl⟩ entry_list_sort ?body (args_list_sort _)))
  case body =>
    show wpAny (model prog w) A.in1.in1 (Builtin.«list.sort» ⟨[.ref h'.objs.size], []⟩) _ _ _
    exact list_sort_vals (s := { s with heap := h'.push (seqObj "list" acc.toList.toArray 0), toks := tk }) hoL S (by rw [hl]; exact hn) ⟨_, rfl, wpAny_pure ⟨_, rfl, q⟩⟩
end
end PySem.W
namespace Wb
open PySem PySem.Spec PyProof.Rows L2
def keyD1 : Key → PyData
  | .inl i => .int i
  | .inr z => .str z
def keyDt (ks : List Key) : PyData := .tuple (ks.map keyD1)
def rSortedDT (K : PySem.W.Frag) : List V → Hp → VK → Prop := fun vs H Q => ∃ (d : Addr) (kvs : List (List Key × V)), vs = [.ref d] ∧ Rd H d (.dT kvs) ∧ PySem.W.AllAlike (kvs.map fun kv => keyDt kv.1) ∧
  ∀ p bs, H p = none → IsKeys H kvs bs → DpAll K H (bs.map V.ref) (kvs.map fun kv => keyDt kv.1) → Q (.ref p) (upd H p (.lst (sortV (bs.map V.ref) (kvs.map fun kv => keyDt kv.1))))
theorem dp_key {K : PySem.W.Frag} {H : Hp} : ∀ ks : List Key, DpAll K H (ks.map kV) (ks.map keyD1)
  | [] => .nil
  | .inl i :: ks => .cons (.int i) (dp_key ks)
  | .inr z :: ks => .cons (.str z) (dp_key ks)
theorem dp_keys {K : PySem.W.Frag} {H : Hp} {kvs : List (List Key × V)} {bs : List Addr} (h : IsKeys H kvs bs) : DpAll K H (bs.map V.ref) (kvs.map fun kv => keyDt kv.1) := by
  unfold IsKeys at h
  induction h with
  | nil => exact .nil
  | cons h t ih => exact .cons (.tup (SqT.of h) (dp_key _)) ih
theorem depth_key (ks : List Key) : (keyDt ks).depth ≤ 2 := by
  have h : ∀ ks : List Key, PyData.depthAll (ks.map keyD1) ≤ 1 := fun ks => by
    induction ks with
    | nil => exact Nat.zero_le _
    | cons k ks ih =>
      rw [List.map_cons]
      show max (keyD1 k).depth (PyData.depthAll (ks.map keyD1)) ≤ 1
      cases k with
      | inl i => exact Nat.max_le.mpr ⟨by simp [keyD1, PyData.depth], ih⟩
      | inr z => exact Nat.max_le.mpr ⟨by simp [keyD1, PyData.depth], ih⟩
  have := h ks
  unfold keyDt
  simp only [PyData.depth]
  omega
section
variable {X : Cx}
theorem cr_sortedDT (hc : X.calm = true) (hu : X.A.units + 64 < cLine) : CallR X (.builtin "sorted") (rSortedDT X.K) := by
  intro pins s σ H xs us Q I r h
  obtain ⟨d, kvs, rfl, hd, hal, q⟩ := h
  obtain ⟨u, rfl, rx⟩ := r.one
  cases rx
  obtain ⟨z, hs, ks, pr, o, es, ep, ho, hx, hdt, he, hn⟩ := (show ObjOk X.prog X.w H s.heap d (.dT kvs) from hd.ok I.hok)
  have l1 : es.size = ks.length := size_of_entries he
  have l2 : kvs.length = ks.length := Paired.length pr
  refine PySem.W.sorted_src (kdl_raw hs hx hdt) (I.ok.hd hc) ho (by omega) fun h' tk acc kp it => ?_
  have ea : acc.toList = ks.map fun x => Value.ref x.2.1 := by
    have hl : acc.toList.length = ks.length := by rw [Array.length_toList, it.1]; exact l1
    apply List.ext_getElem?
    intro j
    rw [List.getElem?_map]
    cases hj : acc.toList[j]? with
    | none =>
      have h1 := List.getElem?_eq_none_iff.mp hj
      rw [List.getElem?_eq_none (by omega)]
      all_goals rfl
    | some v =>
      obtain ⟨en, hen, hv⟩ := it.2 j v (by rw [← Array.getElem?_toList]; exact hj)
      have qe := entry_at he j
      rw [hen] at qe
      cases hb : ks[j]? with
      | none =>
        rw [hb] at qe
        exact nomatch (show some en = none from qe)
      | some b =>
        rw [hb] at qe
        have e2 : en = entryOfKey (tupleKind (mixKind X.prog X.w)) b := Option.some.inj qe
        rw [hv, e2]
        all_goals rfl
  have eb : acc.toList = (ks.map fun x => x.2.1).map Value.ref := by rw [ea, List.map_map]; all_goals rfl
  have rv : Vals ((ks.map fun x => x.2.1).map V.ref) acc.toList := by rw [eb]; exact vals_refs _
  have ik : IsKeys H kvs (ks.map fun x => x.2.1) := isKeys_of pr
  generalize ks.map (fun x => x.2.1) = bs at eb rv ik
  have hdp : DpAll X.K H (bs.map V.ref) (kvs.map fun kv => keyDt kv.1) := dp_keys ik
  have len := dpAll_len hdp
  have em : ((bs.map V.ref).zip (kvs.map fun kv => keyDt kv.1)).map Prod.snd = kvs.map fun kv => keyDt kv.1 := zip_snd len
  have I1 : Inv X pins σ H { s with heap := h', toks := tk } := I.kept kp
  have e := each_pairs I1 rv hdp
  have hoL : (h'.push (seqObj "list" acc.toList.toArray 0)).get? h'.objs.size = some (seqObj "list" acc.toList.toArray 0) := Heap.get?_push_size _ rfl
  have old : ∀ b u, h'.get? b = some u → (PySem.W.sortingHeap (h'.push (seqObj "list" acc.toList.toArray 0)) h'.objs.size acc.toList).get? b = some u := fun b u hb =>
    PySem.W.sortingHeap_old (Nat.ne_of_lt (Heap.lt_size hb)) (Heap.get?_push_of_some _ hb)
  have er : PySem.W.EachIs (fun (v : Value) (b : V × PyData) => ∃ as, Reads (PySem.W.sortingHeap (h'.push (seqObj "list" acc.toList.toArray 0)) h'.objs.size acc.toList) v b.2 as) acc.toList ((bs.map V.ref).zip (kvs.map fun kv => keyDt kv.1)) :=
    e.mono fun v b h => by
      obtain ⟨as, rr⟩ := Dp.reads I1 b.2 b.1 v h.2 h.1
      exact ⟨as, PyProof.Rows.Reads.keeps old rr⟩
  refine ⟨((bs.map V.ref).zip (kvs.map fun kv => keyDt kv.1)).map Prod.snd, PySem.W.SortsAt.ok (PySem.W.each_map (R := fun v d => ∃ as, Reads (PySem.W.sortingHeap (h'.push (seqObj "list" acc.toList.toArray 0)) h'.objs.size acc.toList) v d as) Prod.snd er) (by rw [em]; exact hal) (.inl ?_) (PySem.W.bound_map ?_), ?_⟩
  · intro d hd
    rw [em] at hd
    obtain ⟨kv, _, rfl⟩ := List.mem_map.mp hd
    exact ⟨_, rfl⟩
  · intro b hb
    have hb := (List.of_mem_zip hb).2
    obtain ⟨kv, _, e⟩ := List.mem_map.mp hb
    have := depth_key kv.1
    rw [← e]
    show X.A.units + 1 + 1 + (keyDt kv.1).depth < cLine
    omega
  · have eo := PySem.W.sortVals_data false e er (by rw [em]; exact hal)
    obtain ⟨o1, o2⟩ := pairs_out eo
    obtain ⟨c, hcc⟩ := PyProof.Rows.sortedHeap_at (vs := acc.toList) (out := (PySem.W.sortVals (PySem.W.dataKind (PySem.W.sortingHeap (h'.push (seqObj "list" acc.toList.toArray 0)) h'.objs.size acc.toList) (((bs.map V.ref).zip (kvs.map fun kv => keyDt kv.1)).map Prod.snd)) false acc.toList acc.toList).toArray) hoL
    have ln : (sortV (bs.map V.ref) (kvs.map fun kv : List Key × V => keyDt kv.1)).length ≤ sizeLine := by
      unfold sortV
      rw [List.length_map, List.length_mergeSort, List.length_zip, len, Nat.min_self, List.length_map]
      omega
    have o1 : Vals (sortV (bs.map V.ref) (kvs.map fun kv : List Key × V => keyDt kv.1)) _ := o1
    refine ⟨.ref h'.objs.size, upd H h'.objs.size (.lst (sortV (bs.map V.ref) (kvs.map fun kv : List Key × V => keyDt kv.1))), I1.laid (t' := tk) (fun b u e => ?_) (Nat.le_refl _) ⟨ln, _, c, o1, hcc⟩, rfl, q _ bs (I1.hok.fresh (Nat.le_refl _)) ik hdp⟩
    have hlt := Heap.lt_size e
    rw [PyProof.Rows.sortedHeap_old (Nat.ne_of_lt hlt) (by rw [size_push']; exact Nat.lt_succ_of_lt hlt)]
    exact Heap.get?_push_of_some _ e
end
end Wb

set_option Elab.async false
set_option linter.all false
set_option maxRecDepth 100000
set_option maxHeartbeats 4000000
/-! Wz1: dicts whose keys are tuples of ints and texts, written ones and built ones alike. -/
namespace Wb
open PySem PySem.Spec PyProof.Rows L2
abbrev FK (P : Program) (w : World) : HeapKind P w (List Key) := tupleKind (mixKind P w)
/-- an entry: its key, where the key stands, its value -/
abbrev En := List Key × Addr × V
def UV : List En → List (List Key × Addr × Value) → Prop := Paired fun p q => p.1 = q.1 ∧ p.2.1 = q.2.1 ∧ RelV p.2.2 q.2.2
def DicH (P : Program) (w : World) (a : Addr) (kvs : List En) (h : Heap) : Prop := kvs.length ≤ sizeLine ∧ (a == sysModules) = false ∧ ∃ us, UV kvs us ∧ ∃ o es ep, h.get? a = some o ∧ o.ExactDict ∧ o.data = .dict es ep ∧ es.toList = us.map (entryOfKey (FK P w)) ∧ (us.map (·.1)).Nodup
/-- the dict at a -/
def DicO (P : Program) (w : World) (a : Addr) (kvs : List En) : HO := .ext (DicH P w a kvs)
def KeyAt (K : PySem.W.Frag) (H : Hp) (k : List Key) (b : Addr) : Prop := SqT K H b (k.map kV)
def KeysAt (K : PySem.W.Frag) (H : Hp) (kvs : List En) : Prop := ∀ p ∈ kvs, KeyAt K H p.1 p.2.1
def atH (kvs : List En) (k : List Key) : Option V := (kvs.find? fun p => decide (p.1 = k)).map (·.2.2)
def putH (kvs : List En) (k : List Key) (b : Addr) (v : V) : List En := if (atH kvs k).isSome = true then kvs.map (fun p => if p.1 = k then (p.1, p.2.1, v) else p) else kvs ++ [(k, b, v)]
theorem dic_new {P : Program} {w : World} {H : Hp} {h : Heap} {a : Addr} {kvs : List En} (R : DicH P w a kvs h) : ObjOk P w H h a (DicO P w a kvs) := by
  have ⟨_, _, _, _, o, _, _, ho, _⟩ := R
  refine ⟨R, ⟨o, ho⟩, fun h1 h2 p k => ?_⟩
  obtain ⟨z, y, us, r, o, es, ep, ho, c⟩ := p
  exact ⟨z, y, us, r, o, es, ep, k o ho, c⟩
theorem UV.at_ {kvs : List En} {us : List (List Key × Addr × Value)} (r : UV kvs us) (k : List Key) : RelO (atH kvs k) ((atKey us k).map (·.2)) := by
  unfold UV at r
  induction r with
  | nil => exact True.intro
  | @cons p q ps qs h t ih =>
    obtain ⟨h1, _, h2⟩ := h
    by_cases e : p.1 = k
    · have e' : q.1 = k := h1.symm.trans e
      have b : atKey (q :: qs) k = some q.2 := by simp [atKey, List.find?_cons, e']
      have c : atH (p :: ps) k = some p.2.2 := by simp [atH, List.find?_cons, e]
      rw [c, b]
      exact h2
    · have e' : ¬ q.1 = k := fun z => e (h1.trans z)
      have b : atKey (q :: qs) k = atKey qs k := by simp [atKey, List.find?_cons, e']
      have c : atH (p :: ps) k = atH ps k := by simp [atH, List.find?_cons, e]
      rw [c, b]
      exact ih
theorem UV.repl {kvs : List En} {us : List (List Key × Addr × Value)} (r : UV kvs us) (k : List Key) {y : V} {u : Value} (ry : RelV y u) :
    UV (kvs.map fun p => if p.1 = k then (p.1, p.2.1, y) else p) (us.map (putAt k u)) := by
  unfold UV at *
  induction r with
  | nil => exact .nil
  | @cons p q ps qs h t ih =>
    rw [List.map_cons, List.map_cons]
    refine .cons ?_ ih
    obtain ⟨h1, h2, h3⟩ := h
    unfold putAt
    by_cases e : p.1 = k
    · rw [if_pos e, if_pos (h1.symm.trans e)]
      exact ⟨h1, h2, ry⟩
    · rw [if_neg e, if_neg (fun z => e (h1.trans z))]
      exact ⟨h1, h2, h3⟩
theorem UV.put {kvs : List En} {us : List (List Key × Addr × Value)} (r : UV kvs us) (k : List Key) {b : Addr} {y : V} {u : Value} (ry : RelV y u) : UV (putH kvs k b y) (storedH us k b u) := by
  have e : (atH kvs k).isSome = (atKey us k).isSome := by rw [(r.at_ k).isSome_eq, Option.isSome_map]
  unfold putH storedH
  rw [e]
  by_cases q : (atKey us k).isSome = true
  · rw [if_pos q, if_pos q]
    exact r.repl k ry
  · rw [if_neg q, if_neg q]
    exact Paired.snoc r ⟨rfl, rfl, ry⟩
theorem len_putH (kvs : List En) (k : List Key) (b : Addr) (v : V) : (putH kvs k b v).length ≤ kvs.length + 1 := by
  unfold putH
  split
  · rw [List.length_map]
    omega
  · simp
theorem KeyAt.same {K : PySem.W.Frag} {H H' : Hp} {k : List Key} {b : Addr} (h : KeyAt K H k b) (s : ∀ a o, H a = some o → H' a = some o) : KeyAt K H' k b := seqT s h
section
variable {X : Cx} {pins : List (Addr × Obj)} {σ : L2.St} {H : Hp} {s : Shared} {a b : Addr} {kvs : List En} {k : List Key} {A : Around} {E : Value → Shared → Prop}
theorem key_is (I : Inv X pins σ H s) (h : KeyAt X.K H k b) : (FK X.prog X.w).is s.heap k b := by
  obtain ⟨its, rv, hT, _⟩ := I.tuple h
  obtain ⟨o, h1, h2, n, h3⟩ := hT
  exact ⟨o, its.toArray, n, h1, h2, h3, by simpa using items_are rv⟩
theorem dic_of (I : Inv X pins σ H s) (ha : H a = some (DicO X.prog X.w a kvs)) (hk : KeysAt X.K H kvs) : kvs.length ≤ sizeLine ∧ (a == sysModules) = false ∧ ∃ us, UV kvs us ∧ s.heap.DictOfH (FK X.prog X.w) a us := by
  obtain ⟨z, y, us, r, o, es, ep, h1, h2, h3, h4, h5⟩ := (I.hok a _ ha).1
  refine ⟨z, y, us, r, o, es, ep, h1, h2, h3, h4, fun x hx => ?_, h5⟩
  have all : ∀ {l : List En} {m : List (List Key × Addr × Value)}, UV l m → (∀ p ∈ l, KeyAt X.K H p.1 p.2.1) → ∀ x ∈ m, (FK X.prog X.w).is s.heap x.1 x.2.1 := by
    intro l m q hl
    unfold UV at q
    induction q with
    | nil => intro x hx; exact nomatch hx
    | @cons p q ps qs hq t ih =>
      intro x hx
      rcases List.mem_cons.mp hx with e | hx
      · subst e
        rw [← hq.1, ← hq.2.1]
        exact key_is I (hl p List.mem_cons_self)
      · exact ih (fun p hp => hl p (List.mem_cons_of_mem _ hp)) x hx
  exact all r hk x hx
/-- d[y] = v -/
theorem h_setItem {v : V} {r : Value} {Q : Unit → Shared → Prop} (hu : A.units + 1 < cLine) (I : Inv X pins σ H s) (ha : H a = some (DicO X.prog X.w a kvs)) (hk : KeysAt X.K H kvs) (hb : KeyAt X.K H k b) (few : kvs.length < sizeLine) (rv : RelV v r)
    (h : ∀ s', Inv X pins σ (upd H a (DicO X.prog X.w a (putH kvs k b v))) s' → Q () s') : wpAny (model X.prog X.w) A (setItem (.ref a) (.ref b) r) Q E s := by
  obtain ⟨z, hd, us, rel, dd⟩ := dic_of I ha hk
  have hz : us.length ≤ sizeLine := by rw [← Paired.length rel]; exact z
  have hl : (putH kvs k b v).length ≤ sizeLine := by have := len_putH kvs k b v; omega
  refine wpAny_setItem_heap (hsz := hz) (tupleKind_room_in1 hu) (key_is I hb) dd fun h' dd' hs => h _ ?_
  obtain ⟨q, es, ep, hq, h2, h3, h4, _, h5⟩ := dd'
  exact d_write I (by rw [ha]; exact True.intro) hs ⟨q, hq⟩ (dic_new ⟨hl, hd, _, rel.put k rv, q, es, ep, hq, h2, h3, h4, h5⟩)
theorem h_getItem {v : V} {Q : Value → Shared → Prop} (hu : A.units + 1 < cLine) (I : Inv X pins σ H s) (ha : H a = some (DicO X.prog X.w a kvs)) (hk : KeysAt X.K H kvs) (hb : KeyAt X.K H k b) (l : atH kvs k = some v)
    (h : ∀ w' s', Inv X pins σ H s' → RelV v w' → Q w' s') : wpAny (model X.prog X.w) A (getItem (.ref a) (.ref b)) Q E s := by
  obtain ⟨z, hd, us, rel, dd⟩ := dic_of I ha hk
  obtain ⟨w', hw, rw'⟩ := RelO.some_of (v := v) (o := (atKey us k).map (·.2)) (by rw [← l]; exact rel.at_ k)
  obtain ⟨p, hp, hp2⟩ := Option.map_eq_some_iff.mp hw
  refine wpAny_getItem_heap (tupleKind_room_in1 hu) (key_is I hb) dd hp ?_
  rw [hp2]
  exact h w' _ (I.tok _) rw'
theorem h_in {Q : Value → Shared → Prop} (hu : A.units + 1 < cLine) (I : Inv X pins σ H s) (ha : H a = some (DicO X.prog X.w a kvs)) (hk : KeysAt X.K H kvs) (hb : KeyAt X.K H k b) (h : ∀ s', Inv X pins σ H s' → Q (.bool (atH kvs k).isSome) s') :
    wpAny (model X.prog X.w) A (compareOp .In (.ref b) (.ref a)) Q E s := by
  obtain ⟨z, hd, us, rel, dd⟩ := dic_of I ha hk
  refine wpAny_in_heap (tupleKind_room_in1 hu) (key_is I hb) hd dd ?_
  have q := (rel.at_ k).isSome_eq
  rw [Option.isSome_map] at q
  rw [← q]
  exact h _ (I.tok _)
theorem h_notIn {Q : Value → Shared → Prop} (hu : A.units + 1 < cLine) (I : Inv X pins σ H s) (ha : H a = some (DicO X.prog X.w a kvs)) (hk : KeysAt X.K H kvs) (hb : KeyAt X.K H k b) (h : ∀ s', Inv X pins σ H s' → Q (.bool (!(atH kvs k).isSome)) s') :
    wpAny (model X.prog X.w) A (compareOp .NotIn (.ref b) (.ref a)) Q E s := by
  obtain ⟨z, hd, us, rel, dd⟩ := dic_of I ha hk
  refine wpAny_notIn_heap (tupleKind_room_in1 hu) (key_is I hb) hd dd ?_
  have q := (rel.at_ k).isSome_eq
  rw [Option.isSome_map] at q
  rw [← q]
  exact h _ (I.tok _)
end
/-! ### as rules -/
/-- {} -/
def tHNew (P : Program) (w : World) : TE := fun _ H Q => ∀ p, H p = none → Q (.ref p) (upd H p (DicO P w p []))
/-- d[y] = v -/
def sHPut (K : PySem.W.Frag) (P : Program) (w : World) (td ty tv : TE) : TS := fun D σ H => tv σ H fun v H1 => td σ H1 fun x H2 => ty σ H2 fun y H3 => ∃ a b kvs k, x = .ref a ∧ y = .ref b ∧ H3 a = some (DicO P w a kvs) ∧ KeysAt K H3 kvs ∧ KeyAt K H3 k b ∧ kvs.length < sizeLine ∧ D.nx σ (upd H3 a (DicO P w a (putH kvs k b v)))
/-- y in d, y not in d -/
def rHIn (K : PySem.W.Frag) (P : Program) (w : World) (neg : Bool) : R2 := fun y x H Q => ∃ a b kvs k, x = .ref a ∧ y = .ref b ∧ H a = some (DicO P w a kvs) ∧ KeysAt K H kvs ∧ KeyAt K H k b ∧ Q (.bl (if neg = true then !(atH kvs k).isSome else (atH kvs k).isSome)) H
section
variable {X : Cx} {o i e value : Expr} {pos pos' : Pos} {td ty tv : TE}
theorem pe_hnew : PE X (.Dict [] [] pos) (tHNew X.prog X.w) := ⟨fun pins s σ H Q I h =>
  wpAny_Dict_empty ⟨.ref s.heap.objs.size, _, I.laid (a := s.heap.objs.size) (o := DicO X.prog X.w s.heap.objs.size []) (t' := s.toks) (fun _ _ q => Heap.get?_push_of_some _ q) (Nat.le_refl _)
    (dic_new ⟨Nat.zero_le _, beq_eq_false_iff_ne.mpr (Ne.symm (Nat.ne_of_lt I.big)), [], .nil, _, #[], 0, Heap.get?_push_size _ rfl, ⟨rfl, rfl, rfl⟩, rfl, rfl, List.nodup_nil⟩), rfl, h _ (I.hok.fresh (Nat.le_refl _))⟩⟩
theorem ps_hput (hu : X.A.units + 1 < cLine) (ho : PE X o td) (hi : PE X i ty) (hv : PE X value tv) (hs : swapsWith value (some (.Subscript o i pos')) pos.line X.env = pure false) :
    PS X (.Assign [.Subscript o i pos'] value pos) (sHPut X.K X.prog X.w td ty tv) := by
  refine ⟨fun pins s σ H D I h => ?_⟩
  refine wpAny_Assign_Subscript (thn (hv.run pins s σ H _ I h) fun r s1 ⟨v, H1, I1, rv, q1⟩ => thn (ho.run pins s1 σ H1 _ I1 q1) fun u s2 ⟨x, H2, I2, rx, q2⟩ => thn (hi.run pins s2 σ H2 _ I2 q2) fun iv s3 ⟨y, H3, I3, ry, a, b, kvs, k, ex, ey, ha, hk, hb, few, q3⟩ => ?_) hs
  subst ex ey
  obtain rfl : u = Value.ref a := rx
  obtain rfl : iv = Value.ref b := ry
  exact h_setItem hu I3 ha hk hb few rv fun s4 I4 => ⟨σ, _, I4, q3⟩
theorem op_hin (hu : X.A.units + 1 < cLine) : OpR X (compareOp .In) (rHIn X.K X.prog X.w false) := by
  intro pins s σ H x y v u Q I rx ry h
  obtain ⟨a, b, kvs, k, rfl, rfl, ha, hk, hb, q⟩ := h
  cases rx
  cases ry
  exact h_in hu I ha hk hb fun s' I' => ⟨.bl (atH kvs k).isSome, H, I', rfl, q⟩
theorem op_hnotIn (hu : X.A.units + 1 < cLine) : OpR X (compareOp .NotIn) (rHIn X.K X.prog X.w true) := by
  intro pins s σ H x y v u Q I rx ry h
  obtain ⟨a, b, kvs, k, rfl, rfl, ha, hk, hb, q⟩ := h
  cases rx
  cases ry
  exact h_notIn hu I ha hk hb fun s' I' => ⟨.bl (!(atH kvs k).isSome), H, I', rfl, q⟩
end
/-! ### sorted -/
def rSortedH (K : PySem.W.Frag) (P : Program) (w : World) : List V → Hp → VK → Prop := fun vs H Q => ∃ (d : Addr) (kvs : List En), vs = [.ref d] ∧ H d = some (DicO P w d kvs) ∧ KeysAt K H kvs ∧ PySem.W.AllAlike (kvs.map fun kv => keyDt kv.1) ∧
  ∀ p, H p = none → Q (.ref p) (upd H p (.lst (sortV (kvs.map fun e => V.ref e.2.1) (kvs.map fun kv => keyDt kv.1))))
theorem uv_addrs {kvs : List En} {us : List (List Key × Addr × Value)} (r : UV kvs us) : us.map (fun x => x.2.1) = kvs.map fun e => e.2.1 := by
  unfold UV at r
  induction r with
  | nil => rfl
  | cons h t ih => rw [List.map_cons, List.map_cons, ih, h.2.1]
theorem dp_ens {K : PySem.W.Frag} {H : Hp} : ∀ {kvs : List En}, KeysAt K H kvs → DpAll K H (kvs.map fun e => V.ref e.2.1) (kvs.map fun kv => keyDt kv.1)
  | [], _ => .nil
  | p :: kvs, h => .cons (.tup (h p List.mem_cons_self) (dp_key _)) (dp_ens fun q hq => h q (List.mem_cons_of_mem _ hq))
section
variable {X : Cx}
theorem cr_sortedH (hc : X.calm = true) (hu : X.A.units + 64 < cLine) : CallR X (.builtin "sorted") (rSortedH X.K X.prog X.w) := by
  intro pins s σ H xs us Q I r h
  obtain ⟨d, kvs, rfl, hd, hka, hal, q⟩ := h
  obtain ⟨u, rfl, rx⟩ := r.one
  cases rx
  obtain ⟨z, hs, ks, pr, o, es, ep, ho, hx, hdt, he, hn⟩ := (I.hok d _ hd).1
  have l1 : es.size = ks.length := size_of_entries he
  have l2 : kvs.length = ks.length := Paired.length pr
  refine PySem.W.sorted_src (kdl_raw hs hx hdt) (I.ok.hd hc) ho (by omega) fun h' tk acc kp it => ?_
  have ea : acc.toList = ks.map fun x => Value.ref x.2.1 := by
    have hl : acc.toList.length = ks.length := by rw [Array.length_toList, it.1]; exact l1
    apply List.ext_getElem?
    intro j
    rw [List.getElem?_map]
    cases hj : acc.toList[j]? with
    | none =>
      have h1 := List.getElem?_eq_none_iff.mp hj
      rw [List.getElem?_eq_none (by omega)]
      all_goals rfl
    | some v =>
      obtain ⟨en, hen, hv⟩ := it.2 j v (by rw [← Array.getElem?_toList]; exact hj)
      have qe := entry_at he j
      rw [hen] at qe
      cases hb : ks[j]? with
      | none =>
        rw [hb] at qe
        exact nomatch (show some en = none from qe)
      | some b =>
        rw [hb] at qe
        have e2 : en = entryOfKey (FK X.prog X.w) b := Option.some.inj qe
        rw [hv, e2]
        all_goals rfl
  have eb : acc.toList = (ks.map fun x => x.2.1).map Value.ref := by rw [ea, List.map_map]; all_goals rfl
  have rv : Vals ((ks.map fun x => x.2.1).map V.ref) acc.toList := by rw [eb]; exact vals_refs _
  have ik : ks.map (fun x => x.2.1) = kvs.map fun e => e.2.1 := uv_addrs pr
  rw [ik] at eb rv
  generalize hbs : kvs.map (fun e => e.2.1) = bs at eb rv
  have hbs' : bs.map V.ref = kvs.map fun e => V.ref e.2.1 := by rw [← hbs, List.map_map]; rfl
  have hdp : DpAll X.K H (bs.map V.ref) (kvs.map fun kv => keyDt kv.1) := by rw [hbs']; exact dp_ens hka
  have len := dpAll_len hdp
  have em : ((bs.map V.ref).zip (kvs.map fun kv => keyDt kv.1)).map Prod.snd = kvs.map fun kv => keyDt kv.1 := zip_snd len
  have I1 : Inv X pins σ H { s with heap := h', toks := tk } := I.kept kp
  have e := each_pairs I1 rv hdp
  have hoL : (h'.push (seqObj "list" acc.toList.toArray 0)).get? h'.objs.size = some (seqObj "list" acc.toList.toArray 0) := Heap.get?_push_size _ rfl
  have old : ∀ b u, h'.get? b = some u → (PySem.W.sortingHeap (h'.push (seqObj "list" acc.toList.toArray 0)) h'.objs.size acc.toList).get? b = some u := fun b u hb =>
    PySem.W.sortingHeap_old (Nat.ne_of_lt (Heap.lt_size hb)) (Heap.get?_push_of_some _ hb)
  have er : PySem.W.EachIs (fun (v : Value) (b : V × PyData) => ∃ as, Reads (PySem.W.sortingHeap (h'.push (seqObj "list" acc.toList.toArray 0)) h'.objs.size acc.toList) v b.2 as) acc.toList ((bs.map V.ref).zip (kvs.map fun kv => keyDt kv.1)) :=
    e.mono fun v b h => by
      obtain ⟨as, rr⟩ := Dp.reads I1 b.2 b.1 v h.2 h.1
      exact ⟨as, PyProof.Rows.Reads.keeps old rr⟩
  refine ⟨((bs.map V.ref).zip (kvs.map fun kv => keyDt kv.1)).map Prod.snd, PySem.W.SortsAt.ok (PySem.W.each_map (R := fun v d => ∃ as, Reads (PySem.W.sortingHeap (h'.push (seqObj "list" acc.toList.toArray 0)) h'.objs.size acc.toList) v d as) Prod.snd er) (by rw [em]; exact hal) (.inl ?_) (PySem.W.bound_map ?_), ?_⟩
  · intro d hd
    rw [em] at hd
    obtain ⟨kv, _, rfl⟩ := List.mem_map.mp hd
    exact ⟨_, rfl⟩
  · intro b hb
    have hb := (List.of_mem_zip hb).2
    obtain ⟨kv, _, e⟩ := List.mem_map.mp hb
    have := depth_key kv.1
    rw [← e]
    show X.A.units + 1 + 1 + (keyDt kv.1).depth < cLine
    omega
  · have eo := PySem.W.sortVals_data false e er (by rw [em]; exact hal)
    obtain ⟨o1, o2⟩ := pairs_out eo
    obtain ⟨c, hcc⟩ := PyProof.Rows.sortedHeap_at (vs := acc.toList) (out := (PySem.W.sortVals (PySem.W.dataKind (PySem.W.sortingHeap (h'.push (seqObj "list" acc.toList.toArray 0)) h'.objs.size acc.toList) (((bs.map V.ref).zip (kvs.map fun kv => keyDt kv.1)).map Prod.snd)) false acc.toList acc.toList).toArray) hoL
    have ln : (sortV (bs.map V.ref) (kvs.map fun kv : En => keyDt kv.1)).length ≤ sizeLine := by
      unfold sortV
      rw [List.length_map, List.length_mergeSort, List.length_zip, len, Nat.min_self, List.length_map]
      omega
    have o1 : Vals (sortV (bs.map V.ref) (kvs.map fun kv : En => keyDt kv.1)) _ := o1
    refine ⟨.ref h'.objs.size, upd H h'.objs.size (.lst (sortV (bs.map V.ref) (kvs.map fun kv : En => keyDt kv.1))), I1.laid (t' := tk) (fun b u e => ?_) (Nat.le_refl _) ⟨ln, _, c, o1, hcc⟩, rfl, hbs' ▸ q _ (I1.hok.fresh (Nat.le_refl _))⟩
    have hlt := Heap.lt_size e
    rw [PyProof.Rows.sortedHeap_old (Nat.ne_of_lt hlt) (by rw [size_push']; exact Nat.lt_succ_of_lt hlt)]
    exact Heap.get?_push_of_some _ e
end
end Wb

set_option Elab.async false
set_option linter.all false
set_option maxRecDepth 100000
set_option maxHeartbeats 4000000
/-! Wd0: what may be shown, ints of some hundred figures among it. -/
namespace Wb
open PySem PySem.Spec PyProof.Rows L2
/-- what repr asks of data -/
def Shw (d : PyData) : Prop := d.showable = true ∧ d.hasDict = false ∧ d.depth ≤ 60 ∧ d.shown.length ≤ sizeLine
structure Tb (n W : Nat) (e : PyData) : Prop where
  shows : e.showable = true
  noDict : e.hasDict = false
  deep : e.depth ≤ n
  short : e.leavesShort 2000 = true
  light : e.bulk ≤ W
structure TbAll (n W : Nat) (es : List PyData) : Prop where
  shows : PyData.showableAll es = true
  noDict : PyData.hasDictAll es = false
  deep : PyData.depthAll es ≤ n
  short : PyData.leavesShortAll 2000 es = true
  light : PyData.bulkAll es ≤ W
theorem Tb.shw {n W : Nat} {e : PyData} (t : Tb n W e) (h : n ≤ 60 := by decide) (hw : W ≤ 8000 := by decide) : Shw e := by
  refine ⟨t.shows, t.noDict, Nat.le_trans t.deep h, ?_⟩
  have q := PyData.shown_le_bulk 2000 (by decide) e t.short
  have l := t.light
  rw [sizeLine_eq]
  omega
theorem Tb.more {n m W Z : Nat} {e : PyData} (t : Tb n W e) (h1 : n ≤ m) (h2 : W ≤ Z) : Tb m Z e :=
  ⟨t.shows, t.noDict, Nat.le_trans t.deep h1, t.short, Nat.le_trans t.light h2⟩
theorem TbAll.nil {n : Nat} : TbAll n 0 [] := ⟨by simp [PyData.showableAll], by simp [PyData.hasDictAll], by simp [PyData.depthAll], by simp [PyData.leavesShortAll], by simp [PyData.bulkAll]⟩
theorem TbAll.cons {n V W : Nat} {e : PyData} {es : List PyData} (t : Tb n V e) (h : TbAll n W es) : TbAll n (V + 1 + W) (e :: es) := by
  obtain ⟨a1, a2, a3, a4, a5⟩ := t
  obtain ⟨b1, b2, b3, b4, b5⟩ := h
  refine ⟨by simp [PyData.showableAll, a1, b1], by simp [PyData.hasDictAll, a2, b2], ?_, by simp [PyData.leavesShortAll, a4, b4], ?_⟩
  · simp only [PyData.depthAll]
    exact Nat.max_le.mpr ⟨a3, b3⟩
  · simp only [PyData.bulkAll]
    omega
theorem TbAll.of {n W : Nat} : ∀ {es : List PyData}, (∀ e ∈ es, Tb n W e) → TbAll n (es.length * (W + 1)) es
  | [], _ => by
    have := TbAll.nil (n := n)
    simpa using this
  | e :: es, h => by
    have a := TbAll.cons (h e List.mem_cons_self) (TbAll.of fun x hx => h x (List.mem_cons_of_mem _ hx))
    have q : (e :: es).length * (W + 1) = W + 1 + es.length * (W + 1) := by
      rw [List.length_cons, Nat.succ_mul]
      omega
    rw [q]
    exact a
theorem TbAll.more {n m W Z : Nat} {es : List PyData} (t : TbAll n W es) (h1 : n ≤ m) (h2 : W ≤ Z) : TbAll m Z es :=
  ⟨t.shows, t.noDict, Nat.le_trans t.deep h1, t.short, Nat.le_trans t.light h2⟩
theorem TbAll.list {n W : Nat} {es : List PyData} (h : TbAll n W es) : Tb (n + 1) W (.list es) := by
  obtain ⟨b1, b2, b3, b4, b5⟩ := h
  refine ⟨by simpa [PyData.showable] using b1, by simpa [PyData.hasDict] using b2, ?_, by simpa [PyData.leavesShort] using b4, by simpa [PyData.bulk] using b5⟩
  simp only [PyData.depth]
  omega
theorem TbAll.tuple {n W : Nat} {es : List PyData} (h : TbAll n W es) : Tb (n + 1) W (.tuple es) := by
  obtain ⟨b1, b2, b3, b4, b5⟩ := h
  refine ⟨by simpa [PyData.showable] using b1, by simpa [PyData.hasDict] using b2, ?_, by simpa [PyData.leavesShort] using b4, by simpa [PyData.bulk] using b5⟩
  simp only [PyData.depth]
  omega
theorem tb_none : Tb 0 0 .none := ⟨by decide +kernel, by decide +kernel, by decide +kernel, by decide +kernel, by decide +kernel⟩
theorem tb_bool (b : Bool) : Tb 0 0 (.bool b) := by cases b <;> exact ⟨by decide +kernel, by decide +kernel, by decide +kernel, by decide +kernel, by decide +kernel⟩
theorem tb_int {i : Int} (h : i.natAbs < 2 ^ 1900) : Tb 0 0 (.int i) := by
  have l : i.natAbs.log2 < 1900 := log_le h (by decide)
  refine ⟨?_, by simp [PyData.hasDict], by simp [PyData.depth], ?_, by simp [PyData.bulk]⟩
  · simp only [PyData.showable, decide_eq_true_eq]
    omega
  · simp only [PyData.leavesShort, decide_eq_true_eq]
    have := int_text_length_le (a := i) (by decide) l
    show (Str.ofString (toString i)).length ≤ 2000
    have e : (Str.ofString (toString i)).length = (toString i).length := by
      rw [Str.ofString_eq_toList]
      simp [Str.length]
      exact String.length_toList
    rw [e]
    omega
theorem tb_str {x : Str} {n : Nat} (h : ∀ a ∈ x.cps.toList, a < 16 ^ 8) (few : x.length ≤ n) : Tb 0 n (.str x) := by
  refine ⟨by simp [PyData.showable], by simp [PyData.hasDict], by simp [PyData.depth], ?_, ?_⟩
  · simp only [PyData.leavesShort, List.all_eq_true, decide_eq_true_eq]
    exact h
  · simp only [PyData.bulk]
    exact few
end Wb

set_option Elab.async false
set_option linter.all false
set_option maxRecDepth 100000
set_option maxHeartbeats 4000000
/-! Wv0: what an expression is worth, told apart from what may change: a base heap that only grows, values by relations. -/
namespace Wv
open PySem PySem.Spec PyProof.Rows L2 Wb

/-- a base within a heap, and both later: nothing hidden comes into the base -/
structure Ext (B H B' H' : Hp) : Prop where
  hh : Same H H'
  bb : Same B B'
  bh : Same B' H'
  nw : ∀ b, H b ≠ none → B b = none → B' b = none
theorem Ext.refl {B H : Hp} (s : Same B H) : Ext B H B H := ⟨Same.refl _, Same.refl _, s, fun _ _ h => h⟩
theorem Ext.trans {B H B1 H1 B2 H2 : Hp} (a : Ext B H B1 H1) (b : Ext B1 H1 B2 H2) : Ext B H B2 H2 :=
  ⟨a.hh.trans b.hh, a.bb.trans b.bb, b.bh, fun x h1 h2 => by
    refine b.nw x ?_ (a.nw x h1 h2)
    cases e : H x with
    | none => exact absurd e h1
    | some o =>
      rw [a.hh x o e]
      exact fun z => nomatch z⟩
/-- a new object, in the base too -/
theorem Ext.new {B H : Hp} {p : Addr} {o : HO} (s : Same B H) (h : H p = none) : Ext B H (upd B p o) (upd H p o) :=
  ⟨new_same h, new_same (s.free h), fun b u z => by
    by_cases e : b = p
    · subst e
      rw [upd_same] at *
      exact z
    · rw [upd_ne e] at *
      exact s b u z, fun b h1 h2 => by
    have e : b ≠ p := fun e => h1 (by rw [e]; exact h)
    rw [upd_ne e]
    exact h2⟩
/-- .. of the heap alone -/
theorem Ext.own {B H : Hp} {p : Addr} {o : HO} (s : Same B H) (h : H p = none) : Ext B H B (upd H p o) :=
  ⟨new_same h, Same.refl _, s.trans (new_same h), fun _ _ h => h⟩

/-! ### relations -/
abbrev Rel := Hp → V → Prop
class Mo (R : Rel) : Prop where
  mo : ∀ {B B' : Hp} {v : V}, Same B B' → R B v → R B' v
def dat (K : PySem.W.Frag) (d : PyData) : Rel := fun B v => Dp K B v d
instance {K : PySem.W.Frag} {d : PyData} : Mo (dat K d) := ⟨fun s h => dpMono s d _ h⟩
def AllR : List Rel → Hp → List V → Prop
  | [], _, vs => vs = []
  | R :: Rs, B, vs => ∃ v r, vs = v :: r ∧ R B v ∧ AllR Rs B r
class MoA (Rs : List Rel) : Prop where
  mo : ∀ {B B' : Hp} {vs : List V}, Same B B' → AllR Rs B vs → AllR Rs B' vs
instance : MoA [] := ⟨fun _ h => h⟩
instance {R : Rel} {Rs : List Rel} [m : Mo R] [t : MoA Rs] : MoA (R :: Rs) := ⟨fun s ⟨v, r, e, h, g⟩ => ⟨v, r, e, m.mo s h, t.mo s g⟩⟩
theorem moA_of {Rs : List Rel} (h : ∀ R ∈ Rs, Mo R) : MoA Rs := by
  induction Rs with
  | nil => exact inferInstance
  | cons R Rs ih =>
    have := h R List.mem_cons_self
    have := ih fun R hR => h R (List.mem_cons_of_mem _ hR)
    exact inferInstance
instance {K : PySem.W.Frag} {ds : List PyData} : MoA (ds.map (dat K)) := moA_of fun R h => by
  obtain ⟨d, _, rfl⟩ := List.mem_map.mp h
  exact inferInstance
theorem allR_dp {K : PySem.W.Frag} {B : Hp} : ∀ {ds : List PyData} {vs : List V}, AllR (ds.map (dat K)) B vs → DpAll K B vs ds
  | [], _, h => by
    have h : _ = [] := h
    subst h
    exact .nil
  | d :: ds, _, h => by
    obtain ⟨v, r, rfl, h1, h2⟩ := h
    exact .cons h1 (allR_dp h2)
theorem dp_allR {K : PySem.W.Frag} {B : Hp} : ∀ {ds : List PyData} {vs : List V}, DpAll K B vs ds → AllR (ds.map (dat K)) B vs
  | _, _, .nil => rfl
  | _, _, .cons h t => ⟨_, _, rfl, h, dp_allR t⟩
theorem allR_len {B : Hp} : ∀ {Rs : List Rel} {vs : List V}, AllR Rs B vs → vs.length = Rs.length
  | [], _, h => by
    have h : _ = [] := h
    subst h
    rfl
  | R :: Rs, _, h => by
    obtain ⟨v, r, rfl, _, h2⟩ := h
    simp [allR_len h2]
theorem allR_at {B : Hp} : ∀ {Rs : List Rel} {vs : List V} {i : Nat} {v : V}, AllR Rs B vs → vs[i]? = some v → ∃ R, Rs[i]? = some R ∧ R B v
  | [], _, _, _, h, z => by
    have h : _ = [] := h
    subst h
    cases z
  | R :: Rs, _, 0, _, h, z => by
    obtain ⟨v, r, rfl, h1, _⟩ := h
    cases z
    exact ⟨R, rfl, h1⟩
  | R :: Rs, _, i + 1, _, h, z => by
    obtain ⟨v, r, rfl, _, h2⟩ := h
    exact allR_at (i := i) h2 z
theorem allR_of {B : Hp} : ∀ {Rs : List Rel} {vs : List V} {i : Nat} {R : Rel}, AllR Rs B vs → Rs[i]? = some R → ∃ v, vs[i]? = some v ∧ R B v
  | R :: Rs, _, 0, _, h, z => by
    obtain ⟨v, r, rfl, h1, _⟩ := h
    cases z
    exact ⟨v, rfl, h1⟩
  | R :: Rs, _, i + 1, _, h, z => by
    obtain ⟨v, r, rfl, _, h2⟩ := h
    exact allR_of (i := i) h2 z
theorem allR_app {B : Hp} : ∀ {Rs Ss : List Rel} {vs ws : List V}, AllR Rs B vs → AllR Ss B ws → AllR (Rs ++ Ss) B (vs ++ ws)
  | [], _, _, _, h, g => by
    have h : _ = [] := h
    subst h
    exact g
  | R :: Rs, _, _, _, h, g => by
    obtain ⟨v, r, rfl, h1, h2⟩ := h
    exact ⟨v, r ++ _, rfl, h1, allR_app h2 g⟩
theorem allR_snoc {B : Hp} {R : Rel} {Rs : List Rel} {vs : List V} {v : V} (h : AllR Rs B vs) (g : R B v) : AllR (Rs ++ [R]) B (vs ++ [v]) := allR_app h ⟨v, [], rfl, g, rfl⟩
/-- a list, a tuple of such -/
def lstR (K : PySem.W.Frag) (Rs : List Rel) : Rel := fun B v => ∃ a xs, v = .ref a ∧ SqL K B a xs ∧ AllR Rs B xs
def tupR (K : PySem.W.Frag) (Rs : List Rel) : Rel := fun B v => ∃ a xs, v = .ref a ∧ SqT K B a xs ∧ AllR Rs B xs
instance {K : PySem.W.Frag} {Rs : List Rel} [m : MoA Rs] : Mo (lstR K Rs) := ⟨fun s ⟨a, xs, e, h, g⟩ => ⟨a, xs, e, s.seq h, m.mo s g⟩⟩
instance {K : PySem.W.Frag} {Rs : List Rel} [m : MoA Rs] : Mo (tupR K Rs) := ⟨fun s ⟨a, xs, e, h, g⟩ => ⟨a, xs, e, seqT s h, m.mo s g⟩⟩
theorem lstR_dat {K : PySem.W.Frag} {ds : List PyData} {B : Hp} {v : V} (h : lstR K (ds.map (dat K)) B v) : dat K (.list ds) B v := by
  obtain ⟨a, xs, rfl, h, g⟩ := h
  exact .lst h (allR_dp g)
theorem tupR_dat {K : PySem.W.Frag} {ds : List PyData} {B : Hp} {v : V} (h : tupR K (ds.map (dat K)) B v) : dat K (.tuple ds) B v := by
  obtain ⟨a, xs, rfl, h, g⟩ := h
  exact .tup h (allR_dp g)
theorem dat_lstR {K : PySem.W.Frag} {ds : List PyData} {B : Hp} {v : V} (h : dat K (.list ds) B v) : lstR K (ds.map (dat K)) B v := by
  cases h with
  | lst h1 h2 => exact ⟨_, _, rfl, h1, dp_allR h2⟩
theorem dat_tupR {K : PySem.W.Frag} {ds : List PyData} {B : Hp} {v : V} (h : dat K (.tuple ds) B v) : tupR K (ds.map (dat K)) B v := by
  cases h with
  | tup h1 h2 => exact ⟨_, _, rfl, h1, dp_allR h2⟩
theorem dat_int {K : PySem.W.Frag} {i : Int} {B : Hp} {v : V} (h : dat K (.int i) B v) : v = .int i := by cases h; rfl
theorem dat_str {K : PySem.W.Frag} {i : Str} {B : Hp} {v : V} (h : dat K (.str i) B v) : v = .str i := by cases h; rfl
theorem dat_bl {K : PySem.W.Frag} {i : Bool} {B : Hp} {v : V} (h : dat K (.bool i) B v) : v = .bl i := by cases h; rfl

/-! ### what evaluates to what -/
def De (te : TE) (σ : L2.St) (B : Hp) (R : Rel) : Prop := ∀ B1 H, Same B B1 → Same B1 H → ∀ Q : VK, (∀ v B' H', Ext B1 H B' H' → R B' v → Q v H') → te σ H Q
def Da (ta : TA) (σ : L2.St) (B : Hp) (Rs : List Rel) : Prop := ∀ B1 H, Same B B1 → Same B1 H → ∀ Q : List V → Hp → Prop, (∀ vs B' H', Ext B1 H B' H' → AllR Rs B' vs → Q vs H') → ta σ H Q
def Dt (tt : TT) (σ : L2.St) (B : Hp) (b : Bool) : Prop := ∀ B1 H, Same B B1 → Same B1 H → ∀ Q : Bool → Hp → Prop, (∀ B' H', Ext B1 H B' H' → Q b H') → tt σ H Q
def Do (to : TO) (σ : L2.St) (B : Hp) (o : Option Int) : Prop := ∀ B1 H, Same B B1 → Same B1 H → ∀ Q : Option Int → Hp → Prop, (∀ B' H', Ext B1 H B' H' → Q o H') → to σ H Q
/-- operations on values -/
def Rv (r : R2) (B : Hp) (R S T : Rel) : Prop := ∀ x y B1 H, Same B B1 → Same B1 H → R B1 x → S B1 y → ∀ Q : VK, (∀ v B' H', Ext B1 H B' H' → T B' v → Q v H') → r x y H Q
def Ru (r : V → Hp → VK → Prop) (B : Hp) (R T : Rel) : Prop := ∀ x B1 H, Same B B1 → Same B1 H → R B1 x → ∀ Q : VK, (∀ v B' H', Ext B1 H B' H' → T B' v → Q v H') → r x H Q
def Rc (r : List V → Hp → VK → Prop) (B : Hp) (Rs : List Rel) (T : Rel) : Prop := ∀ vs B1 H, Same B B1 → Same B1 H → AllR Rs B1 vs → ∀ Q : VK, (∀ v B' H', Ext B1 H B' H' → T B' v → Q v H') → r vs H Q

section
variable {K : PySem.W.Frag} {σ : L2.St} {B B' : Hp} {ta tb te : TE} {tt tu : TT} {R S T U : Rel} {Rs : List Rel} {x v : V}
theorem De.mono (s : Same B B') (h : De te σ B R) : De te σ B' R := fun B1 H s1 s2 => h B1 H (s.trans s1) s2
theorem Da.mono {ta : TA} (s : Same B B') (h : Da ta σ B Rs) : Da ta σ B' Rs := fun B1 H s1 s2 => h B1 H (s.trans s1) s2
theorem Dt.mono {b : Bool} (s : Same B B') (h : Dt tt σ B b) : Dt tt σ B' b := fun B1 H s1 s2 => h B1 H (s.trans s1) s2
theorem De.conv (h : De te σ B R) (f : ∀ B v, R B v → S B v) : De te σ B S := fun B1 H s1 s2 Q q => h B1 H s1 s2 Q fun v B2 H2 e hv => q v B2 H2 e (f _ _ hv)
theorem De.eq {d e : PyData} (h : De te σ B (dat K d)) (z : d = e) : De te σ B (dat K e) := z ▸ h
theorem Dt.eq {b c : Bool} (h : Dt tt σ B b) (z : b = c) : Dt tt σ B c := z ▸ h
theorem De.var {i : Nat} [m : Mo R] (hR : R B v) (h : σ[i]? = some (some v)) : De (tVar i) σ B R := fun B1 H s1 s2 Q q => ⟨v, h, q v B1 H (.refl s2) (m.mo s1 hR)⟩
theorem De.cst (h : ∀ B, R B v) : De (tC v) σ B R := fun B1 H _ s2 Q q => q v B1 H (.refl s2) (h _)
theorem De.int {n : Int} : De (tC (.int n)) σ B (dat K (.int n)) := .cst fun _ => .int n
theorem De.str {z : Str} : De (tC (.str z)) σ B (dat K (.str z)) := .cst fun _ => .str z
theorem De.bl {b : Bool} : De (tC (.bl b)) σ B (dat K (.bool b)) := .cst fun _ => .bl b
theorem De.non : De (tC .non) σ B (dat K .none) := .cst fun _ => .non
theorem Da.nil : Da tNil σ B [] := fun B1 H _ s2 Q q => q [] B1 H (.refl s2) rfl
theorem Da.cons {tr : TA} [m : Mo R] (h : De ta σ B R) (t : Da tr σ B Rs) : Da (tCons ta tr) σ B (R :: Rs) := fun B1 H s1 s2 Q q =>
  h B1 H s1 s2 _ fun v B2 H2 e hv => t B2 H2 (s1.trans e.bb) e.bh _ fun vs B3 H3 e2 hvs => q _ B3 H3 (e.trans e2) ⟨v, vs, rfl, m.mo e2.bb hv, hvs⟩
theorem De.lst {ta : TA} [m : MoA Rs] (h : Da ta σ B Rs) (hz : Rs.length ≤ sizeLine) : De (tLst ta) σ B (lstR K Rs) := fun B1 H s1 s2 Q q =>
  h B1 H s1 s2 _ fun vs B2 H2 e hvs => ⟨by rw [allR_len hvs]; exact hz, fun p hp => q _ (upd B2 p (.lst vs)) _ (e.trans (Ext.new e.bh hp)) ⟨p, vs, rfl, SqL.of upd_same, m.mo (new_same (e.bh.free hp)) hvs⟩⟩
theorem De.tup {ta : TA} [m : MoA Rs] (h : Da ta σ B Rs) (hz : Rs.length ≤ sizeLine) : De (tTup ta) σ B (tupR K Rs) := fun B1 H s1 s2 Q q =>
  h B1 H s1 s2 _ fun vs B2 H2 e hvs => ⟨by rw [allR_len hvs]; exact hz, fun p hp => q _ (upd B2 p (.tup vs)) _ (e.trans (Ext.new e.bh hp)) ⟨p, vs, rfl, SqT.of upd_same, m.mo (new_same (e.bh.free hp)) hvs⟩⟩
theorem De.op {r : R2} [m : Mo R] (ha : De ta σ B R) (hb : De tb σ B S) (hr : Rv r B R S T) : De (tOp r ta tb) σ B T := fun B1 H s1 s2 Q q =>
  ha B1 H s1 s2 _ fun x B2 H2 e hx => hb B2 H2 (s1.trans e.bb) e.bh _ fun y B3 H3 e2 hy => hr x y B3 H3 ((s1.trans e.bb).trans e2.bb) e2.bh (m.mo e2.bb hx) hy Q fun v B4 H4 e3 hv => q v B4 H4 ((e.trans e2).trans e3) hv
theorem De.un {r : V → Hp → VK → Prop} (ha : De ta σ B R) (hr : Ru r B R T) : De (tUn r ta) σ B T := fun B1 H s1 s2 Q q =>
  ha B1 H s1 s2 _ fun x B2 H2 e hx => hr x B2 H2 (s1.trans e.bb) e.bh hx Q fun v B4 H4 e3 hv => q v B4 H4 (e.trans e3) hv
theorem De.cb {r : List V → Hp → VK → Prop} {ta : TA} (ha : Da ta σ B Rs) (hr : Rc r B Rs T) : De (tCB r ta) σ B T := fun B1 H s1 s2 Q q =>
  ha B1 H s1 s2 _ fun x B2 H2 e hx => hr x B2 H2 (s1.trans e.bb) e.bh hx Q fun v B4 H4 e3 hv => q v B4 H4 (e.trans e3) hv
/-- what a def is worth, that changes nothing that was -/
def Pf {α : Type} (args : α → List Rel) (pre : α → Prop) (res : α → Rel) : Sp := fun vs H Q _ => ∃ (B : Hp) (a : α), Same B H ∧ AllR (args a) B vs ∧ pre a ∧ ∀ v B' H', Ext B H B' H' → res a B' v → Q v H'
theorem De.call {α : Type} {args : α → List Rel} {pre : α → Prop} {res : α → Rel} {E : XK} {ta : TA} (a : α) (ha : Da ta σ B (args a)) (hp : pre a) : De (tCall (Pf args pre res) [] E ta) σ B (res a) := fun B1 H s1 s2 Q q =>
  ha B1 H s1 s2 _ fun x B2 H2 e hx => by
    show Pf args pre res (x ++ []) H2 Q E
    rw [List.append_nil]
    exact ⟨B2, a, e.bh, hx, hp, fun v B4 H4 e3 hv => q v B4 H4 (e.trans e3) hv⟩
/-- .. by names: the values as they are written, the parameters' places among them -/
theorem De.callK {α : Type} {args : α → List Rel} {pre : α → Prop} {res : α → Rel} {E : XK} {tk : TA} {ix : List Nat} {n : Nat} (a : α) (ha : Da tk σ B Rs) (hn : Rs.length = n) (hx : ∀ B vs, AllR Rs B vs → AllR (args a) B (kwV ix vs)) (hp : pre a) : De (tCalK (Pf args pre res) ix n E tk) σ B (res a) := fun B1 H s1 s2 Q q =>
  ha B1 H s1 s2 _ fun x B2 H2 e hv => ⟨by rw [allR_len hv]; exact hn, B2, a, e.bh, hx _ _ hv, hp, fun v B4 H4 e3 hv => q v B4 H4 (e.trans e3) hv⟩
theorem Do.none : Do tNoPart σ B none := fun B1 H _ s2 Q q => q B1 H (.refl s2)
theorem Do.some {i : Int} (h : De te σ B (dat K (.int i))) : Do (tPart te) σ B (some i) := fun B1 H s1 s2 Q q =>
  h B1 H s1 s2 _ fun v B2 H2 e hv => ⟨i, dat_int hv, q B2 H2 e⟩
theorem De.sl {r : V → Option Int → Option Int → Hp → VK → Prop} {tl th : TO} {lo hi : Option Int} [m : Mo R] (h : De te σ B R) (h1 : Do tl σ B lo) (h2 : Do th σ B hi)
    (hr : ∀ x B1 H, Same B B1 → Same B1 H → R B1 x → ∀ Q : VK, (∀ v B' H', Ext B1 H B' H' → T B' v → Q v H') → r x lo hi H Q) : De (tSl r te tl th) σ B T := fun B1 H s1 s2 Q q =>
  h B1 H s1 s2 _ fun x B2 H2 e hx => h1 B2 H2 (s1.trans e.bb) e.bh _ fun B3 H3 e2 => h2 B3 H3 ((s1.trans e.bb).trans e2.bb) e2.bh _ fun B4 H4 e3 =>
    hr x B4 H4 (((s1.trans e.bb).trans e2.bb).trans e3.bb) e3.bh (m.mo (e2.bb.trans e3.bb) hx) Q fun v B5 H5 e4 hv => q v B5 H5 (((e.trans e2).trans e3).trans e4) hv

/-! ### tests, choices -/
theorem Dt.test {b : Bool} (h : De te σ B (dat K (.bool b))) : Dt (tTest te) σ B b := fun B1 H s1 s2 Q q => h B1 H s1 s2 _ fun v B2 H2 e hv => ⟨b, dat_bl hv, q B2 H2 e⟩
theorem Dt.tB {b : Bool} (h : De te σ B (dat K (.bool b))) : Dt (tB te) σ B b := fun B1 H s1 s2 Q q => h B1 H s1 s2 _ fun v B2 H2 e hv => ⟨b, dat_bl hv, q B2 H2 e⟩
theorem Dt.and {a b : Bool} (h1 : Dt tt σ B a) (h2 : a = true → Dt tu σ B b) : Dt (tAnd tt tu) σ B (a && b) := fun B1 H s1 s2 Q q => h1 B1 H s1 s2 _ fun B2 H2 e => by
  cases a with
  | true => exact h2 rfl B2 H2 (s1.trans e.bb) e.bh Q fun B3 H3 e3 => q B3 H3 (e.trans e3)
  | false => exact q B2 H2 e
theorem Dt.or {a b : Bool} (h1 : Dt tt σ B a) (h2 : a = false → Dt tu σ B b) : Dt (tOr tt tu) σ B (a || b) := fun B1 H s1 s2 Q q => h1 B1 H s1 s2 _ fun B2 H2 e => by
  cases a with
  | true => exact q B2 H2 e
  | false => exact h2 rfl B2 H2 (s1.trans e.bb) e.bh Q fun B3 H3 e3 => q B3 H3 (e.trans e3)
theorem Dt.not {a : Bool} (h1 : Dt tt σ B a) : Dt (tNot tt) σ B (!a) := fun B1 H s1 s2 Q q => h1 B1 H s1 s2 _ q
theorem Dt.yes : Dt tYes σ B true := fun B1 H _ s2 Q q => q B1 H (.refl s2)
theorem De.ite {b : Bool} (h : Dt tt σ B b) (h1 : b = true → De ta σ B R) (h2 : b = false → De tb σ B R) : De (tIf tt ta tb) σ B R := fun B1 H s1 s2 Q q => h B1 H s1 s2 _ fun B2 H2 e => by
  cases b with
  | true => exact h1 rfl B2 H2 (s1.trans e.bb) e.bh Q fun v B3 H3 e3 => q v B3 H3 (e.trans e3)
  | false => exact h2 rfl B2 H2 (s1.trans e.bb) e.bh Q fun v B3 H3 e3 => q v B3 H3 (e.trans e3)
theorem De.iteD {b : Bool} {d e : PyData} (h : Dt tt σ B b) (h1 : b = true → De ta σ B (dat K d)) (h2 : b = false → De tb σ B (dat K e)) : De (tIf tt ta tb) σ B (dat K (if b = true then d else e)) :=
  .ite h (fun z => by rw [if_pos z]; exact h1 z) (fun z => by rw [if_neg (by rw [z]; decide)]; exact h2 z)
theorem De.andV {a b : Bool} (h1 : De ta σ B (dat K (.bool a))) (h2 : a = true → De tb σ B (dat K (.bool b))) : De (tAndV ta tb) σ B (dat K (.bool (a && b))) := fun B1 H s1 s2 Q q => h1 B1 H s1 s2 _ fun v B2 H2 e hv => ⟨a, dat_bl hv, by
  cases a with
  | true => exact h2 rfl B2 H2 (s1.trans e.bb) e.bh Q fun v B3 H3 e3 => q v B3 H3 (e.trans e3)
  | false => exact q _ B2 H2 e (.bl false)⟩
theorem De.orV {a b : Bool} (h1 : De ta σ B (dat K (.bool a))) (h2 : a = false → De tb σ B (dat K (.bool b))) : De (tOrV ta tb) σ B (dat K (.bool (a || b))) := fun B1 H s1 s2 Q q => h1 B1 H s1 s2 _ fun v B2 H2 e hv => ⟨a, dat_bl hv, by
  cases a with
  | true => exact q _ B2 H2 e (.bl true)
  | false => exact h2 rfl B2 H2 (s1.trans e.bb) e.bh Q fun v B3 H3 e3 => q v B3 H3 (e.trans e3)⟩
theorem De.notV {a : Bool} (h1 : De ta σ B (dat K (.bool a))) : De (tNotV ta) σ B (dat K (.bool (!a))) := fun B1 H s1 s2 Q q => h1 B1 H s1 s2 _ fun v B2 H2 e hv => ⟨a, dat_bl hv, q _ B2 H2 e (.bl _)⟩

/-! ### operations -/
theorem Rv.I0 {f : Int → Int → Int} {i j : Int} : Rv (rI0 fun i j => V.int (f i j)) B (dat K (.int i)) (dat K (.int j)) (dat K (.int (f i j))) := fun x y B1 H _ s2 hx hy Q q =>
  ⟨i, j, dat_int hx, dat_int hy, q _ B1 H (.refl s2) (.int _)⟩
theorem Rv.I0b {f : Int → Int → Bool} {i j : Int} : Rv (rI0 fun i j => V.bl (f i j)) B (dat K (.int i)) (dat K (.int j)) (dat K (.bool (f i j))) := fun x y B1 H _ s2 hx hy Q q =>
  ⟨i, j, dat_int hx, dat_int hy, q _ B1 H (.refl s2) (.bl _)⟩
theorem Rv.I {C : Int → Int → Prop} {f : Int → Int → Int} {i j : Int} (hc : C i j) : Rv (rI C fun i j => V.int (f i j)) B (dat K (.int i)) (dat K (.int j)) (dat K (.int (f i j))) := fun x y B1 H _ s2 hx hy Q q =>
  ⟨i, j, dat_int hx, dat_int hy, hc, q _ B1 H (.refl s2) (.int _)⟩
theorem Rv.addS {x y : Str} (hz : x.length + y.length ≤ sizeLine) : Rv (fun x y H Q => ∃ i j, x = .str i ∧ y = .str j ∧ i.length + j.length ≤ sizeLine ∧ Q (.str (i ++ j)) H) B (dat K (.str x)) (dat K (.str y)) (dat K (.str (x ++ y))) := fun _ _ B1 H _ s2 hx hy Q q =>
  ⟨x, y, dat_str hx, dat_str hy, hz, q _ B1 H (.refl s2) (.str _)⟩
theorem Rv.eqD {d e : PyData} (hd : SeqAt.shaped d = true) (he : SeqAt.shaped e = true) : Rv (rEqD K) B (dat K d) (dat K e) (dat K (.bool (PyData.eqv d e))) := fun x y B1 H _ s2 hx hy Q q =>
  ⟨d, e, dpMono s2 _ _ hx, dpMono s2 _ _ hy, hd, he, q _ B1 H (.refl s2) (.bl _)⟩
theorem Rv.neD {d e : PyData} (hd : SeqAt.shaped d = true) (he : SeqAt.shaped e = true) : Rv (rNeD K) B (dat K d) (dat K e) (dat K (.bool (!PyData.eqv d e))) := fun x y B1 H _ s2 hx hy Q q =>
  ⟨d, e, dpMono s2 _ _ hx, dpMono s2 _ _ hy, hd, he, q _ B1 H (.refl s2) (.bl _)⟩
theorem Rv.inL {d : PyData} {ds : List PyData} (hd : SeqAt.shaped d = true) (he : SeqAt.shaped (.list ds) = true) : Rv (rInD K) B (dat K d) (dat K (.list ds)) (dat K (.bool (ds.any fun z => PyData.eqv z d))) := fun x y B1 H _ s2 hx hy Q q =>
  ⟨d, ds, dpMono s2 _ _ hx, dpMono s2 _ _ hy, hd, he, q _ B1 H (.refl s2) (.bl _)⟩
theorem Rv.notInL {d : PyData} {ds : List PyData} (hd : SeqAt.shaped d = true) (he : SeqAt.shaped (.list ds) = true) : Rv (rNotInD K) B (dat K d) (dat K (.list ds)) (dat K (.bool (!ds.any fun z => PyData.eqv z d))) := fun x y B1 H _ s2 hx hy Q q =>
  ⟨d, ds, dpMono s2 _ _ hx, dpMono s2 _ _ hy, hd, he, q _ B1 H (.refl s2) (.bl _)⟩
theorem allR_atI {xs : List V} {i : Int} (h : AllR Rs B xs) (z : atI Rs i = some R) : ∃ v, atI xs i = some v ∧ R B v := by
  unfold atI at *
  rw [allR_len h]
  cases e : ixN Rs.length i with
  | none =>
    rw [e] at z
    cases z
  | some j =>
    rw [e] at z
    exact allR_of h z
theorem Rv.ixL {i : Int} (z : atI Rs i = some R) : Rv (rIxL K) B (lstR K Rs) (dat K (.int i)) R := fun x y B1 H _ s2 hx hy Q q => by
  obtain ⟨a, xs, rfl, h, g⟩ := hx
  obtain ⟨v, hv, hR⟩ := allR_atI g z
  exact ⟨a, xs, i, v, rfl, dat_int hy, s2.seq h, hv, q v B1 H (.refl s2) hR⟩
theorem Rv.ixT {i : Int} (z : atI Rs i = some R) : Rv (rIxT K) B (tupR K Rs) (dat K (.int i)) R := fun x y B1 H _ s2 hx hy Q q => by
  obtain ⟨a, xs, rfl, h, g⟩ := hx
  obtain ⟨v, hv, hR⟩ := allR_atI g z
  exact ⟨a, xs, i, v, rfl, dat_int hy, seqT s2 h, hv, q v B1 H (.refl s2) hR⟩
theorem atI_map {α β : Type} (f : α → β) {xs : List α} {i : Int} {x : α} (h : atI xs i = some x) : atI (xs.map f) i = some (f x) := by
  unfold atI at *
  rw [List.length_map]
  cases e : ixN xs.length i with
  | none =>
    rw [e] at h
    cases h
  | some j =>
    rw [e] at h
    have h : xs[j]? = some x := h
    show (xs.map f)[j]? = some (f x)
    rw [List.getElem?_map, h]
    rfl
theorem Rv.ixLD {ds : List PyData} {d : PyData} {i : Int} (z : atI ds i = some d) : Rv (rIxL K) B (dat K (.list ds)) (dat K (.int i)) (dat K d) := fun x y B1 H s1 s2 hx hy => Rv.ixL (K := K) (atI_map (dat K) z) x y B1 H s1 s2 (dat_lstR hx) hy
theorem Rv.ixTD {ds : List PyData} {d : PyData} {i : Int} (z : atI ds i = some d) : Rv (rIxT K) B (dat K (.tuple ds)) (dat K (.int i)) (dat K d) := fun x y B1 H s1 s2 hx hy => Rv.ixT (K := K) (atI_map (dat K) z) x y B1 H s1 s2 (dat_tupR hx) hy
/-- tuple + tuple -/
theorem Rv.catT {xs ys : List PyData} (hz : xs.length + ys.length ≤ sizeLine) : Rv (rCatA K) B (dat K (.tuple xs)) (dat K (.tuple ys)) (dat K (.tuple (xs ++ ys))) := fun x y B1 H _ s2 hx hy Q q => by
  have hx' := hx
  have hy' := hy
  obtain ⟨a, us, rfl, h, g⟩ := dat_tupR hx
  obtain ⟨b, ws, rfl, h', g'⟩ := dat_tupR hy
  have l1 := allR_len g
  have l2 := allR_len g'
  rw [List.length_map] at l1 l2
  refine ⟨a, b, us, ws, rfl, rfl, seqT s2 h, seqT s2 h', by omega, fun e => ?_, fun _ e => ?_, fun _ _ p hp => ?_⟩
  · have : xs = [] := List.eq_nil_of_length_eq_zero (by rw [← l1, e]; rfl)
    subst this
    exact q _ B1 H (.refl s2) hy'
  · have : ys = [] := List.eq_nil_of_length_eq_zero (by rw [← l2, e]; rfl)
    subst this
    rw [List.append_nil] at q
    exact q _ B1 H (.refl s2) hx'
  · refine q _ (upd B1 p (.tup (us ++ ws))) _ (Ext.new s2 hp) ?_
    have s := new_same (o := .tup (us ++ ws)) (s2.free hp)
    exact .tup (SqT.of upd_same) (dpMonoAll s _ _ (allR_dp (by rw [List.map_append]; exact allR_app g g')))
end
end Wv

set_option Elab.async false
set_option linter.all false
set_option maxRecDepth 100000
set_option maxHeartbeats 4000000
/-! Wv1: what is walked, loops, comprehensions, built-in functions, objects that never change. -/
namespace Wv
open PySem PySem.Spec PyProof.Rows L2 Wb

/-! ### more rules of the language -/
section
variable {X : Cx}
/-- list + list -/
def rCatS (K : PySem.W.Frag) : R2 := fun x y H Q => ∃ l b xs zs, x = .ref l ∧ y = .ref b ∧ SqL K H l xs ∧ SqL K H b zs ∧ xs.length + zs.length ≤ sizeLine ∧ ∀ p, H p = none → Q (.ref p) (upd H p (.lst (xs ++ zs)))
theorem op_catS : OpR X (binaryOp .Add) (rCatS X.K) := by
  intro pins s σ H x y v u Q I rx ry h
  obtain ⟨l, b, xs, zs, rfl, rfl, hl, hb, hz, q⟩ := h
  cases rx
  cases ry
  obtain ⟨its, r, ⟨⟨c1, d1, t1, sl1⟩, n, e, hc, hd, ht⟩, z1⟩ := I.list hl
  obtain ⟨its2, r2, ⟨⟨c2, d2, t2, sl2⟩, n2, e2, hc2, hd2, ht2⟩, z2⟩ := I.list hb
  simp only at hc hd ht hc2 hd2 ht2
  subst hc hd ht hc2 hd2 ht2
  have hlen := r.length
  have hlen2 := r2.length
  refine concat_meets ⟨_, e, rfl⟩ ⟨_, e2, rfl⟩ noFill_list_add seq_list_add PySem.F.slot_list_add PySem.F.entry_list_add (PySem.F.args_list_add_2 _ _) (list_addW l b its.toArray its2.toArray n n2 none none sl1 sl2 (by rw [List.size_toArray, List.size_toArray]; omega)) ⟨e, e2, ?_⟩
  have ea : its.toArray ++ its2.toArray = (its ++ its2).toArray := by simp
  rw [ea]
  exact ⟨.ref _, _, I.lnew (t' := s.toks) (r.append r2) (by rw [List.length_append]; omega), rfl, q _ I.fresh⟩
/-- x in t, a tuple of data -/
def rInT (K : PySem.W.Frag) (neg : Bool) : R2 := fun x y H Q => ∃ d ds, Dp K H x d ∧ Dp K H y (.tuple ds) ∧ SeqAt.shaped d = true ∧ SeqAt.shaped (.tuple ds) = true ∧ Q (.bl (if neg = true then !ds.any fun z => PyData.eqv z d else ds.any fun z => PyData.eqv z d)) H
theorem room_in_shaped' {ds : List PyData} {d : PyData} {u : Nat} (sd : SeqAt.shaped d = true) (hu : u + 65 < cLine) : u + 1 + min (PyData.depthAll ds) d.depth < cLine := by
  have h : d.depth ≤ 64 := by
    unfold SeqAt.shaped at sd
    rw [Bool.and_eq_true] at sd
    exact of_decide_eq_true sd.2
  omega
theorem canLay_tup {ds : List PyData} (h : SeqAt.shaped (.tuple ds) = true) : PyData.canLayAll0 ds = true := by
  unfold SeqAt.shaped at h
  rw [Bool.and_eq_true] at h
  simpa only [PyData.canLay0] using h.1
theorem op_inT (hu : X.A.units + 65 < cLine) : OpR X (compareOp .In) (rInT X.K false) := by
  intro pins s σ H x y v u Q I rx ry h
  obtain ⟨d, ds, hd, he, sd, se, q⟩ := h
  obtain ⟨as, r1⟩ := Dp.reads I d x v hd rx
  obtain ⟨bs, r2⟩ := Dp.reads I (.tuple ds) y u he ry
  exact SeqAt.in_tuple_reads r2 r1 (canLay_tup se) (SeqAt.canLay_of_shaped sd) (room_in_shaped' sd hu) ⟨.bl _, H, I, rfl, q⟩
theorem op_notInT (hu : X.A.units + 65 < cLine) : OpR X (compareOp .NotIn) (rInT X.K true) := by
  intro pins s σ H x y v u Q I rx ry h
  obtain ⟨d, ds, hd, he, sd, se, q⟩ := h
  obtain ⟨as, r1⟩ := Dp.reads I d x v hd rx
  obtain ⟨bs, r2⟩ := Dp.reads I (.tuple ds) y u he ry
  exact SeqAt.notIn_tuple_reads r2 r1 (canLay_tup se) (SeqAt.canLay_of_shaped sd) (room_in_shaped' sd hu) ⟨.bl _, H, I, rfl, q⟩
theorem fold_rep (b : Array Nat) : ∀ (k : Nat) (a : Array Nat), (List.foldl (· ++ ·) a (List.replicate k b)).toList = a.toList ++ (List.replicate k b.toList).flatten
  | 0, a => by simp
  | k + 1, a => by
    rw [List.replicate_succ, List.foldl_cons, fold_rep b k (a ++ b), List.replicate_succ, List.flatten_cons, Array.toList_append, List.append_assoc]
/-- a text some times -/
def mulS (z : Str) (n : Nat) : Str := ⟨((List.replicate n z.cps.toList).flatten).toArray⟩
theorem mulS_eq (z : Str) (n : Nat) : (⟨List.foldl (· ++ ·) #[] (List.replicate n z.cps)⟩ : Str) = mulS z n := by
  unfold mulS
  congr 1
  apply Array.toList_inj.mp
  rw [fold_rep]
  simp
theorem mulS_len (z : Str) (n : Nat) : (mulS z n).length = n * z.length := by
  unfold mulS Str.length
  simp
def rMulS : R2 := fun x y H Q => ∃ (z : Str) (n : Int), x = .str z ∧ y = .int n ∧ 2 ≤ n ∧ n ≤ 1000 ∧ 0 < z.length ∧ z.length ≤ 1000 ∧ Q (.str (mulS z n.toNat)) H
theorem op_mulS : OpR X (binaryOp .Mult) rMulS := by
  intro pins s σ H x y v u Q I rx ry h
  obtain ⟨z, n, rfl, rfl, n2, n3, z0, z1, q⟩ := h
  obtain ⟨t, rfl⟩ := rx
  obtain ⟨t', rfl⟩ := ry
  have h1 : ¬ n < 1 := by omega
  have h2 : (n == 1 || z.length == 0) = false := by
    simp only [Bool.or_eq_false_iff, beq_eq_false_iff_ne]
    constructor <;> omega
  have len : z.length * n.toNat ≤ 1000 * 1000 := Nat.mul_le_mul z1 (by omega)
  refine PySem.P.mul_str (by simp only [Bool.or_eq_false_iff, decide_eq_false_iff_not]; constructor <;> omega) (fun _ _ => ?_) (fun _ _ => ?_) ?_
  · have : (2 ^ 63 - 1 : Int) / n ≥ 1000 := by
      refine (Int.le_ediv_iff_mul_le (by omega)).mpr ?_
      have : (1000 : Int) * n ≤ 1000 * 1000 := by omega
      omega
    omega
  · have : sizeLine = 16777216 := sizeLine_eq
    have : ¬ z.length * n.toNat > sizeLine := by omega
    exact decide_eq_false this
  · rw [if_neg h1, h2, if_neg (by decide)]
    rw [mulS_eq]
    refine ⟨?_, ⟨.str _, H, I.tok _, ⟨_, rfl⟩, q⟩⟩
    rw [mulS_len, sizeLine_eq, Nat.mul_comm]
    omega
end

/-! ### what is walked -/
section
variable {K : PySem.W.Frag} {σ : L2.St} {B B' : Hp} {ta tb te tl : TE} {tt tu : TT} {R S T U : Rel} {Rs : List Rel} {x v : V}
/-- an iterator that gives such items, while a base stands -/
def Wk (J : It) (B1 : Hp) (Rs : List Rel) : Prop := Walk J Rs.length (fun H => Same B1 H) (fun i H x H' => ∃ R, Rs[i]? = some R ∧ ∀ Bc, Same B1 Bc → Same Bc H → ∃ Bn, Ext Bc H Bn H' ∧ R Bn x)
def Di (wi : TI) (σ : L2.St) (B : Hp) (Rs : List Rel) : Prop := ∀ B1 H, Same B B1 → Same B1 H → ∀ Q : It → Hp → Prop, (∀ J B' H', Ext B1 H B' H' → Wk J B' Rs → Q J H') → wi σ H Q
theorem Di.mono {wi : TI} (s : Same B B') (h : Di wi σ B Rs) : Di wi σ B' Rs := fun B1 H s1 s2 => h B1 H (s.trans s1) s2
theorem Di.list [m : MoA Rs] (h : De tl σ B (lstR K Rs)) : Di (iList K tl) σ B Rs := fun B1 H s1 s2 Q q => h B1 H s1 s2 _ fun v B2 H2 e hv => by
  obtain ⟨a, xs, rfl, hs, hR⟩ := hv
  refine ⟨a, rfl, ⟨xs, e.bh.seq hs⟩, q _ B2 H2 e ?_⟩
  have len := allR_len hR
  unfold Wk
  rw [← len]
  refine (walk_list (K := K) (a := a) (xs := xs)).mono (fun H' s => s.seq hs) fun i H' x H'' hi s y => ?_
  obtain ⟨rfl, hx⟩ := y
  obtain ⟨R, hR1, hR2⟩ := allR_at hR hx
  exact ⟨R, hR1, fun Bc sc sh => ⟨Bc, .refl sh, by
    obtain ⟨v', hv', hR3⟩ := allR_of (m.mo sc hR) hR1
    rw [hx] at hv'
    cases hv'
    exact hR3⟩⟩
theorem Di.tup [m : MoA Rs] (h : De tl σ B (tupR K Rs)) : Di (iTup K tl) σ B Rs := fun B1 H s1 s2 Q q => h B1 H s1 s2 _ fun v B2 H2 e hv => by
  obtain ⟨a, xs, rfl, hs, hR⟩ := hv
  refine ⟨a, rfl, ⟨xs, seqT e.bh hs⟩, q _ B2 H2 e ?_⟩
  have len := allR_len hR
  unfold Wk
  rw [← len]
  refine (walk_tup (K := K) (a := a) (xs := xs)).mono (fun H' s => seqT s hs) fun i H' x H'' hi s y => ?_
  obtain ⟨rfl, hx⟩ := y
  obtain ⟨R, hR1, hR2⟩ := allR_at hR hx
  exact ⟨R, hR1, fun Bc sc sh => ⟨Bc, .refl sh, by
    obtain ⟨v', hv', hR3⟩ := allR_of (m.mo sc hR) hR1
    rw [hx] at hv'
    cases hv'
    exact hR3⟩⟩
theorem Di.listD {ds : List PyData} (h : De tl σ B (dat K (.list ds))) : Di (iList K tl) σ B (ds.map (dat K)) := .list (h.conv fun _ _ => dat_lstR)
theorem Di.tupD {ds : List PyData} (h : De tl σ B (dat K (.tuple ds))) : Di (iTup K tl) σ B (ds.map (dat K)) := .tup (h.conv fun _ _ => dat_tupR)
def intsR (K : PySem.W.Frag) (lo : Int) (n : Nat) : List Rel := (List.range n).map fun i : Nat => dat K (.int (lo + (i : Int)))
theorem wk_ints {lo : Int} {n : Nat} : Wk (Itr lo n) B (intsR K lo n) := by
  unfold Wk intsR
  rw [List.length_map, List.length_range]
  refine (walk_range (lo := lo) (n := n)).mono (fun _ _ => trivial) fun i H' x H'' hi s y => ?_
  obtain ⟨rfl, rfl⟩ := y
  refine ⟨dat K (.int (lo + (i : Int))), by rw [List.getElem?_map, List.getElem?_range hi]; rfl, fun Bc sc sh => ⟨Bc, .refl sh, Dp.int _⟩⟩
theorem Di.rng1 {ta : TA} {n : Int} (h : Da ta σ B [dat K (.int n)]) (h0 : -(2 ^ 62) ≤ n) (h1 : n < 2 ^ 62) : Di (iRng1 ta) σ B (intsR K 0 n.toNat) := fun B1 H s1 s2 Q q => h B1 H s1 s2 _ fun vs B2 H2 e hv => by
  obtain ⟨v, r, rfl, h2, h3⟩ := hv
  have h3 : r = [] := h3
  subst h3
  have h2 := dat_int h2
  subst h2
  exact ⟨n, rfl, h0, h1, q _ B2 H2 e wk_ints⟩
theorem Di.rng2 {ta : TA} {lo n : Int} (h : Da ta σ B [dat K (.int lo), dat K (.int n)]) (h0 : -(2 ^ 62) ≤ lo ∧ lo < 2 ^ 62 ∧ -(2 ^ 62) ≤ n ∧ n < 2 ^ 62) : Di (iRng2 ta) σ B (intsR K lo (n - lo).toNat) := fun B1 H s1 s2 Q q => h B1 H s1 s2 _ fun vs B2 H2 e hv => by
  obtain ⟨v, r, rfl, h2, v', r', rfl, h4, h5⟩ := hv
  have h5 : r' = [] := h5
  subst h5
  have h2 := dat_int h2
  subst h2
  have h4 := dat_int h4
  subst h4
  exact ⟨lo, n, rfl, h0, q _ B2 H2 e wk_ints⟩
theorem Di.str {z : Str} (h : De tl σ B (dat K (.str z))) : Di (iStr tl) σ B (z.cps.toList.map fun c => dat K (.str ⟨#[c]⟩)) := fun B1 H s1 s2 Q q => h B1 H s1 s2 _ fun v B2 H2 e hv => by
  have hv := dat_str hv
  subst hv
  refine ⟨z, rfl, q _ B2 H2 e ?_⟩
  unfold Wk
  have len : (z.cps.toList.map fun c => dat K (.str ⟨#[c]⟩)).length = z.cps.size := by simp
  rw [len]
  refine (walk_str (z := z)).mono (fun _ _ => trivial) fun i H' x H'' hi s y => ?_
  obtain ⟨rfl, c, hc, rfl⟩ := y
  refine ⟨dat K (.str ⟨#[c]⟩), ?_, fun Bc sc sh => ⟨Bc, .refl sh, Dp.str _⟩⟩
  rw [List.getElem?_map, Array.getElem?_toList, hc]
  rfl
/-- a new pair -/
theorem pair_new {R S : Rel} [m1 : Mo R] [m2 : Mo S] {Bc H : Hp} {p : Addr} {x y : V} (sh : Same Bc H) (hp : H p = none) (hx : R Bc x) (hy : S Bc y) : ∃ Bn, Ext Bc H Bn (upd H p (.tup [x, y])) ∧ tupR K [R, S] Bn (.ref p) :=
  ⟨upd Bc p (.tup [x, y]), .new sh hp, p, _, rfl, SqT.of upd_same, x, [y], rfl, m1.mo (new_same (sh.free hp)) hx, y, [], rfl, m2.mo (new_same (sh.free hp)) hy, rfl⟩
theorem Di.zip {ta : TA} {Ss : List Rel} [m : MoA Rs] [m' : MoA Ss] (hm : ∀ R ∈ Rs, Mo R) (hm' : ∀ R ∈ Ss, Mo R) (h : Da ta σ B [lstR K Rs, lstR K Ss]) : Di (iZip K ta) σ B ((Rs.zip Ss).map fun p => tupR K [p.1, p.2]) := fun B1 H s1 s2 Q q => h B1 H s1 s2 _ fun vs B2 H2 e hv => by
  obtain ⟨v, r, rfl, ⟨a, xs, rfl, hs, hR⟩, v', r', rfl, ⟨b, ys, rfl, hs', hR'⟩, h5⟩ := hv
  have h5 : r' = [] := h5
  subst h5
  refine ⟨a, b, xs, ys, rfl, e.bh.seq hs, e.bh.seq hs', q _ B2 H2 e ?_⟩
  have len := allR_len hR
  have len' := allR_len hR'
  unfold Wk
  rw [List.length_map]
  refine (walk_zip (K := K) (a := a) (b := b) (xs := xs) (ys := ys) (n := (Rs.zip Ss).length) (by rw [List.length_zip, len, len'])).mono (fun H' s => ⟨s.seq hs, s.seq hs'⟩) fun i H' x H'' hi s y => ?_
  obtain ⟨p, u, w, rfl, hp, rfl, hu, hw⟩ := y
  have hu : xs[i]? = some u := hu
  have hw : ys[i]? = some w := hw
  obtain ⟨R, hR1, _⟩ := allR_at hR hu
  obtain ⟨S, hS1, _⟩ := allR_at hR' hw
  refine ⟨tupR K [R, S], ?_, fun Bc sc sh => ?_⟩
  · rw [List.getElem?_map, List.getElem?_zip_eq_some (z := (R, S)) |>.mpr ⟨hR1, hS1⟩]
    rfl
  · have := hm R (List.mem_of_getElem? hR1)
    have := hm' S (List.mem_of_getElem? hS1)
    obtain ⟨v1, hv1, q1⟩ := allR_of (m.mo sc hR) hR1
    obtain ⟨v2, hv2, q2⟩ := allR_of (m'.mo sc hR') hS1
    rw [hu] at hv1
    rw [hw] at hv2
    cases hv1
    cases hv2
    exact pair_new sh hp q1 q2
theorem Di.enum {ta : TA} [m : MoA Rs] (hm : ∀ R ∈ Rs, Mo R) (h : Da ta σ B [lstR K Rs]) : Di (iEnum K ta) σ B (Rs.zipIdx.map fun p => tupR K [dat K (.int (p.2 : Int)), p.1]) := fun B1 H s1 s2 Q q => h B1 H s1 s2 _ fun vs B2 H2 e hv => by
  obtain ⟨v, r, rfl, ⟨a, xs, rfl, hs, hR⟩, h5⟩ := hv
  have h5 : r = [] := h5
  subst h5
  refine ⟨a, xs, rfl, e.bh.seq hs, q _ B2 H2 e ?_⟩
  have len := allR_len hR
  unfold Wk
  rw [List.length_map, List.length_zipIdx, ← len]
  refine (walk_enum (K := K) (a := a) (xs := xs)).mono (fun H' s => s.seq hs) fun i H' x H'' hi s y => ?_
  obtain ⟨p, u, w, rfl, hp, rfl, hu, hw⟩ := y
  cases hu
  have hw : xs[i]? = some w := hw
  obtain ⟨R, hR1, _⟩ := allR_at hR hw
  refine ⟨tupR K [dat K (.int (i : Int)), R], ?_, fun Bc sc sh => ?_⟩
  · rw [List.getElem?_map, List.getElem?_zipIdx, hR1]
    simp
  · have := hm R (List.mem_of_getElem? hR1)
    obtain ⟨v1, hv1, q1⟩ := allR_of (m.mo sc hR) hR1
    rw [hw] at hv1
    cases hv1
    exact pair_new sh hp (Dp.int _) q1

/-! ### loops -/
/-- what is wanted behind a turn -/
def Nx (B1 : Hp) (P : L2.St → Hp → Hp → Prop) : L2.St → Hp → Prop := fun σ H => ∃ B', Same B1 B' ∧ Same B' H ∧ P σ B' H
theorem s_for {wi : TI} {g : TG} {ts : TS} {D : Ends} {H : Hp} (hi : Di wi σ B Rs) (hB : Same B H) (Pv : Nat → L2.St → Hp → Hp → Prop) (h0 : ∀ B' H', Ext B H B' H' → Pv 0 σ B' H')
    (hs : ∀ B1 i R v σ' Bc Hc Bn Hn, Same B B1 → Same B1 Bc → Rs[i]? = some R → Pv i σ' Bc Hc → Ext Bc Hc Bn Hn → R Bn v → g v σ' Hn fun σ2 H2 => ts { D with nx := Nx B1 (Pv (i + 1)), ct := Nx B1 (Pv (i + 1)), bk := D.nx } σ2 H2)
    (hd : ∀ σ' B' H', Same B B' → Same B' H' → Pv Rs.length σ' B' H' → D.nx σ' H') : tFor wi g ts D σ H :=
  hi B H (Same.refl _) hB _ fun J B1 H1 e hw => for_it hw (fun i σ' H' => Nx B1 (Pv i) σ' H') ⟨B1, Same.refl _, e.bh, h0 B1 H1 e⟩ (fun i σ' H' _ ⟨B', s1, s2, _⟩ => s1.trans s2)
    (fun i x σ' H' H'' hi ⟨Bc, s1, s2, p⟩ ⟨R, hR, y⟩ => by
      obtain ⟨Bn, e2, hx⟩ := y Bc s1 s2
      exact hs B1 i R x σ' Bc H' Bn H'' e.bb s1 hR p e2 hx)
    (fun σ' H' ⟨B', s1, s2, p⟩ => hd σ' B' H' (e.bb.trans s1) s2 p)

/-! ### comprehensions -/
theorem De.lc {α : Type} {as : List α} {r : α → Rel} {wi : TI} {g : TG} {vs : List Nat} (hi : Di wi σ B (as.map r)) (p : α → Bool) (o : α → Rel) [mo : ∀ a, Mo (o a)] (hz : as.length < sizeLine)
    (turn : ∀ a v Bn H, a ∈ as → Same B Bn → Same Bn H → r a Bn v → ∃ σ2, (∀ Q : L2.St → Hp → Prop, Q σ2 H → g v (wipe σ vs) H Q) ∧ wipe σ2 vs = wipe σ vs ∧ Dt tt σ2 Bn (p a) ∧ (p a = true → De te σ2 Bn (o a))) :
    De (tLc wi g tt te vs) σ B (lstR K ((as.filter p).map o)) := fun B1 H s1 s2 Q q => hi B1 H s1 s2 _ fun J B2 H2 e hw => fun D hD => by
  have moA : ∀ l : List α, MoA (l.map o) := fun l => moA_of fun R h => by
    obtain ⟨a, _, rfl⟩ := List.mem_map.mp h
    exact mo a
  have hw' : Walk J as.length (fun H => Same B2 H) (fun i H x H' => ∃ R, (as.map r)[i]? = some R ∧ ∀ Bc, Same B2 Bc → Same Bc H → ∃ Bn, Ext Bc H Bn H' ∧ R Bn x) := by
    have := hw
    unfold Wk at this
    rw [List.length_map] at this
    exact this
  refine lc_it hw' (fun i H' => ∃ B' xs, Ext B2 H2 B' H' ∧ B' D = none ∧ H' D = some (.lst xs) ∧ xs.length ≤ i ∧ AllR (((as.take i).filter p).map o) B' xs) ?_ (fun i H' _ ⟨B', xs, e', _⟩ => e'.bb.trans e'.bh) ?_ ?_
  · exact ⟨B2, [], .own e.bh hD, e.bh.free hD, upd_same, Nat.le_refl _, by rw [List.take_zero]; rfl⟩
  · rintro i x H' H'' hi' ⟨B', xs, e', nD, atD, few, hxs⟩ ⟨R, hR, y⟩
    obtain ⟨Bn, e2, hx⟩ := y B' e'.bb e'.bh
    rw [List.getElem?_map] at hR
    obtain ⟨a, ha, rfl⟩ := Option.map_eq_some_iff.mp hR
    obtain ⟨σ2, t1, t2, t3, t4⟩ := turn a x Bn H'' (List.mem_of_getElem? ha) (((s1.trans e.bb).trans e'.bb).trans e2.bb) e2.bh hx
    have atD2 := e2.hh _ _ atD
    have nD2 : Bn D = none := e2.nw D (by rw [atD]; exact fun z => nomatch z) nD
    have tk : as.take (i + 1) = as.take i ++ [a] := by rw [List.take_succ, ha]; rfl
    refine t1 _ ⟨t2, t3 Bn H'' (Same.refl _) e2.bh _ fun B3 H3 e3 => ?_⟩
    have atD3 := e3.hh _ _ atD2
    have nD3 : B3 D = none := e3.nw D (by rw [atD2]; exact fun z => nomatch z) nD2
    have e13 := (e'.trans e2).trans e3
    cases hp : p a with
    | true =>
      refine t4 hp B3 H3 e3.bb e3.bh _ fun y B4 H4 e4 hy => ?_
      have atD4 := e4.hh _ _ atD3
      have nD4 : B4 D = none := e4.nw D (by rw [atD3]; exact fun z => nomatch z) nD3
      have e14 := e13.trans e4
      refine ⟨xs, atD4, by omega, B4, xs ++ [y], ⟨fun b u hb => ?_, e14.bb, fun b u hb => ?_, e14.nw⟩, nD4, upd_same, by simp; omega, ?_⟩
      · rw [upd_ne (ne_of_none hb hD)]
        exact e14.hh b u hb
      · rw [upd_ne (ne_of_none hb nD4)]
        exact e14.bh b u hb
      · rw [tk, List.filter_append, List.map_append]
        have : [a].filter p = [a] := by simp [hp]
        rw [this]
        exact allR_snoc ((moA _).mo ((e2.bb.trans e3.bb).trans e4.bb) hxs) hy
    | false =>
      refine ⟨B3, xs, e13, nD3, atD3, by omega, ?_⟩
      rw [tk, List.filter_append]
      have : [a].filter p = [] := by simp [hp]
      rw [this, List.append_nil]
      exact (moA _).mo (e2.bb.trans e3.bb) hxs
  · rintro H' ⟨B', xs, e', nD, atD, few, hxs⟩
    rw [List.take_length] at hxs
    refine q (.ref D) (upd B' D (.lst xs)) H' ⟨e.hh.trans e'.hh, (e.bb.trans e'.bb).trans (new_same nD), fun b u hb => ?_, fun b h1 h2 => ?_⟩ ⟨D, xs, rfl, SqL.of upd_same, (moA _).mo (new_same nD) hxs⟩
    · by_cases z : b = D
      · subst z
        rw [upd_same] at hb
        cases hb
        exact atD
      · rw [upd_ne z] at hb
        exact e'.bh b u hb
    · have z : b ≠ D := by
        rintro rfl
        cases w : H b with
        | none => exact h1 w
        | some u =>
          rw [e.hh b u w] at hD
          cases hD
      rw [upd_ne z]
      exact (e.trans e').nw b h1 h2
/-- .. of data -/
theorem De.lcD {α : Type} {as : List α} {r : α → Rel} {wi : TI} {g : TG} {vs : List Nat} (hi : Di wi σ B (as.map r)) (p : α → Bool) (o : α → PyData) (hz : as.length < sizeLine)
    (turn : ∀ a v Bn H, a ∈ as → Same B Bn → Same Bn H → r a Bn v → ∃ σ2, (∀ Q : L2.St → Hp → Prop, Q σ2 H → g v (wipe σ vs) H Q) ∧ wipe σ2 vs = wipe σ vs ∧ Dt tt σ2 Bn (p a) ∧ (p a = true → De te σ2 Bn (dat K (o a)))) :
    De (tLc wi g tt te vs) σ B (dat K (.list ((as.filter p).map o))) :=
  (De.lc (K := K) hi p (fun a => dat K (o a)) hz turn).conv fun B' v h => lstR_dat (by rw [List.map_map]; exact h)
/-- without a test -/
theorem De.lcA {α : Type} {as : List α} {r : α → Rel} {wi : TI} {g : TG} {vs : List Nat} (hi : Di wi σ B (as.map r)) (o : α → PyData) (hz : as.length < sizeLine)
    (turn : ∀ a v Bn H, a ∈ as → Same B Bn → Same Bn H → r a Bn v → ∃ σ2, (∀ Q : L2.St → Hp → Prop, Q σ2 H → g v (wipe σ vs) H Q) ∧ wipe σ2 vs = wipe σ vs ∧ De te σ2 Bn (dat K (o a))) :
    De (tLc wi g tYes te vs) σ B (dat K (.list (as.map o))) := by
  have := De.lcD (K := K) (tt := tYes) (te := te) hi (fun _ => true) o hz fun a v Bn H h1 h2 h3 h4 => by
    obtain ⟨σ2, t1, t2, t3⟩ := turn a v Bn H h1 h2 h3 h4
    exact ⟨σ2, t1, t2, .yes, fun _ => t3⟩
  rw [List.filter_eq_self.mpr (fun _ _ => rfl)] at this
  exact this
/-- a pair is taken apart -/
theorem gTup2 {Bn H : Hp} {v : V} {R S : Rel} {σ1 : L2.St} {i j : Nat} (s : Same Bn H) (h : tupR K [R, S] Bn v) : ∃ x y, R Bn x ∧ S Bn y ∧ ∀ Q : L2.St → Hp → Prop, Q ((σ1.set i (some x)).set j (some y)) H → gTup K 2 (gCons (gName i) (gCons (gName j) gNil)) v σ1 H Q := by
  obtain ⟨a, xs, rfl, hs, x, r, rfl, hx, y, r', rfl, hy, hr⟩ := h
  have hr : r' = [] := hr
  subst hr
  exact ⟨x, y, hx, hy, fun Q q => ⟨a, _, rfl, seqT s hs, rfl, x, [y], rfl, y, [], rfl, rfl, q⟩⟩
theorem dat_pair {d e : PyData} {Bn : Hp} {v : V} (h : dat K (.tuple [d, e]) Bn v) : tupR K [dat K d, dat K e] Bn v := dat_tupR h

/-! ### built-in functions -/
theorem rc_len {ds : List PyData} : Rc (fun xs H Q => ∃ x n, xs = [x] ∧ LenV K x H n ∧ Q (.int n) H) B [dat K (.list ds)] (dat K (.int (ds.length : Int))) := fun vs B1 H _ s2 hv Q q => by
  obtain ⟨v, r, rfl, h, h2⟩ := hv
  have h2 : r = [] := h2
  subst h2
  obtain ⟨a, xs, rfl, hs, hR⟩ := dat_lstR h
  have len := allR_len hR
  rw [List.length_map] at len
  exact ⟨.ref a, ds.length, rfl, .inl ⟨xs, s2.seq hs, len.symm⟩, q _ B1 H (.refl s2) (.int _)⟩
theorem rc_lenT {ds : List PyData} : Rc (fun xs H Q => ∃ x n, xs = [x] ∧ LenV K x H n ∧ Q (.int n) H) B [dat K (.tuple ds)] (dat K (.int (ds.length : Int))) := fun vs B1 H _ s2 hv Q q => by
  obtain ⟨v, r, rfl, h, h2⟩ := hv
  have h2 : r = [] := h2
  subst h2
  obtain ⟨a, xs, rfl, hs, hR⟩ := dat_tupR h
  have len := allR_len hR
  rw [List.length_map] at len
  exact ⟨.ref a, ds.length, rfl, .inr ⟨xs, seqT s2 hs, len.symm⟩, q _ B1 H (.refl s2) (.int _)⟩
theorem rc_lenS {z : Str} (hz : z.length ≤ sizeLine) : Rc (fun xs H Q => ∃ x n, xs = [x] ∧ LenV K x H n ∧ Q (.int n) H) B [dat K (.str z)] (dat K (.int (z.length : Int))) := fun vs B1 H _ s2 hv Q q => by
  obtain ⟨v, r, rfl, h, h2⟩ := hv
  have h2 : r = [] := h2
  subst h2
  have h := dat_str h
  subst h
  exact ⟨.str z, z.length, rfl, ⟨hz, rfl⟩, q _ B1 H (.refl s2) (.int _)⟩
theorem rc_show {d : PyData} (h : Shw d) : Rc (rShow K) B [dat K d] (dat K (.str d.shown)) := fun vs B1 H _ s2 hv Q q => by
  obtain ⟨v, r, rfl, hv, h2⟩ := hv
  have h2 : r = [] := h2
  subst h2
  exact ⟨v, d, rfl, dpMono s2 _ _ hv, h.1, h.2.1, h.2.2.1, h.2.2.2, q _ B1 H (.refl s2) (.str _)⟩
theorem rc_tupL {Rs : List Rel} [m : MoA Rs] : Rc (fun xs H Q => ∃ p ys, xs = [.ref p] ∧ ((SqL K H p ys ∧ ∀ l, H l = none → Q (.ref l) (upd H l (.tup ys))) ∨ (SqT K H p ys ∧ Q (.ref p) H))) B [lstR K Rs] (tupR K Rs) := fun vs B1 H _ s2 hv Q q => by
  obtain ⟨v, r, rfl, ⟨a, xs, rfl, hs, hR⟩, h2⟩ := hv
  have h2 : r = [] := h2
  subst h2
  exact ⟨a, xs, rfl, .inl ⟨s2.seq hs, fun p hp => q _ (upd B1 p (.tup xs)) _ (.new s2 hp) ⟨p, xs, rfl, SqT.of upd_same, m.mo (new_same (s2.free hp)) hR⟩⟩⟩
theorem rc_tupT {Rs : List Rel} [m : MoA Rs] : Rc (fun xs H Q => ∃ p ys, xs = [.ref p] ∧ ((SqL K H p ys ∧ ∀ l, H l = none → Q (.ref l) (upd H l (.tup ys))) ∨ (SqT K H p ys ∧ Q (.ref p) H))) B [tupR K Rs] (tupR K Rs) := fun vs B1 H _ s2 hv Q q => by
  obtain ⟨v, r, rfl, ⟨a, xs, rfl, hs, hR⟩, h2⟩ := hv
  have h2 : r = [] := h2
  subst h2
  exact ⟨a, xs, rfl, .inr ⟨seqT s2 hs, q _ B1 H (.refl s2) ⟨a, xs, rfl, hs, hR⟩⟩⟩
theorem rc_lstL {Rs : List Rel} [m : MoA Rs] : Rc (fun xs H Q => ∃ p ys, xs = [.ref p] ∧ (SqL K H p ys ∨ SqT K H p ys) ∧ ∀ l, H l = none → Q (.ref l) (upd H l (.lst ys))) B [lstR K Rs] (lstR K Rs) := fun vs B1 H _ s2 hv Q q => by
  obtain ⟨v, r, rfl, ⟨a, xs, rfl, hs, hR⟩, h2⟩ := hv
  have h2 : r = [] := h2
  subst h2
  exact ⟨a, xs, rfl, .inl (s2.seq hs), fun p hp => q _ (upd B1 p (.lst xs)) _ (.new s2 hp) ⟨p, xs, rfl, SqL.of upd_same, m.mo (new_same (s2.free hp)) hR⟩⟩
theorem rc_lstT {Rs : List Rel} [m : MoA Rs] : Rc (fun xs H Q => ∃ p ys, xs = [.ref p] ∧ (SqL K H p ys ∨ SqT K H p ys) ∧ ∀ l, H l = none → Q (.ref l) (upd H l (.lst ys))) B [tupR K Rs] (lstR K Rs) := fun vs B1 H _ s2 hv Q q => by
  obtain ⟨v, r, rfl, ⟨a, xs, rfl, hs, hR⟩, h2⟩ := hv
  have h2 : r = [] := h2
  subst h2
  exact ⟨a, xs, rfl, .inr (seqT s2 hs), fun p hp => q _ (upd B1 p (.lst xs)) _ (.new s2 hp) ⟨p, xs, rfl, SqL.of upd_same, m.mo (new_same (s2.free hp)) hR⟩⟩
theorem rc_sorted {ds : List PyData} (hal : PySem.W.AllAlike ds) (hk : PySem.W.SortOk ds) (hd : ∀ d ∈ ds, d.depth ≤ 60) : Rc (rSortedD K) B [dat K (.list ds)] (dat K (.list (sortD ds))) := fun vs B1 H _ s2 hv Q q => by
  obtain ⟨v, r, rfl, h, h2⟩ := hv
  have h2 : r = [] := h2
  subst h2
  obtain ⟨a, xs, rfl, hs, hR⟩ := dat_lstR h
  have g := allR_dp hR
  exact ⟨a, xs, ds, rfl, s2.seq hs, dpMonoAll s2 _ _ g, hal, hk, hd, fun p hp => q _ (upd B1 p (.lst (sortV xs ds))) _ (.new s2 hp) (.lst (SqL.of upd_same) (dpMonoAll (new_same (s2.free hp)) _ _ (dp_sort g)))⟩
/-- lists and tuples of data, by what they are -/
theorem Da.one {d : PyData} (h : De ta σ B (dat K d)) : Da (tCons ta tNil) σ B [dat K d] := .cons h .nil

/-! ### objects that never change -/
def AllF : List (Str × Rel) → Hp → List (Str × V) → Prop
  | [], _, us => us = []
  | (f, R) :: r, B, us => ∃ v u, us = (f, v) :: u ∧ R B v ∧ AllF r B u
class MoF (fs : List (Str × Rel)) : Prop where
  mo : ∀ {B B' : Hp} {us : List (Str × V)}, Same B B' → AllF fs B us → AllF fs B' us
instance : MoF [] := ⟨fun _ h => h⟩
instance {f : Str} {R : Rel} {r : List (Str × Rel)} [m : Mo R] [t : MoF r] : MoF ((f, R) :: r) := ⟨fun s ⟨v, u, e, h, g⟩ => ⟨v, u, e, m.mo s h, t.mo s g⟩⟩
def insR (C : Addr) (fs : List (Str × Rel)) : Rel := fun B v => ∃ a dx us, v = .ref a ∧ B a = some (.ins C dx us) ∧ AllF fs B us
instance {C : Addr} {fs : List (Str × Rel)} [m : MoF fs] : Mo (insR C fs) := ⟨fun s ⟨a, dx, us, e, h, g⟩ => ⟨a, dx, us, e, s _ _ h, m.mo s g⟩⟩
theorem allF_get {f : Str} : ∀ {fs : List (Str × Rel)} {us : List (Str × V)}, AllF fs B us → fs.lookup f = some R → ∃ v, us.lookup f = some v ∧ R B v
  | (g, S) :: r, _, ⟨v, u, e, h, t⟩, z => by
    subst e
    simp only [List.lookup] at *
    cases q : f == g with
    | true =>
      rw [q] at z
      cases z
      exact ⟨v, rfl, h⟩
    | false =>
      rw [q] at z
      exact allF_get t z
theorem De.fld {C : Addr} {f : Str} {fs : List (Str × Rel)} (he : De te σ B (insR C fs)) (c : Cls K C) (n : NoAttr K C f) (hf : fs.lookup f = some R) : De (tFld K te f) σ B R := fun B1 H s1 s2 Q q => he B1 H s1 s2 _ fun v B2 H2 e hv => by
  obtain ⟨a, dx, us, rfl, h, g⟩ := hv
  obtain ⟨x, hx, hR⟩ := allF_get g hf
  exact ⟨a, C, dx, us, x, rfl, e.bh _ _ h, c, n, hx, q x B2 H2 e hR⟩
/-- __init__ that keeps its arguments -/
def spIns (C : Addr) (fs : List Str) : Sp := fun vs H Q _ => ∃ (x dx : Addr) (us : List V), vs = .ref x :: us ∧ us.length = fs.length ∧ H x = some (.ins C dx []) ∧ Q .non (upd H x (.ins C dx (fs.zip us)))
theorem allF_zip : ∀ {fs : List Str} {Rs : List Rel} {us : List V}, fs.length = Rs.length → AllR Rs B us → AllF (fs.zip Rs) B (fs.zip us)
  | [], [], _, _, _ => rfl
  | f :: fs, R :: Rs, _, h, ⟨v, u, e, g, t⟩ => by
    subst e
    exact ⟨v, _, rfl, g, allF_zip (by simpa using h) t⟩
theorem upd_over {H : Hp} {x d : Addr} {o p q : HO} : upd (upd (upd H d p) x o) x q = upd (upd H d p) x q := by
  funext b
  unfold upd
  by_cases h : b = x
  · rw [if_pos h, if_pos h]
  · rw [if_neg h, if_neg h, if_neg h]
theorem De.make {C : Addr} {fs : List Str} {E : XK} {ta : TA} [m : MoA Rs] (ha : Da ta σ B Rs) (hl : fs.length = Rs.length) : De (tMake C (spIns C fs) [] E ta) σ B (insR C (fs.zip Rs)) := fun B1 H s1 s2 Q q =>
  ha B1 H s1 s2 _ fun vs B2 H2 e hv => fun x dx hx hd ne => by
    have len := allR_len hv
    refine ⟨x, dx, vs, by rw [List.append_nil], by omega, upd_same, rfl, ?_⟩
    rw [upd_over]
    have e1 : Ext B2 H2 B2 (upd H2 dx (.own x)) := .own e.bh hd
    have hx1 : upd H2 dx (.own x) x = none := by
      rw [upd_ne ne.symm]
      exact hx
    have e2 := Ext.new (o := .ins C dx (fs.zip vs)) e1.bh hx1
    exact q _ _ _ ((e.trans e1).trans e2) ⟨x, dx, _, rfl, upd_same, allF_zip hl (m.mo (new_same (e.bh.free hx)) hv)⟩
end
end Wv

set_option Elab.async false
set_option linter.all false
set_option maxRecDepth 100000
set_option maxHeartbeats 4000000
/-! Wv2: comprehensions with two fors, list(range), classes by their names, data args. -/
namespace Wv
open PySem PySem.Spec PyProof.Rows L2 Wb
section
variable {K : PySem.W.Frag} {σ : L2.St} {B B' : Hp} {ta tb te tl : TE} {tt tu : TT} {R S T U : Rel} {Rs : List Rel} {x v : V}
theorem stays {B H B' H' : Hp} {D : Addr} {o : HO} (e : Ext B H B' H') (h : H D = some o) (n : B D = none) : H' D = some o ∧ B' D = none :=
  ⟨e.hh _ _ h, e.nw D (by rw [h]; exact fun z => nomatch z) n⟩
/-- one more in a list that is being made -/
theorem grown {B2 H2 B4 H4 : Hp} {D : Addr} {xs : List V} {y : V} (hD : H2 D = none) (e : Ext B2 H2 B4 H4) (n : B4 D = none) : Ext B2 H2 B4 (upd H4 D (.lst (xs ++ [y]))) :=
  ⟨fun b u hb => by
    rw [upd_ne (ne_of_none hb hD)]
    exact e.hh b u hb, e.bb, fun b u hb => by
    rw [upd_ne (ne_of_none hb n)]
    exact e.bh b u hb, e.nw⟩
theorem De.lc2D {α β : Type} {as : List α} {r : α → Rel} {wi wi1 : TI} {g g1 : TG} {vs vs1 : List Nat} (hi : Di wi σ B (as.map r)) (bs : α → List β) (r1 : α → β → Rel) (o : α → β → PyData) (hz : (as.flatMap fun a => (bs a).map (o a)).length < sizeLine)
    (turn : ∀ a v Bn H, a ∈ as → Same B Bn → Same Bn H → r a Bn v → ∃ σ2, (∀ Q : L2.St → Hp → Prop, Q σ2 H → g v (wipe σ vs) H Q) ∧ wipe σ2 vs = wipe σ vs ∧ Di wi1 σ2 Bn ((bs a).map (r1 a)) ∧
      ∀ b v' Bm H', b ∈ bs a → Same Bn Bm → Same Bm H' → r1 a b Bm v' → ∃ σ3, (∀ Q : L2.St → Hp → Prop, Q σ3 H' → g1 v' (wipe σ2 vs1) H' Q) ∧ wipe σ3 vs1 = wipe σ2 vs1 ∧ De te σ3 Bm (dat K (o a b))) :
    De (tLc2 wi g tYes wi1 g1 tYes te vs vs1) σ B (dat K (.list (as.flatMap fun a => (bs a).map (o a)))) := fun B1 H s1 s2 Q q => hi B1 H s1 s2 _ fun J B2 H2 e hw => fun D hD => by
  have w : Walk J as.length (fun H => Same B2 H) (fun i H x H' => ∃ R, (as.map r)[i]? = some R ∧ ∀ Bc, Same B2 Bc → Same Bc H → ∃ Bn, Ext Bc H Bn H' ∧ R Bn x) := by
    have := hw
    unfold Wk at this
    rw [List.length_map] at this
    exact this
  have part : ∀ i, i ≤ as.length → ((as.take i).flatMap fun a => (bs a).map (o a)).length ≤ (as.flatMap fun a => (bs a).map (o a)).length := fun i _ => by
    conv => rhs; rw [← List.take_append_drop i as, List.flatMap_append, List.length_append]
    omega
  refine ⟨fun i m H' => m = as.length - i ∧ i ≤ as.length ∧ ∃ B' xs, Ext B2 H2 B' H' ∧ B' D = none ∧ H' D = some (.lst xs) ∧ AllR (((as.take i).flatMap fun a => (bs a).map (o a)).map (dat K)) B' xs,
    ⟨as.length, rfl, Nat.zero_le _, B2, [], .own e.bh hD, e.bh.free hD, upd_same, by rw [List.take_zero]; rfl⟩, ?_⟩
  rintro i m H' ⟨rfl, le, B', xs, e', nD, atD, hxs⟩
  by_cases lt : i < as.length
  · refine .inr ⟨w.goes i H' lt (e'.bb.trans e'.bh), fun H'' => ∃ B' xs, Ext B2 H2 B' H'' ∧ B' D = none ∧ H'' D = some (.lst xs) ∧ AllR (((as.take (i + 1)).flatMap fun a => (bs a).map (o a)).map (dat K)) B' xs,
      fun H'' h => ⟨as.length - (i + 1), by omega, rfl, lt, h⟩, fun x H'' y => ?_⟩
    obtain ⟨R, hR, y⟩ := w.yields i H' x H'' lt (e'.bb.trans e'.bh) y
    obtain ⟨Bn, e2, hx⟩ := y B' e'.bb e'.bh
    rw [List.getElem?_map] at hR
    obtain ⟨a, ha, rfl⟩ := Option.map_eq_some_iff.mp hR
    obtain ⟨σ2, t1, t2, t3, t4⟩ := turn a x Bn H'' (List.mem_of_getElem? ha) (((s1.trans e.bb).trans e'.bb).trans e2.bb) e2.bh hx
    obtain ⟨atD2, nD2⟩ := stays e2 atD nD
    have tk : as.take (i + 1) = as.take i ++ [a] := by rw [List.take_succ, ha]; rfl
    have pt := part (i + 1) lt
    rw [tk, List.flatMap_append, List.length_append] at pt
    have e1f : ([a].flatMap fun a => (bs a).map (o a)) = (bs a).map (o a) := by simp
    rw [e1f, List.length_map] at pt
    refine t1 _ ⟨t2, ?_⟩
    show wi1 σ2 H'' _
    refine t3 Bn H'' (Same.refl _) e2.bh _ fun J1 Bm H4 e3 hw1 => ?_
    have w1 : Walk J1 (bs a).length (fun H => Same Bm H) (fun i H x H' => ∃ R, ((bs a).map (r1 a))[i]? = some R ∧ ∀ Bc, Same Bm Bc → Same Bc H → ∃ Bn, Ext Bc H Bn H' ∧ R Bn x) := by
      have := hw1
      unfold Wk at this
      rw [List.length_map] at this
      exact this
    obtain ⟨atD3, nD3⟩ := stays e3 atD2 nD2
    have e13 := (e'.trans e2).trans e3
    refine ⟨fun j k H5 => k = (bs a).length - j ∧ j ≤ (bs a).length ∧ ∃ B5 ys, Ext B2 H2 B5 H5 ∧ Same Bm B5 ∧ B5 D = none ∧ H5 D = some (.lst ys) ∧ AllR ((((as.take i).flatMap fun a => (bs a).map (o a)) ++ ((bs a).take j).map (o a)).map (dat K)) B5 ys,
      ⟨(bs a).length, rfl, Nat.zero_le _, Bm, xs, e13, Same.refl _, nD3, atD3, ?_⟩, ?_⟩
    · rw [List.take_zero, List.map_nil, List.append_nil]
      exact MoA.mo (e2.bb.trans e3.bb) hxs
    rintro j k H5 ⟨rfl, le1, B5, ys, e5, sm, nD5, atD5, hys⟩
    by_cases lt1 : j < (bs a).length
    · refine .inr ⟨w1.goes j H5 lt1 (sm.trans e5.bh), fun H6 => ∃ B5 ys, Ext B2 H2 B5 H6 ∧ Same Bm B5 ∧ B5 D = none ∧ H6 D = some (.lst ys) ∧ AllR ((((as.take i).flatMap fun a => (bs a).map (o a)) ++ ((bs a).take (j + 1)).map (o a)).map (dat K)) B5 ys,
        fun H6 h => ⟨(bs a).length - (j + 1), by omega, rfl, lt1, h⟩, fun x' H6 y' => ?_⟩
      obtain ⟨R', hR', y'⟩ := w1.yields j H5 x' H6 lt1 (sm.trans e5.bh) y'
      obtain ⟨B6, e6, hx'⟩ := y' B5 sm e5.bh
      rw [List.getElem?_map] at hR'
      obtain ⟨b, hb, rfl⟩ := Option.map_eq_some_iff.mp hR'
      obtain ⟨σ3, u1, u2, u3⟩ := t4 b x' B6 H6 (List.mem_of_getElem? hb) ((e3.bb.trans sm).trans e6.bb) e6.bh hx'
      obtain ⟨atD6, nD6⟩ := stays e6 atD5 nD5
      refine u1 _ ⟨u2, ?_⟩
      show te σ3 H6 _
      refine u3 B6 H6 (Same.refl _) e6.bh _ fun y7 B7 H7 e7 hy7 => ?_
      obtain ⟨atD7, nD7⟩ := stays e7 atD6 nD6
      have len := allR_len hys
      rw [List.length_map, List.length_append, List.length_map, List.length_take] at len
      have tk1 : (bs a).take (j + 1) = (bs a).take j ++ [b] := by rw [List.take_succ, hb]; rfl
      refine ⟨ys, atD7, by omega, B7, ys ++ [y7], grown hD ((e5.trans e6).trans e7) nD7, (sm.trans e6.bb).trans e7.bb, nD7, upd_same, ?_⟩
      have eq : ((as.take i).flatMap fun a => (bs a).map (o a)) ++ ((bs a).take (j + 1)).map (o a) = (((as.take i).flatMap fun a => (bs a).map (o a)) ++ ((bs a).take j).map (o a)) ++ [o a b] := by
        rw [tk1, List.map_append, ← List.append_assoc]
        rfl
      rw [eq, List.map_append (l₂ := [o a b])]
      exact allR_snoc (MoA.mo (e6.bb.trans e7.bb) hys) hy7
    · have : j = (bs a).length := by omega
      subst this
      refine .inl ⟨w1.stops H5 (sm.trans e5.bh), B5, ys, e5, nD5, atD5, ?_⟩
      rw [List.take_length] at hys
      rw [tk, List.flatMap_append, e1f]
      exact hys
  · have : i = as.length := by omega
    subst this
    refine .inl ⟨w.stops H' (e'.bb.trans e'.bh), ?_⟩
    rw [List.take_length] at hxs
    refine q (.ref D) (upd B' D (.lst xs)) H' ⟨e.hh.trans e'.hh, (e.bb.trans e'.bb).trans (new_same nD), fun b u hb => ?_, fun b h1 h2 => ?_⟩ (lstR_dat ⟨D, xs, rfl, SqL.of upd_same, MoA.mo (new_same nD) hxs⟩)
    · by_cases z : b = D
      · subst z
        rw [upd_same] at hb
        cases hb
        exact atD
      · rw [upd_ne z] at hb
        exact e'.bh b u hb
    · have z : b ≠ D := by
        rintro rfl
        cases w : H b with
        | none => exact h1 w
        | some u =>
          rw [e.hh b u w] at hD
          cases hD
      rw [upd_ne z]
      exact (e.trans e').nw b h1 h2
/-- walks over data that stands for things -/
theorem Di.conv {wi : TI} {Ss : List Rel} (h : Di wi σ B Rs) (e : Rs = Ss) : Di wi σ B Ss := e ▸ h
theorem Di.listM {α : Type} {as : List α} {f : α → PyData} (h : De tl σ B (dat K (.list (as.map f)))) : Di (iList K tl) σ B (as.map fun a => dat K (f a)) := (Di.listD h).conv (by rw [List.map_map]; rfl)
theorem Di.tupM {α : Type} {as : List α} {f : α → PyData} (h : De tl σ B (dat K (.tuple (as.map f)))) : Di (iTup K tl) σ B (as.map fun a => dat K (f a)) := (Di.tupD h).conv (by rw [List.map_map]; rfl)
theorem rangeI {lo : Int} {n : Nat} : intsR K lo n = (List.range n).map fun i : Nat => dat K (.int (lo + (i : Int))) := rfl
theorem Di.rng {ta : TE} {n : Nat} (h : De ta σ B (dat K (.int (n : Int)))) (h1 : n < 2 ^ 62) : Di (iRng1 (tCons ta tNil)) σ B ((List.range n).map fun i : Nat => dat K (.int (i : Int))) := by
  have := Di.rng1 (K := K) (Da.one h) (by omega) (by omega)
  refine this.conv ?_
  unfold intsR
  have e : ((n : Int)).toNat = n := by omega
  rw [e]
  exact List.map_congr_left fun i _ => by rw [Int.zero_add]
/-- data, one after another -/
def Dd (K : PySem.W.Frag) (ta : TA) (σ : L2.St) (B : Hp) (ds : List PyData) : Prop := Da ta σ B (ds.map (dat K))
theorem Dd.nil : Dd K tNil σ B [] := Da.nil
theorem Dd.cons {tr : TA} {d : PyData} {ds : List PyData} (h : De ta σ B (dat K d)) (t : Dd K tr σ B ds) : Dd K (tCons ta tr) σ B (d :: ds) := Da.cons h t
theorem De.tupD {ta : TA} {ds : List PyData} (h : Dd K ta σ B ds) (hz : ds.length ≤ sizeLine) : De (tTup ta) σ B (dat K (.tuple ds)) := (De.tup h (by rw [List.length_map]; exact hz)).conv fun _ _ => tupR_dat
theorem De.lstD {ta : TA} {ds : List PyData} (h : Dd K ta σ B ds) (hz : ds.length ≤ sizeLine) : De (tLst ta) σ B (dat K (.list ds)) := (De.lst h (by rw [List.length_map]; exact hz)).conv fun _ _ => lstR_dat
/-- tuple(list), tuple(tuple), list(..) -/
theorem De.tupleL {ta : TE} {ds : List PyData} (h : De ta σ B (dat K (.list ds))) : De (tCB (fun xs H Q => ∃ p ys, xs = [.ref p] ∧ ((SqL K H p ys ∧ ∀ l, H l = none → Q (.ref l) (upd H l (.tup ys))) ∨ (SqT K H p ys ∧ Q (.ref p) H))) (tCons ta tNil)) σ B (dat K (.tuple ds)) :=
  (De.cb (.cons (h.conv fun _ _ => dat_lstR) .nil) rc_tupL).conv fun _ _ => tupR_dat
theorem De.tupleT {ta : TE} {ds : List PyData} (h : De ta σ B (dat K (.tuple ds))) : De (tCB (fun xs H Q => ∃ p ys, xs = [.ref p] ∧ ((SqL K H p ys ∧ ∀ l, H l = none → Q (.ref l) (upd H l (.tup ys))) ∨ (SqT K H p ys ∧ Q (.ref p) H))) (tCons ta tNil)) σ B (dat K (.tuple ds)) :=
  (De.cb (.cons (h.conv fun _ _ => dat_tupR) .nil) rc_tupT).conv fun _ _ => tupR_dat
theorem De.listL {ta : TE} {ds : List PyData} (h : De ta σ B (dat K (.list ds))) : De (tCB (fun xs H Q => ∃ p ys, xs = [.ref p] ∧ (SqL K H p ys ∨ SqT K H p ys) ∧ ∀ l, H l = none → Q (.ref l) (upd H l (.lst ys))) (tCons ta tNil)) σ B (dat K (.list ds)) :=
  (De.cb (.cons (h.conv fun _ _ => dat_lstR) .nil) rc_lstL).conv fun _ _ => lstR_dat
theorem De.listT {ta : TE} {ds : List PyData} (h : De ta σ B (dat K (.tuple ds))) : De (tCB (fun xs H Q => ∃ p ys, xs = [.ref p] ∧ (SqL K H p ys ∨ SqT K H p ys) ∧ ∀ l, H l = none → Q (.ref l) (upd H l (.lst ys))) (tCons ta tNil)) σ B (dat K (.list ds)) :=
  (De.cb (.cons (h.conv fun _ _ => dat_tupR) .nil) rc_lstT).conv fun _ _ => lstR_dat
theorem De.lenL {ta : TE} {ds : List PyData} (h : De ta σ B (dat K (.list ds))) : De (tCB (fun xs H Q => ∃ x n, xs = [x] ∧ LenV K x H n ∧ Q (.int n) H) (tCons ta tNil)) σ B (dat K (.int (ds.length : Int))) := .cb (.one h) rc_len
theorem De.lenT {ta : TE} {ds : List PyData} (h : De ta σ B (dat K (.tuple ds))) : De (tCB (fun xs H Q => ∃ x n, xs = [x] ∧ LenV K x H n ∧ Q (.int n) H) (tCons ta tNil)) σ B (dat K (.int (ds.length : Int))) := .cb (.one h) rc_lenT
theorem De.sorted {ta : TE} {ds : List PyData} (h : De ta σ B (dat K (.list ds))) (hal : PySem.W.AllAlike ds) (hk : PySem.W.SortOk ds) (hd : ∀ d ∈ ds, d.depth ≤ 60) : De (tCB (rSortedD K) (tCons ta tNil)) σ B (dat K (.list (sortD ds))) := .cb (.one h) (rc_sorted hal hk hd)
theorem De.show {ta : TE} {d : PyData} (h : De ta σ B (dat K d)) (hs : Shw d) : De (tCB (rShow K) (tCons ta tNil)) σ B (dat K (.str d.shown)) := .cb (.one h) (rc_show hs)
theorem De.listRg {ta : TE} {n : Nat} (h : De ta σ B (dat K (.int (n : Int)))) (h1 : n ≤ 1000000) : De (tLstRg (tRg1 ta)) σ B (dat K (.list ((List.range n).map fun i : Nat => .int (i : Int)))) := fun B1 H s1 s2 Q q => h B1 H s1 s2 _ fun v B2 H2 e hv => by
  have hv := dat_int hv
  subst hv
  refine ⟨n, rfl, RgOk.of_le (Int.le_refl 0) (by omega) (by decide) (by omega), fun p hp => ?_⟩
  have ev : rgV 0 (n : Int) = ((List.range n).map fun i : Nat => V.int (i : Int)) := by
    unfold rgV
    have e : ((n : Int) - 0).toNat = n := by omega
    rw [e]
    exact List.map_congr_left fun i _ => by rw [Int.zero_add]
  rw [ev]
  refine q _ (upd B2 p (.lst ((List.range n).map fun i : Nat => V.int (i : Int)))) _ (e.trans (.new e.bh hp)) ?_
  refine Dp.lst (SqL.of upd_same) ?_
  have : ∀ l : List Nat, DpAll K (upd B2 p (.lst ((List.range n).map fun i : Nat => V.int (i : Int)))) (l.map fun i : Nat => V.int (i : Int)) (l.map fun i : Nat => PyData.int (i : Int)) := by
    intro l
    induction l with
    | nil => exact .nil
    | cons i l ih => exact .cons (.int _) ih
  exact this _
theorem Rv.catS {xs ys : List PyData} (hz : xs.length + ys.length ≤ sizeLine) : Rv (rCatS K) B (dat K (.list xs)) (dat K (.list ys)) (dat K (.list (xs ++ ys))) := fun x y B1 H _ s2 hx hy Q q => by
  obtain ⟨a, us, rfl, h, g⟩ := dat_lstR hx
  obtain ⟨b, ws, rfl, h', g'⟩ := dat_lstR hy
  have l1 := allR_len g
  have l2 := allR_len g'
  rw [List.length_map] at l1 l2
  refine ⟨a, b, us, ws, rfl, rfl, s2.seq h, s2.seq h', by omega, fun p hp => ?_⟩
  refine q _ (upd B1 p (.lst (us ++ ws))) _ (.new s2 hp) ?_
  have s := new_same (o := .lst (us ++ ws)) (s2.free hp)
  exact .lst (SqL.of upd_same) (dpMonoAll s _ _ (allR_dp (by rw [List.map_append]; exact allR_app g g')))
theorem Rv.inT {d : PyData} {ds : List PyData} (hd : SeqAt.shaped d = true) (he : SeqAt.shaped (.tuple ds) = true) : Rv (rInT K false) B (dat K d) (dat K (.tuple ds)) (dat K (.bool (ds.any fun z => PyData.eqv z d))) := fun x y B1 H _ s2 hx hy Q q =>
  ⟨d, ds, dpMono s2 _ _ hx, dpMono s2 _ _ hy, hd, he, q _ B1 H (.refl s2) (Dp.bl _)⟩
theorem Rv.notInT {d : PyData} {ds : List PyData} (hd : SeqAt.shaped d = true) (he : SeqAt.shaped (.tuple ds) = true) : Rv (rInT K true) B (dat K d) (dat K (.tuple ds)) (dat K (.bool (!ds.any fun z => PyData.eqv z d))) := fun x y B1 H _ s2 hx hy Q q =>
  ⟨d, ds, dpMono s2 _ _ hx, dpMono s2 _ _ hy, hd, he, q _ B1 H (.refl s2) (Dp.bl _)⟩
theorem Rv.eqI {i j : Int} : Rv rEq B (dat K (.int i)) (dat K (.int j)) (dat K (.bool (decide (i = j)))) := fun x y B1 H _ s2 hx hy Q q => by
  have hx := dat_int hx
  have hy := dat_int hy
  subst hx hy
  have e : decide (V.int i = V.int j) = decide (i = j) := by simp
  refine ⟨rfl, ?_⟩
  rw [e]
  exact q _ B1 H (.refl s2) (Dp.bl _)
theorem Rv.neI {i j : Int} : Rv rNe B (dat K (.int i)) (dat K (.int j)) (dat K (.bool (!decide (i = j)))) := fun x y B1 H _ s2 hx hy Q q => by
  have hx := dat_int hx
  have hy := dat_int hy
  subst hx hy
  have e : decide (V.int i = V.int j) = decide (i = j) := by simp
  refine ⟨rfl, ?_⟩
  rw [e]
  exact q _ B1 H (.refl s2) (Dp.bl _)
theorem Rv.eqS {i j : Str} : Rv rEq B (dat K (.str i)) (dat K (.str j)) (dat K (.bool (decide (i = j)))) := fun x y B1 H _ s2 hx hy Q q => by
  have hx := dat_str hx
  have hy := dat_str hy
  subst hx hy
  have e : decide (V.str i = V.str j) = decide (i = j) := by simp
  refine ⟨rfl, ?_⟩
  rw [e]
  exact q _ B1 H (.refl s2) (Dp.bl _)
theorem Rv.neS {i j : Str} : Rv rNe B (dat K (.str i)) (dat K (.str j)) (dat K (.bool (!decide (i = j)))) := fun x y B1 H _ s2 hx hy Q q => by
  have hx := dat_str hx
  have hy := dat_str hy
  subst hx hy
  have e : decide (V.str i = V.str j) = decide (i = j) := by simp
  refine ⟨rfl, ?_⟩
  rw [e]
  exact q _ B1 H (.refl s2) (Dp.bl _)
end
section
variable (P : Program) (w : World) (K : PySem.W.Frag) (mg : Str → Option Value) (base : Heap)
/-- a class of objects that keep their arguments -/
structure CalC (x : Str) (C : Addr) (fs : List Str) : Prop where
  c : Cls K C
  g : mg x = some (.ref C)
  na : ∀ f ∈ fs, NoAttr K C f
  ini : ∃ (f : Addr) (fd : FuncData), Mk K C f ∧ FnOk P w K mg base CX0 1 f fd ("self" :: fs) (spIns C fs) ∧ Binds K fd ("self" :: fs) []
end
section
variable {X : Cx} {x : Str} {C : Addr} {fs : List Str} {k : Nat} {p pos : Pos} {e : Expr} {es : List Expr} {t : TA}
theorem pe_calC (c : CalC X.prog X.w X.K X.mg X.base x C fs) (hr : Room k X.A) (hk : 2 ≤ k) (hg : Gl X x) (ha : PA X (e :: es) t) (hdb : (x == ("__debug__" : Str)) = false := by decide)
    (he : starEach (e :: es) X.env = (false, eval e X.env) :: starEach es X.env := by rfl) (hpl : (backTo pos (starEach es X.env)).any (·.1) = false := by rfl) : PE X (.Call (.Name x p) (e :: es) [] pos) (tMake C (spIns C fs) [] E0 t) := by
  obtain ⟨f, fd, M, F, b⟩ := c.ini
  exact pe_make M F (hr.mono hk) hg c.g b .nil pass0 ha hdb he hpl
end
end Wv

set_option Elab.async false
set_option linter.all false
set_option maxRecDepth 100000
set_option maxHeartbeats 4000000
/-! Wv3: enumerate of a tuple, zip of tuples; promises by their arguments. -/
namespace Wb
open PySem PySem.Spec PyProof.Rows L2
/-- the tuple at a, each item in a new pair with its number -/
def IteT (K : PySem.W.Frag) (a : Addr) : It :=
  ⟨fun i H => ∃ (xs : List V) (x : V), SqT K H a xs ∧ xs[i]? = some x, fun i H v H' => ∃ T x, v = .ref T ∧ H T = none ∧ H' = upd H T (.tup [.int (i : Nat), x]) ∧ ∀ xs, SqT K H a xs → xs[i]? = some x, fun i H => ∃ xs : List V, SqT K H a xs ∧ xs.length ≤ i⟩
theorem two_mem {α : Type} {b x y : α} (h : b ∈ [x, y]) : b = x ∨ b = y := by simpa using h
theorem apart_tup {h : Heap} {it a : Addr} {i : Nat} {xs : Array Value} (h1 : h.IsTupleIter it a i) (h2 : h.IsTuple a xs) : a ≠ it := by
  rintro rfl
  obtain ⟨o, e, c, _⟩ := h1
  obtain ⟨o', e', c', _⟩ := h2
  rw [e] at e'
  cases e'
  rw [c] at c'
  exact absurd c' (by decide)
theorem turn_enumT {P : Program} {w : World} {K : PySem.W.Frag} {elts : List Expr} {kk : Nat} {tpos : Pos} (a e it : Addr) :
    Turn P w K (.Tuple elts kk tpos) (IteT K a) [e, it] e (fun i h => (∃ old, IsEnum h e it ((i : Nat) : Int) old) ∧ h.IsTupleIter it a i ∧ e ≠ it ∧ e ≠ a) where
  mem := by simp
  obj := fun i h st b hb => by
    obtain ⟨⟨old, he⟩, ⟨o, ho, hc, hd⟩, _⟩ := st
    rcases two_mem hb with z | z <;> subst z
    · exact ⟨_, he, fun v q => nomatch q⟩
    · exact ⟨o, ho, fun v q => by rw [hd] at q; cases q⟩
  keep := fun i h h' ⟨⟨old, he⟩, hi, hne⟩ k => ⟨⟨old, k e (by simp) _ he⟩, hi.at fun o q => k it (by simp) o q, hne⟩
  item := by
    intro X hP hw hK hc i pins s σ H E I hf ⟨⟨old, he⟩, hit, hne, hea⟩ ⟨xs, x, hq, hx⟩
    subst hP hw hK
    obtain ⟨its, rv, p, hz⟩ := I.tuple hq
    obtain ⟨u, hu, ru⟩ := rv.get hx
    have lt : ∀ b ∈ [e, it], b < s.heap.objs.size := fun b hb => by
      rcases two_mem hb with z | z <;> subst z
      · exact Heap.lt_size he
      · obtain ⟨_, q, _⟩ := hit
        exact Heap.lt_size q
    have hel := lt e (by simp)
    have hi : i < its.toArray.size := by
      have := List.getElem?_eq_some_iff.mp hu
      simpa using this.1
    refine wpAny_pyNext_enum_itemD (Draws.tuple (A := X.A.in1) (show X.A.in1.handled = none from I.ok.hd hc) it a (apart_tup hit p) its.toArray) he ⟨hit, p⟩ hi hne (by simp [hne, hea]) fun y h1 tk hy ho hst hT hsz hk => ?_
    have hy : its[i]? = some y := by simpa using hy
    rw [hu] at hy
    cases hy
    refine ⟨_, rfl, wpAny_letOwnedTupleGo_enum (s := { s with heap := h1, toks := tk + 1 }) ho fun h2 he' sb => ?_⟩
    have hT2 := (sb.2 _ (Nat.ne_of_gt hel)).trans hT
    refine ⟨.ref s.heap.objs.size, _, I.turnedNew (t' := tk + 1) (ch := [e, it]) (ob := .tup [.int (i : Nat), x]) (fun b ob hb q => (sb.2 b (fun z => hb (by simp [z]))).trans (hk b ob (fun z => hb (by simp [z])) (fun z => hb (by simp [z])) q)) hf (Nat.le_refl _)
      ⟨by show 2 ≤ sizeLine; decide, [.int i tk, u], .cons ⟨_, rfl⟩ (.cons ru .nil), ⟨_, hT2, rfl, _, rfl⟩⟩, rfl, ⟨_, x, rfl, I.hok.fresh (Nat.le_refl _), rfl, fun ys hy => by rw [I.tuple_inj hy hq]; exact hx⟩, ⟨⟨u, ?_⟩, hst.1.at fun o q => (sb.2 it (Ne.symm hne)).trans q, hne, hea⟩, fun b hb => ?_⟩
    · rw [show ((i + 1 : Nat) : Int) = (i : Int) + 1 by omega]
      exact he'
    · rw [upd_ne (Nat.ne_of_lt (lt b hb))]
      exact (hf b hb).1
  done := by
    intro X hP hw hK hc i pins s σ H E I hf ⟨⟨old, he⟩, hit, hne, hea⟩ ⟨xs, hq, hx⟩
    subst hP hw hK
    obtain ⟨its, rv, p, hz⟩ := I.tuple hq
    obtain ⟨f0, f1, f2, f3, f4, f5⟩ := hf it (by simp)
    have hl := rv.length
    have hno : its.toArray[i]? = none := by simp; omega
    have hT : s.TypeIs (.ref e) "enumerate" := ⟨_, he, rfl⟩
    unfold pyNext
    refine wpAny_bind (wpAny_attempt (wpAny_callSpecial?_slot (name := Str.ofString "__next__") hT F.slot_enumerate_next
      (wpAny_call_entry F.slot_enumerate_next hT F.entry_enumerate_next ?_ (F.args_enumerate_next_1 _))))
    show wpAny _ _ (field (.ref e) 2 >>= _) _ _ _
    refine wpAny_bind (wpAny_field he rfl (x := .ref it) rfl ?_)
    refine wpAny_bind (RZ.nextOf_tuple_end (I.ok.hd hc) hit p hno fun h' x he' ⟨o, ho, hc'⟩ => ?_)
    refine wpAny_bind (wpAny_isInstance (T := "StopIteration") (b := true) ⟨o, ho, hc'⟩ isSubtype_stop ?_)
    exact wpAny_pure ⟨rfl, I.turned (t' := s.toks) (fun b o hb q => he' b o hb q) f0 f1 f3 f4 f5⟩
  self := fun A i s Q E ⟨⟨_, he⟩, _⟩ h => wpAny_pyIter_enum he h
set_option maxHeartbeats 8000000 in
theorem meets_enumB1 {v : Value} {o : Obj} {H : Heap → Prop} (B : Begins v o H) :
    Meets (Builtin.«enumerate.__new__» ⟨[.type "enumerate", v], []⟩) (fun _ R s => H s.heap ∧
      R (.ok (.ret (.ref (s.heap.push o).objs.size))) { s with heap := (s.heap.push o).push { cls := .type "enumerate", data := .fields #[.none, .bool false, .ref s.heap.objs.size, rawInt 0, .none, .none] } }) :=
  .of_wp fun prog w A R ⟨hp, g, d, tk, os⟩ ⟨h1, h⟩ => by
    have hsub := sub_enumerate
    have q1 : ∀ {A' : Around} {E : Value → Shared → Prop} {Q : Value → Shared → Prop}, Q (.ref hp.objs.size) ⟨hp.push o, g, d, tk, os⟩ → wpAny (model prog w) A' (pyIter v) Q E ⟨hp, g, d, tk, os⟩ :=
      fun q => B.iter prog w _ _ ⟨hp, g, d, tk, os⟩ _ h1 q
    wp_walk using q1
    refine wpAny_stack_any fun st => wpAny_pure ?_
    split
    · rename_i c _ _ _ _ _
      cases (c == Value.type "enumerate") <;> (wp_walk using q1; exact ⟨_, rfl, h⟩)
    · wp_walk using q1
      exact ⟨_, rfl, h⟩
def iEnumT (K : PySem.W.Frag) (ta : TA) : TI := fun σ H R => ta σ H fun vs H1 => ∃ a xs, vs = [.ref a] ∧ SqT K H1 a xs ∧ R (IteT K a) H1
theorem pi_enumT {X : Cx} {e : Expr} {ta : TA} {p pos tpos : Pos} {elts : List Expr} {kk : Nat} (hg : Gl X "enumerate") (hm : X.mg "enumerate" = none) (ha : PA X [e] ta) (hs : starEach [e] X.env = [(false, eval e X.env)] := by rfl) :
    PI X (.Tuple elts kk tpos) (.Call (.Name "enumerate" p) [e] [] pos) (iEnumT X.K ta) := by
  refine ⟨fun pins s σ H R I h => ?_⟩
  refine Call_ (ld_blt I hg hm boot_enumerate (PyProof.Rows.callWith_type1 (thn (ha.run pos pins s σ H _ I h) fun us s1 ⟨vs, H1, I1, r1, q1⟩ => ?_) hs rfl))
  obtain ⟨a, xs, rfl, hq, q⟩ := q1
  obtain ⟨u, rfl, ru⟩ := vals1 r1
  obtain rfl : u = Value.ref a := ru
  obtain ⟨its, rv, p', hz⟩ := I1.tuple hq
  have hT : s1.heap.IsTuple a its.toArray := p'
  refine callType_new F.called_enumerate (by decide) (F.typeCall_enumerate_1 _) (F.newCall_enumerate_1 _) (fun obj => F.args_object_init_2 obj _) F.entry_enumerate_new (meets_enumB1 (begins_tuple a its.toArray)) ⟨hT, ?_⟩
  have sz : (s1.heap.push { cls := .type "tuple_iterator", data := .fields #[.ref a, .int 0 0] }).objs.size = s1.heap.objs.size + 1 := Heap.size_push ..
  have he : IsEnum ((s1.heap.push { cls := .type "tuple_iterator", data := .fields #[.ref a, .int 0 0] }).push { cls := .type "enumerate", data := .fields #[.none, .bool false, .ref s1.heap.objs.size, rawInt 0, .none, .none] }) (s1.heap.objs.size + 1) s1.heap.objs.size 0 .none := by
    have := Heap.get?_push_size (s1.heap.push { cls := .type "tuple_iterator", data := .fields #[.ref a, .int 0 0] }) (o := { cls := .type "enumerate", data := .fields #[.none, .bool false, .ref s1.heap.objs.size, rawInt 0, .none, .none] }) rfl
    rw [sz] at this
    exact this
  show _ ∧ _
  rw [sz]
  refine ⟨⟨_, he, rfl⟩, wpAny_pyIter_enum (s := { s1 with heap := _ }) he ?_⟩
  have la : a < s1.heap.objs.size := by
    obtain ⟨o, ho, _⟩ := hT
    exact Heap.lt_size ho
  refine ⟨s1.heap.objs.size + 1, [s1.heap.objs.size + 1, s1.heap.objs.size], _, _, H1, rfl, I1.kept (t' := s1.toks) fun b ob q => Heap.get?_push_of_some _ (Heap.get?_push_of_some _ q), turn_enumT a (s1.heap.objs.size + 1) s1.heap.objs.size,
    ⟨⟨.none, he⟩, ⟨_, Heap.get?_push_of_some _ (Heap.get?_push_size _ rfl), rfl, rfl⟩, Nat.succ_ne_self _, Nat.ne_of_gt (Nat.lt_succ_of_lt la)⟩, fun b hb => ?_, q⟩
  have le : s1.heap.objs.size ≤ b := by
    rcases two_mem hb with z | z <;> subst z
    · exact Nat.le_succ _
    · exact Nat.le_refl _
  exact I1.fpOk le (I1.hok.fresh le)
theorem walk_enumT {K : PySem.W.Frag} {a : Addr} {xs : List V} : Walk (IteT K a) xs.length (fun H => SqT K H a xs) (YPair (fun i => some (.int (i : Nat))) (fun i => xs[i]?)) :=
  ⟨fun i _ hi q => ⟨xs, xs[i], q, List.getElem?_eq_getElem hi⟩, fun _ q => ⟨xs, q, Nat.le_refl _⟩, fun i H v H' _ q ⟨T, x, h1, h2, h3, h4⟩ => ⟨T, .int (i : Nat), x, h1, h2, h3, rfl, h4 xs q⟩⟩
theorem walk_zipT {K : PySem.W.Frag} {a b : Addr} {xs ys : List V} {n : Nat} (hn : n = min xs.length ys.length) : Walk (RZ.ItzT K a b) n (fun H => SqT K H a xs ∧ SqT K H b ys) (YPair (fun i => xs[i]?) (fun i => ys[i]?)) :=
  ⟨fun i _ hi q => ⟨xs, ys, xs[i]'(by omega), ys[i]'(by omega), q.1, q.2, List.getElem?_eq_getElem _, List.getElem?_eq_getElem _⟩, fun _ q => ⟨xs, ys, q.1, q.2, by omega⟩, fun i H v H' _ q ⟨T, x, z, h1, h2, h3, h4, h5⟩ => ⟨T, x, z, h1, h2, h3, h4 xs q.1, h5 ys q.2⟩⟩
/-- a list or a tuple, walked -/
def iSeq (K : PySem.W.Frag) (tl : TE) : TI := fun σ H R => tl σ H fun x H1 => ∃ a, x = .ref a ∧ ((∃ xs, SqL K H1 a xs) ∧ R (Itl K a) H1 ∨ (∃ xs, SqT K H1 a xs) ∧ R (Itt K a) H1)
theorem pi_seq {X : Cx} {tg l : Expr} {tl : TE} (hl : PE X l tl) : PI X tg l (iSeq X.K tl) := by
  refine ⟨fun pins s σ H R I h => thn (hl.run pins s σ H _ I h) fun v s1 ⟨x, H1, I1, r1, a, e, q⟩ => ?_⟩
  subst e
  cases r1
  have new : ∀ b ∈ [s1.heap.objs.size], FpOk X pins H1 b := fun b hb => by
    rw [List.mem_singleton.mp hb]
    exact I1.fpOk (Nat.le_refl _) (I1.hok.fresh (Nat.le_refl _))
  rcases q with ⟨⟨xs, hq⟩, q⟩ | ⟨⟨xs, hq⟩, q⟩
  · obtain ⟨its, rv, p, hz⟩ := I1.list hq
    exact wpAny_pyIter_list p.isList ⟨s1.heap.objs.size, _, _, _, H1, rfl, I1.kept (t' := s1.toks) fun b o e => Heap.get?_push_of_some _ e, turn_list a _, ⟨_, Heap.get?_push_size _ rfl, rfl, rfl⟩, new, q⟩
  · obtain ⟨its, rv, p, hz⟩ := I1.tuple hq
    exact wpAny_pyIter_tuple (show s1.heap.IsTuple a its.toArray from p) ⟨s1.heap.objs.size, _, _, _, H1, rfl, I1.kept (t' := s1.toks) fun b o e => Heap.get?_push_of_some _ e, turn_tuple a _, ⟨_, Heap.get?_push_size _ rfl, rfl, rfl⟩, new, q⟩
end Wb
namespace Wv
open PySem PySem.Spec PyProof.Rows L2 Wb
section
variable {K : PySem.W.Frag} {σ : L2.St} {B B' : Hp} {ta tb te tl : TE} {tt tu : TT} {R S T U : Rel} {Rs : List Rel} {x v : V}
theorem Di.zipT {ta : TA} {Ss : List Rel} [m : MoA Rs] [m' : MoA Ss] (hm : ∀ R ∈ Rs, Mo R) (hm' : ∀ R ∈ Ss, Mo R) (h : Da ta σ B [tupR K Rs, tupR K Ss]) : Di (RZ.iZipA K ta) σ B ((Rs.zip Ss).map fun p => tupR K [p.1, p.2]) := fun B1 H s1 s2 Q q => h B1 H s1 s2 _ fun vs B2 H2 e hv => by
  obtain ⟨v, r, rfl, ⟨a, xs, rfl, hs, hR⟩, v', r', rfl, ⟨b, ys, rfl, hs', hR'⟩, h5⟩ := hv
  have h5 : r' = [] := h5
  subst h5
  refine ⟨a, b, xs, ys, rfl, .inr ⟨seqT e.bh hs, seqT e.bh hs', q _ B2 H2 e ?_⟩⟩
  have len := allR_len hR
  have len' := allR_len hR'
  unfold Wk
  rw [List.length_map]
  refine (walk_zipT (K := K) (a := a) (b := b) (xs := xs) (ys := ys) (n := (Rs.zip Ss).length) (by rw [List.length_zip, len, len'])).mono (fun H' s => ⟨seqT s hs, seqT s hs'⟩) fun i H' x H'' hi s y => ?_
  obtain ⟨p, u, w, rfl, hp, rfl, hu, hw⟩ := y
  have hu : xs[i]? = some u := hu
  have hw : ys[i]? = some w := hw
  obtain ⟨R, hR1, _⟩ := allR_at hR hu
  obtain ⟨S, hS1, _⟩ := allR_at hR' hw
  refine ⟨tupR K [R, S], ?_, fun Bc sc sh => ?_⟩
  · rw [List.getElem?_map, List.getElem?_zip_eq_some (z := (R, S)) |>.mpr ⟨hR1, hS1⟩]
    rfl
  · have := hm R (List.mem_of_getElem? hR1)
    have := hm' S (List.mem_of_getElem? hS1)
    obtain ⟨v1, hv1, q1⟩ := allR_of (m.mo sc hR) hR1
    obtain ⟨v2, hv2, q2⟩ := allR_of (m'.mo sc hR') hS1
    rw [hu] at hv1
    rw [hw] at hv2
    cases hv1
    cases hv2
    exact pair_new sh hp q1 q2
theorem Di.enumT {ta : TA} [m : MoA Rs] (hm : ∀ R ∈ Rs, Mo R) (h : Da ta σ B [tupR K Rs]) : Di (iEnumT K ta) σ B (Rs.zipIdx.map fun p => tupR K [dat K (.int (p.2 : Int)), p.1]) := fun B1 H s1 s2 Q q => h B1 H s1 s2 _ fun vs B2 H2 e hv => by
  obtain ⟨v, r, rfl, ⟨a, xs, rfl, hs, hR⟩, h5⟩ := hv
  have h5 : r = [] := h5
  subst h5
  refine ⟨a, xs, rfl, seqT e.bh hs, q _ B2 H2 e ?_⟩
  have len := allR_len hR
  unfold Wk
  rw [List.length_map, List.length_zipIdx, ← len]
  refine (walk_enumT (K := K) (a := a) (xs := xs)).mono (fun H' s => seqT s hs) fun i H' x H'' hi s y => ?_
  obtain ⟨p, u, w, rfl, hp, rfl, hu, hw⟩ := y
  cases hu
  have hw : xs[i]? = some w := hw
  obtain ⟨R, hR1, _⟩ := allR_at hR hw
  refine ⟨tupR K [dat K (.int (i : Int)), R], ?_, fun Bc sc sh => ?_⟩
  · rw [List.getElem?_map, List.getElem?_zipIdx, hR1]
    simp
  · have := hm R (List.mem_of_getElem? hR1)
    obtain ⟨v1, hv1, q1⟩ := allR_of (m.mo sc hR) hR1
    rw [hw] at hv1
    cases hv1
    exact pair_new sh hp (Dp.int _) q1
/-- of data that stands for things -/
theorem mo_dats {α : Type} {as : List α} {f : α → PyData} : ∀ R ∈ as.map (fun a => dat K (f a)), Mo R := fun R h => by
  obtain ⟨a, _, rfl⟩ := List.mem_map.mp h
  exact inferInstance
theorem mos_dats {α : Type} {as : List α} {f : α → PyData} : MoA (as.map fun a => dat K (f a)) := moA_of mo_dats
theorem dat_tupM {α : Type} {as : List α} {f : α → PyData} {B : Hp} {v : V} (h : dat K (.tuple (as.map f)) B v) : tupR K (as.map fun a => dat K (f a)) B v := by
  have := dat_tupR h
  rw [List.map_map] at this
  exact this
theorem Di.zipTM {α β : Type} {as : List α} {bs : List β} {f : α → PyData} {g : β → PyData} {ta tb : TE} (h : De ta σ B (dat K (.tuple (as.map f)))) (h2 : De tb σ B (dat K (.tuple (bs.map g)))) :
    Di (RZ.iZipA K (tCons ta (tCons tb tNil))) σ B ((as.zip bs).map fun p => tupR K [dat K (f p.1), dat K (g p.2)]) := by
  have : MoA (as.map fun a => dat K (f a)) := mos_dats
  have : MoA (bs.map fun a => dat K (g a)) := mos_dats
  have i1 : Mo (tupR K (as.map fun a => dat K (f a))) := inferInstance
  have := Di.zipT (K := K) (Rs := as.map fun a => dat K (f a)) (Ss := bs.map fun a => dat K (g a)) mo_dats mo_dats (.cons (h.conv fun _ _ => dat_tupM) (.cons (h2.conv fun _ _ => dat_tupM) .nil))
  rw [List.zip_map, List.map_map] at this
  exact this
theorem Di.enumTM {α : Type} {as : List α} {f : α → PyData} {ta : TE} (h : De ta σ B (dat K (.tuple (as.map f)))) : Di (iEnumT K (tCons ta tNil)) σ B (as.zipIdx.map fun p => tupR K [dat K (.int (p.2 : Int)), dat K (f p.1)]) := by
  have : MoA (as.map fun a => dat K (f a)) := mos_dats
  have := Di.enumT (K := K) (Rs := as.map fun a => dat K (f a)) mo_dats (.cons (h.conv fun _ _ => dat_tupM) .nil)
  rw [List.zipIdx_map, List.map_map] at this
  exact this
end
/-! ### promises by their arguments -/
section
variable {α : Type} {args : α → List Rel} {R R1 R2 R3 : α → Rel} {pre : α → Prop} {res : α → Rel} {vs : List V} {H : Hp} {Q : VK} {E : XK}
theorem pf_len (h : Pf args pre res vs H Q E) {m : Nat} (n : ∀ a, (args a).length = m) : vs.length = m := by
  obtain ⟨B, a, _, h, _⟩ := h
  rw [allR_len h, n]
theorem pf1 (h : Pf (fun a => [R a]) pre res vs H Q E) : ∃ v B a, vs = [v] ∧ Same B H ∧ R a B v ∧ pre a ∧ ∀ v B' H', Ext B H B' H' → res a B' v → Q v H' := by
  obtain ⟨B, a, s, ⟨v, r, rfl, h1, h⟩, p, k⟩ := h
  have h : r = [] := h
  subst h
  exact ⟨v, B, a, rfl, s, h1, p, k⟩
theorem pf2 (h : Pf (fun a => [R a, R1 a]) pre res vs H Q E) : ∃ v v1 B a, vs = [v, v1] ∧ Same B H ∧ R a B v ∧ R1 a B v1 ∧ pre a ∧ ∀ v B' H', Ext B H B' H' → res a B' v → Q v H' := by
  obtain ⟨B, a, s, ⟨v, r, rfl, h1, v1, r1, rfl, h2, h⟩, p, k⟩ := h
  have h : r1 = [] := h
  subst h
  exact ⟨v, v1, B, a, rfl, s, h1, h2, p, k⟩
theorem pf3 (h : Pf (fun a => [R a, R1 a, R2 a]) pre res vs H Q E) : ∃ v v1 v2 B a, vs = [v, v1, v2] ∧ Same B H ∧ R a B v ∧ R1 a B v1 ∧ R2 a B v2 ∧ pre a ∧ ∀ v B' H', Ext B H B' H' → res a B' v → Q v H' := by
  obtain ⟨B, a, s, ⟨v, r, rfl, h1, v1, r1, rfl, h2, v2, r2, rfl, h3, h⟩, p, k⟩ := h
  have h : r2 = [] := h
  subst h
  exact ⟨v, v1, v2, B, a, rfl, s, h1, h2, h3, p, k⟩
theorem pf4 (h : Pf (fun a => [R a, R1 a, R2 a, R3 a]) pre res vs H Q E) : ∃ v v1 v2 v3 B a, vs = [v, v1, v2, v3] ∧ Same B H ∧ R a B v ∧ R1 a B v1 ∧ R2 a B v2 ∧ R3 a B v3 ∧ pre a ∧ ∀ v B' H', Ext B H B' H' → res a B' v → Q v H' := by
  obtain ⟨B, a, s, ⟨v, r, rfl, h1, v1, r1, rfl, h2, v2, r2, rfl, h3, v3, r3, rfl, h4, h⟩, p, k⟩ := h
  have h : r3 = [] := h
  subst h
  exact ⟨v, v1, v2, v3, B, a, rfl, s, h1, h2, h3, h4, p, k⟩
end
end Wv

set_option Elab.async false
set_option linter.all false
set_option maxRecDepth 100000
set_option maxHeartbeats 4000000
/-! Wv4: statements, by what is evaluated. -/
theorem L2.Room.u65 {k : Nat} {A : PySem.Around} (h : L2.Room k A) : A.units + 65 < PySem.cLine := by
  have := h.un
  omega
namespace Wv
open PySem PySem.Spec PyProof.Rows L2 Wb
section
variable {K : PySem.W.Frag} {σ : L2.St} {B H : Hp} {ta tb te tl : TE} {tt tu : TT} {R S T U : Rel} {Rs : List Rel} {D : Ends} {t u rest : TS} {i j : Nat}
theorem s_set (h : De te σ B R) (hB : Same B H) (k : ∀ v B' H', Ext B H B' H' → R B' v → rest D (σ.set i (some v)) H') : tSeq (tAsg te (gName i)) rest D σ H := h B H (Same.refl _) hB _ k
theorem s_setE (h : De te σ B R) (hB : Same B H) (k : ∀ v B' H', Ext B H B' H' → R B' v → D.nx (σ.set i (some v)) H') : tAsg te (gName i) D σ H := h B H (Same.refl _) hB _ k
theorem s_ret (h : De te σ B R) (hB : Same B H) (k : ∀ v B' H', Ext B H B' H' → R B' v → D.rt v H') : tRet te D σ H := h B H (Same.refl _) hB _ k
theorem s_if {b : Bool} (h : Dt tt σ B b) (hB : Same B H) (k1 : b = true → ∀ B' H', Ext B H B' H' → t D σ H') (k2 : b = false → ∀ B' H', Ext B H B' H' → u D σ H') : tIfS tt t u D σ H := h B H (Same.refl _) hB _ fun B' H' e => by
  cases b with
  | true => exact k1 rfl B' H' e
  | false => exact k2 rfl B' H' e
theorem s_ifS {b : Bool} (h : Dt tt σ B b) (hB : Same B H) (k1 : b = true → ∀ B' H', Ext B H B' H' → t { D with nx := rest D } σ H') (k2 : b = false → ∀ B' H', Ext B H B' H' → u { D with nx := rest D } σ H') : tSeq (tIfS tt t u) rest D σ H := s_if (D := { D with nx := rest D }) h hB k1 k2
/-- a test that is not met: on it goes -/
theorem s_skip (h : Dt tt σ B false) (hB : Same B H) (k : ∀ B' H', Ext B H B' H' → rest D σ H') : tSeq (tIfS tt t tNext) rest D σ H := s_ifS h hB (fun z => nomatch z) fun _ => k
theorem s_par {ta : TA} {S : Rel} (h : Da ta σ B [R, S]) (hB : Same B H) (k : ∀ u v B' H', Ext B H B' H' → R B' u → S B' v → rest D ((σ.set i (some u)).set j (some v)) H') : tSeq (tPar i j ta) rest D σ H := h B H (Same.refl _) hB _ fun vs B' H' e hv => by
  obtain ⟨a, r, rfl, h1, b, r', rfl, h2, h3⟩ := hv
  have h3 : r' = [] := h3
  subst h3
  exact ⟨a, b, rfl, k a b B' H' e h1 h2⟩
theorem Rv.mulS3 {a : Nat} : Rv rMulS B (dat K (.str ⟨#[a]⟩)) (dat K (.int 3)) (dat K (.str (mulS ⟨#[a]⟩ 3))) := fun x y B1 H1 _ s2 hx hy Q q => ⟨_, 3, dat_str hx, dat_int hy, by decide, by decide, Nat.zero_lt_one, by show 1 ≤ 1000; decide, q _ B1 H1 (.refl s2) (.str _)⟩
theorem De.negI {n : Int} (h : De te σ B (dat K (.int n))) : De (tUn (rU fun i => .int (-i)) te) σ B (dat K (.int (-n))) := .un h fun x B1 H1 _ s2 hx Q q => ⟨n, dat_int hx, q _ B1 H1 (.refl s2) (.int _)⟩
theorem Di.seqL {ds : List PyData} (h : De tl σ B (dat K (.list ds))) : Di (iSeq K tl) σ B (ds.map (dat K)) := fun B1 H s1 s2 Q q => h B1 H s1 s2 _ fun v B2 H2 e hv => by
  have q2 := Di.listD (K := K) (De.var (i := 0) (σ := [some v]) hv rfl) B2 H2 (Same.refl _) e.bh Q fun J B3 H3 e3 hw => q J B3 H3 (e.trans e3) hw
  obtain ⟨x, hx, a, ha, hs, r⟩ := q2
  cases hx
  exact ⟨a, ha, .inl ⟨hs, r⟩⟩
theorem Di.seqT {ds : List PyData} (h : De tl σ B (dat K (.tuple ds))) : Di (iSeq K tl) σ B (ds.map (dat K)) := fun B1 H s1 s2 Q q => h B1 H s1 s2 _ fun v B2 H2 e hv => by
  have q2 := Di.tupD (K := K) (De.var (i := 0) (σ := [some v]) hv rfl) B2 H2 (Same.refl _) e.bh Q fun J B3 H3 e3 hw => q J B3 H3 (e.trans e3) hw
  obtain ⟨x, hx, a, ha, hs, r⟩ := q2
  cases hx
  exact ⟨a, ha, .inr ⟨hs, r⟩⟩
abbrev rTup (K : PySem.W.Frag) : List V → Hp → VK → Prop := fun xs H Q => ∃ p ys, xs = [.ref p] ∧ ((SqL K H p ys ∧ ∀ l, H l = none → Q (.ref l) (upd H l (.tup ys))) ∨ (SqT K H p ys ∧ Q (.ref p) H))
abbrev rLst (K : PySem.W.Frag) : List V → Hp → VK → Prop := fun xs H Q => ∃ p ys, xs = [.ref p] ∧ (SqL K H p ys ∨ SqT K H p ys) ∧ ∀ l, H l = none → Q (.ref l) (upd H l (.lst ys))
abbrev rLen (K : PySem.W.Frag) : List V → Hp → VK → Prop := fun xs H Q => ∃ x n, xs = [x] ∧ LenV K x H n ∧ Q (.int n) H
/-- what is wanted behind a turn -/
def Nz (B H : Hp) (P : L2.St → Hp → Prop) : L2.St → Hp → Prop := fun σ H' => ∃ B', Ext B H B' H' ∧ P σ B'
theorem s_forE {wi : TI} {g : TG} {ts : TS} (hi : Di wi σ B Rs) (hB : Same B H) (Pv : Nat → L2.St → Hp → Prop) (h0 : ∀ B', Same B B' → Pv 0 σ B')
    (hs : ∀ B1 H1, Ext B H B1 H1 → ∀ i R v σ' Bc Bn Hn, Rs[i]? = some R → Pv i σ' Bc → Same Bc Bn → Ext B1 H1 Bn Hn → R Bn v → g v σ' Hn fun σ2 H2 => ts { D with nx := Nz B1 H1 (Pv (i + 1)), ct := Nz B1 H1 (Pv (i + 1)), bk := D.nx } σ2 H2)
    (hd : ∀ σ' B' H', Ext B H B' H' → Pv Rs.length σ' B' → D.nx σ' H') : tFor wi g ts D σ H :=
  hi B H (Same.refl _) hB _ fun J B1 H1 e hw => for_it hw (fun i => Nz B1 H1 (Pv i)) ⟨B1, .refl e.bh, h0 B1 e.bb⟩ (fun i σ' H' _ ⟨B', s1, _⟩ => s1.bb.trans s1.bh)
    (fun i x σ' H' H'' hi ⟨Bc, s1, p⟩ ⟨R, hR, y⟩ => by
      obtain ⟨Bn, e2, hx⟩ := y Bc s1.bb s1.bh
      exact hs B1 H1 e i R x σ' Bc Bn H'' hR p e2.bb (s1.trans e2) hx)
    (fun σ' H' ⟨B', s1, p⟩ => hd σ' B' H' (e.trans s1) p)
theorem s_forS {wi : TI} {g : TG} {ts : TS} (hi : Di wi σ B Rs) (hB : Same B H) (Pv : Nat → L2.St → Hp → Prop) (h0 : ∀ B', Same B B' → Pv 0 σ B')
    (hs : ∀ B1 H1, Ext B H B1 H1 → ∀ i R v σ' Bc Bn Hn, Rs[i]? = some R → Pv i σ' Bc → Same Bc Bn → Ext B1 H1 Bn Hn → R Bn v → g v σ' Hn fun σ2 H2 => ts { D with nx := Nz B1 H1 (Pv (i + 1)), ct := Nz B1 H1 (Pv (i + 1)), bk := rest D } σ2 H2)
    (hd : ∀ σ' B' H', Ext B H B' H' → Pv Rs.length σ' B' → rest D σ' H') : tSeq (tFor wi g ts) rest D σ H := s_forE (D := { D with nx := rest D }) hi hB Pv h0 hs hd
end
end Wv

set_option Elab.async false
set_option linter.all false
set_option maxRecDepth 100000
set_option maxHeartbeats 4000000
/-! Wv5: what is evaluated while a deal goes on: a base that leaves the deal's two lists out. -/
namespace Wv
open PySem PySem.Spec PyProof.Rows L2 Wb
/-- the deal at d and c, a base that has neither -/
structure Dl (B H : Hp) (d c : Addr) : Prop where
  deal : Deal H d c
  sub : Same B (off H d c)
theorem Dl.bh {B H : Hp} {d c : Addr} (L : Dl B H d c) : Same B H := L.sub.trans (off_le H d c)
theorem Dl.noD {B H : Hp} {d c : Addr} (L : Dl B H d c) : B d = none := by
  cases h : B d with
  | none => rfl
  | some o => exact absurd rfl (off_some (L.sub _ _ h)).2.1
theorem Dl.noC {B H : Hp} {d c : Addr} (L : Dl B H d c) : B c = none := by
  cases h : B c with
  | none => rfl
  | some o => exact absurd rfl (off_some (L.sub _ _ h)).2.2
theorem Deal.atD {H : Hp} {d c : Addr} (D : Deal H d c) : H d ≠ none ∧ H c ≠ none := by
  obtain ⟨cs, mix, h1, h2, _⟩ := D.ex
  rw [h1, h2]
  exact ⟨Option.some_ne_none _, Option.some_ne_none _⟩
/-- later: the deal may have been drawn from, all else is kept -/
structure ExtD (d c : Addr) (B H B' H' : Hp) : Prop where
  deal : Deal H' d c
  oo : Same (off H d c) (off H' d c)
  bb : Same B B'
  sub : Same B' (off H' d c)
  nw : ∀ b, H b ≠ none → B b = none → B' b = none
theorem ExtD.dl {d c : Addr} {B H B' H' : Hp} (e : ExtD d c B H B' H') : Dl B' H' d c := ⟨e.deal, e.sub⟩
theorem ExtD.bh {d c : Addr} {B H B' H' : Hp} (e : ExtD d c B H B' H') : Same B' H' := e.dl.bh
theorem ExtD.refl {d c : Addr} {B H : Hp} (L : Dl B H d c) : ExtD d c B H B H := ⟨L.deal, Same.refl _, Same.refl _, L.sub, fun _ _ h => h⟩
theorem ExtD.trans {d c : Addr} {B H B1 H1 B2 H2 : Hp} (D : Dl B H d c) (a : ExtD d c B H B1 H1) (b : ExtD d c B1 H1 B2 H2) : ExtD d c B H B2 H2 :=
  ⟨b.deal, a.oo.trans b.oo, a.bb.trans b.bb, b.sub, fun x h1 h2 => by
    refine b.nw x ?_ (a.nw x h1 h2)
    by_cases e1 : x = d
    · rw [e1]
      exact (Deal.atD a.deal).1
    · by_cases e2 : x = c
      · rw [e2]
        exact (Deal.atD a.deal).2
      · cases h : H x with
        | none => exact absurd h h1
        | some o =>
          rw [(off_some (a.oo x o ((off_at e1 e2).trans h))).1]
          exact fun z => nomatch z⟩
theorem ExtD.of {d c : Addr} {B H B' H' : Hp} (L : Dl B H d c) (e : Ext B H B' H') : ExtD d c B H B' H' :=
  ⟨L.deal.same e.hh, off_mono e.hh, e.bb, fun b o h => by
    have at_ := Deal.atD L.deal
    have n1 : b ≠ d := fun z => by rw [z, e.nw d at_.1 L.noD] at h; cases h
    have n2 : b ≠ c := fun z => by rw [z, e.nw c at_.2 L.noC] at h; cases h
    rw [off_at n1 n2]
    exact e.bh b o h, e.nw⟩
theorem ExtD.draw {d c : Addr} {B H H' : Hp} (L : Dl B H d c) (D : Deal H' d c) (S : Same (off H d c) (off H' d c)) : ExtD d c B H B H' := ⟨D, S, Same.refl _, L.sub.trans S, fun _ _ h => h⟩
/-- what is neither of the deal's lists is kept -/
theorem ExtD.keep {d c a : Addr} {o : HO} {B H B' H' : Hp} (e : ExtD d c B H B' H') (h : H a = some o) (n1 : a ≠ d) (n2 : a ≠ c) : H' a = some o := (off_some (e.oo a o ((off_at n1 n2).trans h))).1
theorem deal_upd0 {H : Hp} {d c L : Addr} {o : HO} (D : Deal H d c) (n1 : L ≠ d) (n2 : L ≠ c) : Deal (upd H L o) d c := by
  obtain ⟨cs, mix, h1, h2, r⟩ := D.ex
  exact ⟨cs, mix, (upd_ne n1.symm).trans h1, (upd_ne n2.symm).trans h2, r⟩
/-- a list that is made by and by: hidden from the base -/
structure Ml (d c : Addr) (B H : Hp) (L : Addr) (xs : List V) : Prop where
  at_ : H L = some (.lst xs)
  no : B L = none
  nd : L ≠ d
  nc : L ≠ c
theorem Ml.ext {d c L : Addr} {B H B' H' : Hp} {xs : List V} (m : Ml d c B H L xs) (e : ExtD d c B H B' H') : Ml d c B' H' L xs :=
  ⟨e.keep m.at_ m.nd m.nc, e.nw L (by rw [m.at_]; exact fun z => nomatch z) m.no, m.nd, m.nc⟩
theorem Ml.new {d c L : Addr} {B H : Hp} {xs : List V} (D : Dl B H d c) (h : H L = none) : Ml d c B (upd H L (.lst xs)) L xs ∧ ExtD d c B H B (upd H L (.lst xs)) :=
  ⟨⟨upd_same, D.bh.free h, (D.deal.free h).1, (D.deal.free h).2⟩, .of D (.own D.bh h)⟩
theorem Ml.set {d c L : Addr} {B H : Hp} {xs ys : List V} (D : Dl B H d c) (m : Ml d c B H L xs) : Ml d c B (upd H L (.lst ys)) L ys ∧ Dl B (upd H L (.lst ys)) d c :=
  ⟨⟨upd_same, m.no, m.nd, m.nc⟩, deal_upd0 D.deal m.nd m.nc, fun b o h => by
    have z : b ≠ L := fun z => by rw [z, m.no] at h; cases h
    obtain ⟨h1, h2, h3⟩ := off_some (D.sub b o h)
    rw [off_at h2 h3, upd_ne z]
    exact h1⟩
section
variable {K : PySem.W.Frag} {σ : L2.St} {B H : Hp} {ta tb te tl : TE} {tt tu : TT} {R S T U : Rel} {Rs : List Rel} {D : Ends} {t u rest : TS} {i j : Nat} {d c : Addr} {Q : VK} {E : XK}
theorem d_ev (L : Dl B H d c) (h : De te σ B R) (k : ∀ v B' H', ExtD d c B H B' H' → R B' v → Q v H') : te σ H Q := h B H (Same.refl _) L.bh Q fun v B' H' e hv => k v B' H' (.of L e) hv
theorem s_raw (h : te σ H fun v H' => rest D (σ.set i (some v)) H') : tSeq (tAsg te (gName i)) rest D σ H := h
theorem s_rawE (h : te σ H fun v H' => D.nx (σ.set i (some v)) H') : tAsg te (gName i) D σ H := h
theorem s_retR (h : te σ H D.rt) : tRet te D σ H := h
theorem s_ifR (h : tt σ H fun b H1 => if b = true then t D σ H1 else u D σ H1) : tIfS tt t u D σ H := h
theorem s_ifSR (h : tt σ H fun b H1 => if b = true then t { D with nx := rest D } σ H1 else u { D with nx := rest D } σ H1) : tSeq (tIfS tt t u) rest D σ H := h
theorem r_op {r : R2} (h : ta σ H fun x H1 => tb σ H1 fun y H2 => r x y H2 Q) : tOp r ta tb σ H Q := h
theorem s_parR (h : ta σ H fun x H1 => tb σ H1 fun y H2 => rest D ((σ.set i (some x)).set j (some y)) H2) : tSeq (tPar i j (tCons ta (tCons tb tNil))) rest D σ H := by
  show ta σ H fun x H1 => tb σ H1 fun y H2 => ∃ v w, [x, y] = [v, w] ∧ rest D ((σ.set i (some v)).set j (some w)) H2
  have e : (fun x H1 => tb σ H1 fun y H2 => ∃ v w, [x, y] = [v, w] ∧ rest D ((σ.set i (some v)).set j (some w)) H2) = fun x H1 => tb σ H1 fun y H2 => rest D ((σ.set i (some x)).set j (some y)) H2 := by
    funext x H1
    congr 1
    funext y H2
    apply propext
    constructor
    · rintro ⟨v, w, h, q⟩
      cases h
      exact q
    · exact fun q => ⟨_, _, rfl, q⟩
  rw [e]
  exact h
theorem c_any {n : Int} (L : Dl B H d c) (hd : σ[i]? = some (some (.ref d))) (hn : De te σ B (dat K (.int n))) (n0 : 0 < n) (n1 : n < 2 ^ 300) (k : ∀ r B' H', 0 ≤ r → r < n → ExtD d c B H B' H' → Q (.int r) H') :
    tCall spAny [] E (tCons (tVar i) (tCons te tNil)) σ H Q :=
  ⟨.ref d, hd, d_ev L hn fun v B' H' e hv => ⟨d, c, n, by rw [dat_int hv]; rfl, e.deal, n0, n1, fun r H2 r0 r1 D2 S2 => k r B' H2 r0 r1 (.trans L e (.draw e.dl D2 S2))⟩⟩
theorem c_ofL {ds : List PyData} (L : Dl B H d c) (hd : σ[i]? = some (some (.ref d))) (hn : De te σ B (dat K (.list ds))) (ne : ds ≠ []) (few : ds.length ≤ 1000) (k : ∀ x v B' H', x ∈ ds → ExtD d c B H B' H' → dat K x B' v → Q v H') :
    tCall (spOf K) [] E (tCons (tVar i) (tCons te tNil)) σ H Q :=
  ⟨.ref d, hd, d_ev L hn fun v B' H' e hv => by
    obtain ⟨p, xs, rfl, hs, hR⟩ := dat_lstR hv
    have len := allR_len hR
    rw [List.length_map] at len
    refine ⟨d, c, .ref p, rfl, e.deal, .inl ⟨p, xs, rfl, e.sub.seq hs, fun z => ne (List.eq_nil_of_length_eq_zero (by rw [← len, z]; rfl)), by omega, fun v H2 hv D2 S2 => ?_⟩⟩
    obtain ⟨m, hm, hme⟩ := List.mem_iff_getElem.mp hv
    obtain ⟨R, hR1, hR2⟩ := allR_at hR (List.getElem?_eq_getElem hm)
    rw [List.getElem?_map] at hR1
    obtain ⟨x, hx, rfl⟩ := Option.map_eq_some_iff.mp hR1
    rw [hme] at hR2
    exact k x v B' H2 (List.mem_of_getElem? hx) (.trans L e (.draw e.dl D2 S2)) hR2⟩
theorem c_ofT {ds : List PyData} (L : Dl B H d c) (hd : σ[i]? = some (some (.ref d))) (hn : De te σ B (dat K (.tuple ds))) (ne : ds ≠ []) (few : ds.length ≤ 1000) (k : ∀ x v B' H', x ∈ ds → ExtD d c B H B' H' → dat K x B' v → Q v H') :
    tCall (spOf K) [] E (tCons (tVar i) (tCons te tNil)) σ H Q :=
  ⟨.ref d, hd, d_ev L hn fun v B' H' e hv => by
    obtain ⟨p, xs, rfl, hs, hR⟩ := dat_tupR hv
    have len := allR_len hR
    rw [List.length_map] at len
    refine ⟨d, c, .ref p, rfl, e.deal, .inr (.inl ⟨p, xs, rfl, seqT e.sub hs, fun z => ne (List.eq_nil_of_length_eq_zero (by rw [← len, z]; rfl)), by omega, fun v H2 hv D2 S2 => ?_⟩)⟩
    obtain ⟨m, hm, hme⟩ := List.mem_iff_getElem.mp hv
    obtain ⟨R, hR1, hR2⟩ := allR_at hR (List.getElem?_eq_getElem hm)
    rw [List.getElem?_map] at hR1
    obtain ⟨x, hx, rfl⟩ := Option.map_eq_some_iff.mp hR1
    rw [hme] at hR2
    exact k x v B' H2 (List.mem_of_getElem? hx) (.trans L e (.draw e.dl D2 S2)) hR2⟩
theorem c_ofS {z : Str} (L : Dl B H d c) (hd : σ[i]? = some (some (.ref d))) (hn : De te σ B (dat K (.str z))) (ne : 0 < z.length) (few : z.length ≤ 1000) (k : ∀ a B' H', a ∈ z.cps.toList → ExtD d c B H B' H' → Q (.str ⟨#[a]⟩) H') :
    tCall (spOf K) [] E (tCons (tVar i) (tCons te tNil)) σ H Q :=
  ⟨.ref d, hd, d_ev L hn fun v B' H' e hv => ⟨d, c, v, rfl, e.deal, .inr (.inr ⟨z, dat_str hv, ne, few, fun a H2 ha D2 S2 => k a B' H2 ha (.trans L e (.draw e.dl D2 S2))⟩)⟩⟩
theorem t_any0 {n : Int} {Q : Bool → Hp → Prop} (L : Dl B H d c) (hd : σ[i]? = some (some (.ref d))) (hn : De te σ B (dat K (.int n))) (n0 : 0 < n) (n1 : n < 2 ^ 300) (k : ∀ b B' H', ExtD d c B H B' H' → Q b H') :
    tTest (tOp rEq (tCall spAny [] E (tCons (tVar i) (tCons te tNil))) (tC (.int 0))) σ H Q :=
  c_any L hd hn n0 n1 fun r B' H' _ _ e => ⟨rfl, _, rfl, k _ B' H' e⟩
/-- what a def is worth that draws -/
def DPf {α : Type} (args : α → List Rel) (pre : α → Prop) (res : α → Rel) : Sp := fun vs H Q _ => ∃ (d c : Addr) (B : Hp) (a : α) (us : List V), vs = .ref d :: us ∧ Dl B H d c ∧ AllR (args a) B us ∧ pre a ∧ ∀ v B' H', ExtD d c B H B' H' → res a B' v → Q v H'
theorem c_def {α : Type} {args : α → List Rel} {pre : α → Prop} {res : α → Rel} {tr : TA} (a : α) (L : Dl B H d c) (hd : σ[i]? = some (some (.ref d))) (ha : Da tr σ B (args a)) (hp : pre a) (k : ∀ v B' H', ExtD d c B H B' H' → res a B' v → Q v H') :
    tCall (DPf args pre res) [] E (tCons (tVar i) tr) σ H Q :=
  ⟨.ref d, hd, ha B H (Same.refl _) L.bh _ fun vs B1 H1 e hv => ⟨d, c, B1, a, vs, by rw [List.append_nil], (ExtD.of L e).dl, hv, hp, fun v B' H' e' hr => k v B' H' (.trans L (.of L e) e') hr⟩⟩
theorem De.slS {z : Str} {tl th : TO} {lo hi : Option Int} (h : De te σ B (dat K (.str z))) (h1 : Do tl σ B lo) (h2 : Do th σ B hi) (hz : z.length ≤ sizeLine) : De (L2.tSl rSlS te tl th) σ B (dat K (.str (cutS z lo hi))) :=
  .sl h h1 h2 fun x B1 H s1 s2 hx Q q => ⟨z, dat_str hx, hz, q _ B1 H (.refl s2) (.str _)⟩
end
theorem dpf_len {α : Type} {args : α → List Rel} {pre : α → Prop} {res : α → Rel} {vs : List V} {H : Hp} {Q : VK} {E : XK} (h : DPf args pre res vs H Q E) {m : Nat} (n : ∀ a, (args a).length + 1 = m) : vs.length = m := by
  obtain ⟨d, c, B, a, us, rfl, _, h, _⟩ := h
  rw [List.length_cons, allR_len h, n]
theorem cutS_mem {z : Str} {lo hi : Option Int} {a : Nat} (h : a ∈ (cutS z lo hi).cps.toList) : a ∈ z.cps.toList := by
  unfold cutS at h
  simp only [List.toList_toArray] at h
  exact List.mem_of_mem_drop (List.mem_of_mem_take h)
end Wv

set_option Elab.async false
set_option linter.all false
set_option maxRecDepth 100000
set_option maxHeartbeats 4000000
/-! Wv6: lists that are made while a deal goes on. -/
namespace Wv
open PySem PySem.Spec PyProof.Rows L2 Wb
section
variable {α : Type} {R R1 R2 : α → Rel} {pre : α → Prop} {res : α → Rel} {vs : List V} {H : Hp} {Q : VK} {E : XK}
theorem dpf0 (h : DPf (fun _ => []) pre res vs H Q E) : ∃ d c B a, vs = [.ref d] ∧ Dl B H d c ∧ pre a ∧ ∀ v B' H', ExtD d c B H B' H' → res a B' v → Q v H' := by
  obtain ⟨d, c, B, a, us, rfl, L, h, p, k⟩ := h
  have h : us = [] := h
  subst h
  exact ⟨d, c, B, a, rfl, L, p, k⟩
theorem dpf1 (h : DPf (fun a => [R a]) pre res vs H Q E) : ∃ d v c B a, vs = [.ref d, v] ∧ Dl B H d c ∧ R a B v ∧ pre a ∧ ∀ v B' H', ExtD d c B H B' H' → res a B' v → Q v H' := by
  obtain ⟨d, c, B, a, us, rfl, L, ⟨v, r, rfl, h1, h⟩, p, k⟩ := h
  have h : r = [] := h
  subst h
  exact ⟨d, v, c, B, a, rfl, L, h1, p, k⟩
theorem dpf2 (h : DPf (fun a => [R a, R1 a]) pre res vs H Q E) : ∃ d v v1 c B a, vs = [.ref d, v, v1] ∧ Dl B H d c ∧ R a B v ∧ R1 a B v1 ∧ pre a ∧ ∀ v B' H', ExtD d c B H B' H' → res a B' v → Q v H' := by
  obtain ⟨d, c, B, a, us, rfl, L, ⟨v, r, rfl, h1, v1, r1, rfl, h2, h⟩, p, k⟩ := h
  have h : r1 = [] := h
  subst h
  exact ⟨d, v, v1, c, B, a, rfl, L, h1, h2, p, k⟩
end
theorem Di.itr {K : PySem.W.Frag} {σ : L2.St} {B : Hp} {lo : Int} {n : Nat} : Di (fun _ H R => R (Itr lo n) H) σ B ((List.range n).map fun i : Nat => dat K (.int (lo + (i : Int)))) := fun B1 H _ s2 Q q => q (Itr lo n) B1 H (.refl s2) wk_ints
theorem ExtD.setL {d c L : Addr} {B H B' H' : Hp} {xs ys : List V} (e : ExtD d c B H B' H') (m : Ml d c B' H' L xs) (h : H L = none) : ExtD d c B H B' (upd H' L (.lst ys)) :=
  ⟨deal_upd0 e.deal m.nd m.nc, fun b o z => by
    obtain ⟨h1, h2, h3⟩ := off_some z
    have n : b ≠ L := fun q => by rw [q, h] at h1; cases h1
    rw [off_at h2 h3, upd_ne n]
    exact (off_some (e.oo b o z)).1, e.bb, (Ml.set e.dl m).2.sub, e.nw⟩
/-- such a list comes into the base -/
theorem ExtD.settle {d c L : Addr} {B H B' H' : Hp} {xs : List V} (e : ExtD d c B H B' H') (m : Ml d c B' H' L xs) (h : H L = none) : ExtD d c B H (upd B' L (.lst xs)) H' :=
  ⟨e.deal, e.oo, e.bb.trans (new_same m.no), fun b o z => by
    by_cases n : b = L
    · subst n
      rw [upd_same] at z
      cases z
      exact (off_at m.nd m.nc).trans m.at_
    · rw [upd_ne n] at z
      exact e.sub b o z, fun b h1 h2 => by
    have n : b ≠ L := fun q => h1 (by rw [q]; exact h)
    rw [upd_ne n]
    exact e.nw b h1 h2⟩
theorem Ml.dat {K : PySem.W.Frag} {d c L : Addr} {B H : Hp} {xs : List V} {out : List PyData} (m : Ml d c B H L xs) (h : AllR (out.map (dat K)) B xs) : Wv.dat K (.list out) (upd B L (.lst xs)) (.ref L) :=
  lstR_dat ⟨L, xs, rfl, SqL.of upd_same, MoA.mo (new_same m.no) h⟩
section
variable {K : PySem.W.Frag} {σ : L2.St} {B H : Hp} {te : TE} {tt : TT} {d c : Addr} {Q : VK}
theorem c_lcD {α : Type} {as : List α} {r : α → Rel} {wi : TI} {g : TG} {vs : List Nat} (L : Dl B H d c) (hi : Di wi σ B (as.map r)) (few : as.length < sizeLine) (Pv : Nat → List PyData → Prop) (h0 : Pv 0 [])
    (hs : ∀ i a v B1 H1 out, as[i]? = some a → Dl B1 H1 d c → Same B B1 → r a B1 v → Pv i out → ∀ (Y : V → Hp → Prop) (N : Hp → Prop), (∀ y B4 H4 x, ExtD d c B1 H1 B4 H4 → dat K x B4 y → Pv (i + 1) (out ++ [x]) → Y y H4) →
      (∀ B4 H4, ExtD d c B1 H1 B4 H4 → Pv (i + 1) out → N H4) → g v (wipe σ vs) H1 fun σ2 H2 => wipe σ2 vs = wipe σ vs ∧ tt σ2 H2 fun b H3 => if b = true then te σ2 H3 Y else N H3)
    (hd : ∀ out v B' H', ExtD d c B H B' H' → Pv as.length out → dat K (.list out) B' v → Q v H') : tLc wi g tt te vs σ H Q := hi B H (Same.refl _) L.bh _ fun J B2 H2 e hw => fun D hD => by
  have eD := ExtD.of L e
  have hw' : Walk J as.length (fun H => Same B2 H) (fun i H x H' => ∃ R, (as.map r)[i]? = some R ∧ ∀ Bc, Same B2 Bc → Same Bc H → ∃ Bn, Ext Bc H Bn H' ∧ R Bn x) := by
    have := hw
    unfold Wk at this
    rw [List.length_map] at this
    exact this
  refine lc_it hw' (fun i H' => ∃ B' xs out, ExtD d c B2 H2 B' H' ∧ Ml d c B' H' D xs ∧ AllR (out.map (dat K)) B' xs ∧ Pv i out ∧ out.length ≤ i) ?_ (fun i H' _ ⟨B', xs, out, e', _⟩ => e'.bb.trans e'.bh) ?_ ?_
  · exact ⟨B2, [], [], (Ml.new eD.dl hD).2, (Ml.new eD.dl hD).1, rfl, h0, Nat.le_refl _⟩
  · rintro i x H' H'' hi' ⟨Bc, xs, out, e', m, hxs, pv, lo⟩ ⟨R, hR, y⟩
    obtain ⟨Bn, e2, hx⟩ := y Bc e'.bb e'.bh
    rw [List.getElem?_map] at hR
    obtain ⟨a, ha, rfl⟩ := Option.map_eq_some_iff.mp hR
    have e2 := ExtD.of e'.dl e2
    have e12 := e'.trans eD.dl e2
    have len := allR_len hxs
    rw [List.length_map] at len
    refine hs i a x Bn H'' out ha e2.dl ((eD.bb.trans e'.bb).trans e2.bb) hx pv _ _ (fun y B4 H4 z e4 hz pz => ?_) fun B4 H4 e4 pz => ?_
    · have e14 := e12.trans eD.dl e4
      have m4 := (m.ext e2).ext e4
      refine ⟨xs, m4.at_, by omega, B4, xs ++ [y], out ++ [z], e14.setL m4 hD, (Ml.set e4.dl m4).1, ?_, pz, by simp; omega⟩
      rw [List.map_append]
      exact allR_snoc (MoA.mo (e2.bb.trans e4.bb) hxs) hz
    · exact ⟨B4, xs, out, e12.trans eD.dl e4, (m.ext e2).ext e4, MoA.mo (e2.bb.trans e4.bb) hxs, pz, by omega⟩
  · rintro H' ⟨B', xs, out, e', m, hxs, pv, lo⟩
    have hBD : H D = none := by
      cases h : H D with
      | none => rfl
      | some o =>
        rw [e.hh D o h] at hD
        cases hD
    exact hd out (.ref D) _ H' ((eD.trans L e').settle m hBD) pv (m.dat hxs)
/-- as often as a drawn number tells -/
theorem c_lcAny {n k : Int} {i : Nat} {g : TG} {vs : List Nat} {E : XK} {te0 : TE} (L : Dl B H d c) (hd : σ[i]? = some (some (.ref d))) (hn : De te0 σ B (dat K (.int n))) (n0 : 0 < n) (n1 : n < 2 ^ 60) (k0 : 0 ≤ k) (k1 : k < 2 ^ 60)
    (go : ∀ r B' H', 0 ≤ r → r < n → ExtD d c B H B' H' → tLc (fun _ H R => R (Itr 0 (k + r).toNat) H) g tt te vs σ H' Q) :
    tLc (iRng1 (tCons (tOp (rI0 fun i j => V.int (i + j)) (tC (.int k)) (tCall spAny [] E (tCons (tVar i) (tCons te0 tNil)))) tNil)) g tt te vs σ H Q :=
  c_any L hd hn n0 (by omega) fun r B' H' r0 r1 e => ⟨k, r, rfl, rfl, k + r, rfl, by omega, by omega, go r B' H' r0 r1 e⟩
/-- what is wanted behind a turn -/
def Nd (d c : Addr) (B0 H0 B1 : Hp) (P : L2.St → Hp → Hp → Prop) : L2.St → Hp → Prop := fun σ H' => ∃ B', ExtD d c B0 H0 B' H' ∧ Same B1 B' ∧ P σ B' H'
theorem s_forD {wi : TI} {g : TG} {ts rest : TS} {D : Ends} {Rs : List Rel} {B0 H0 : Hp} (L0 : Dl B0 H0 d c) (e0 : ExtD d c B0 H0 B H) (hi : Di wi σ B Rs) (Pv : Nat → L2.St → Hp → Hp → Prop) (h0 : ∀ B1 H1, ExtD d c B H B1 H1 → Pv 0 σ B1 H1)
    (hs : ∀ B1 i R v σ' Bc Hc Bn Hn, Same B B1 → Rs[i]? = some R → ExtD d c B0 H0 Bc Hc → Same B1 Bc → Pv i σ' Bc Hc → ExtD d c Bc Hc Bn Hn → R Bn v → g v σ' Hn fun σ2 H2 => ts { D with nx := Nd d c B0 H0 B1 (Pv (i + 1)), ct := Nd d c B0 H0 B1 (Pv (i + 1)), bk := rest D } σ2 H2)
    (hd : ∀ σ' B' H', ExtD d c B0 H0 B' H' → Same B B' → Pv Rs.length σ' B' H' → rest D σ' H') : tSeq (tFor wi g ts) rest D σ H :=
  hi B H (Same.refl _) e0.bh _ fun J B1 H1 e hw => by
    have eD := ExtD.of e0.dl e
    have := for_it hw (D := { D with nx := rest D }) (g := g) (tb := ts) (fun i => Nd d c B0 H0 B1 (Pv i)) ⟨B1, e0.trans L0 eD, Same.refl _, h0 B1 H1 eD⟩ (fun i σ' H' _ ⟨B', s1, s2, _⟩ => s2.trans s1.bh)
      (fun i x σ' H' H'' hi ⟨Bc, s1, s2, p⟩ ⟨R, hR, y⟩ => by
        obtain ⟨Bn, e2, hx⟩ := y Bc s2 s1.bh
        exact hs B1 i R x σ' Bc H' Bn H'' eD.bb hR s1 s2 p (.of s1.dl e2) hx)
      (fun σ' H' ⟨B', s1, s2, p⟩ => hd σ' B' H' s1 (eD.bb.trans s2) p)
    exact this
theorem s_forL {g : TG} {ts rest : TS} {D : Ends} (h : te σ H fun x H1 => ∃ a, x = .ref a ∧ (∃ xs, SqL K H1 a xs) ∧ tSeq (tFor (fun _ H R => R (Itl K a) H) g ts) rest D σ H1) : tSeq (tFor (iList K te) g ts) rest D σ H := h
theorem Di.itl {a : Addr} {ds : List PyData} (h : dat K (.list ds) B (.ref a)) : Di (fun _ H R => R (Itl K a) H) σ B (ds.map (dat K)) := fun B1 H s1 s2 Q q => by
  obtain ⟨v, hv, a', ha, _, r⟩ := Di.listD (K := K) (De.var (i := 0) (σ := [some (.ref a)]) h rfl) B1 H s1 s2 Q q
  cases hv
  cases ha
  exact r
/-- a hidden list, looked at: the base with it -/
theorem Ml.look {L : Addr} {xs : List V} (D : Dl B H d c) (m : Ml d c B H L xs) : Same B (upd B L (.lst xs)) ∧ Same (upd B L (.lst xs)) H := ⟨new_same m.no, fun b o h => by
  by_cases n : b = L
  · subst n
    rw [upd_same] at h
    cases h
    exact m.at_
  · rw [upd_ne n] at h
    exact D.bh b o h⟩
theorem Ml.looked {L : Addr} {xs : List V} {B2 H2 : Hp} (D : Dl B H d c) (e : Ext (upd B L (.lst xs)) H B2 H2) : ExtD d c B H B H2 := .of D ⟨e.hh, Same.refl _, D.bh.trans e.hh, fun _ _ h => h⟩
end
theorem nodup_len {α : Type} [BEq α] [LawfulBEq α] : ∀ {l m : List α}, l.Nodup → (∀ x ∈ l, x ∈ m) → l.length ≤ m.length
  | [], _, _, _ => Nat.zero_le _
  | x :: l, m, h, s => by
    obtain ⟨h1, h2⟩ := List.nodup_cons.mp h
    have hx := s x List.mem_cons_self
    have := nodup_len (l := l) (m := m.erase x) h2 fun y hy => (List.mem_erase_of_ne (fun e => h1 (by rw [← e]; exact hy))).mpr (s y (List.mem_cons_of_mem _ hy))
    rw [List.length_erase_of_mem hx] at this
    have := List.length_pos_of_mem hx
    rw [List.length_cons]
    omega
end Wv

set_option Elab.async false
set_option linter.all false
set_option maxRecDepth 100000
set_option maxHeartbeats 4000000
/-! Wv7: comparisons of what is the same. -/
namespace Wv
open PySem PySem.Spec PyProof.Rows L2 Wb
theorem eqv_shaped {d : PyData} (h : SeqAt.shaped d = true) : PyData.eqv d d = true := by
  unfold SeqAt.shaped at h
  rw [Bool.and_eq_true] at h
  exact SeqAt.eqv_refl d h.1
section
variable {K : PySem.W.Frag} {σ : L2.St} {B H : Hp} {ta tb te tk : TE} {tt tu : TT} {R S T : Rel} {d e : PyData}
theorem De.reprs (ha : De ta σ B (dat K d)) (hb : De tb σ B (dat K d)) (hs : Shw d) : De (tOp rEq (tCB (rShow K) (tCons ta tNil)) (tCB (rShow K) (tCons tb tNil))) σ B (dat K (.bool true)) := De.eq (.op (.show ha hs) (.show hb hs) Rv.eqS) (by simp)
theorem De.same (ha : De ta σ B (dat K d)) (hb : De tb σ B (dat K d)) (hs : SeqAt.shaped d = true) : De (tOp (rEqD K) ta tb) σ B (dat K (.bool true)) := De.eq (.op ha hb (Rv.eqD hs hs)) (by rw [eqv_shaped hs])
theorem Dt.reprs (ha : De ta σ B (dat K d)) (hb : De tb σ B (dat K d)) (hs : Shw d) : Dt (tTest (tOp rNe (tCB (rShow K) (tCons ta tNil)) (tCB (rShow K) (tCons tb tNil)))) σ B false := Dt.eq (.test (K := K) (.op (.show ha hs) (.show hb hs) Rv.neS)) (by simp)
theorem Dt.same (ha : De ta σ B (dat K d)) (hb : De tb σ B (dat K d)) (hs : SeqAt.shaped d = true) : Dt (tTest (tOp (rNeD K) ta tb)) σ B false := Dt.eq (.test (K := K) (.op ha hb (Rv.neD hs hs))) (by rw [eqv_shaped hs]; rfl)
theorem Dt.sameI {i : Int} (ha : De ta σ B (dat K (.int i))) (hb : De tb σ B (dat K (.int i))) : Dt (tTest (tOp rNe ta tb)) σ B false := Dt.eq (.test (K := K) (.op ha hb Rv.neI)) (by simp)
theorem Dt.or2 (h1 : Dt tt σ B false) (h2 : Dt tu σ B false) : Dt (tOr tt tu) σ B false := .or h1 fun _ => h2
theorem De.and2 (h1 : De ta σ B (dat K (.bool true))) (h2 : De tb σ B (dat K (.bool true))) : De (tAndV ta tb) σ B (dat K (.bool true)) := .andV h1 fun _ => h2
end
section
variable {R R1 R2 : Rel} {B : Hp} {vs : List V}
theorem kw1 (h : AllR [R] B vs) : AllR [R] B (kwV [0] vs) := by
  obtain ⟨v, r, rfl, h1, h⟩ := h
  exact ⟨v, [], rfl, h1, rfl⟩
theorem kw2 (h : AllR [R1, R] B vs) : AllR [R, R1] B (kwV [1, 0] vs) := by
  obtain ⟨v, r, rfl, h1, v1, r1, rfl, h2, h⟩ := h
  exact ⟨v1, [v], rfl, h2, v, [], rfl, h1, rfl⟩
theorem kw3 (h : AllR [R2, R1, R] B vs) : AllR [R, R1, R2] B (kwV [2, 1, 0] vs) := by
  obtain ⟨v, r, rfl, h1, v1, r1, rfl, h2, v2, r2, rfl, h3, h⟩ := h
  exact ⟨v2, _, rfl, h3, v1, _, rfl, h2, v, [], rfl, h1, rfl⟩
end
end Wv

set_option Elab.async false
set_option linter.all false
set_option maxRecDepth 100000
set_option maxHeartbeats 4000000
/-! Wv8: what type data is of. -/
namespace Wv
open PySem PySem.Spec PyProof.Rows L2 Wb
def tyN : PyData → String
  | .none => "NoneType"
  | .bool _ => "bool"
  | .int _ => "int"
  | .str _ => "str"
  | .list _ => "list"
  | .tuple _ => "tuple"
  | .dict _ => "dict"
theorem ty_dat {K : PySem.W.Frag} {H : Hp} {v : V} {d : PyData} (h : Dp K H v d) : TyX K H v (.type (tyN d)) := by
  cases h with
  | non => exact .base .non
  | bl b => exact .base (.bl b)
  | int i => exact .base (.int i)
  | str z => exact .base (.str z)
  | lst hs _ =>
    rcases hs with (h | ⟨o, h⟩) | ⟨o, its, n, h, c, _⟩
    · exact .base (.lst h)
    · exact .base (.frz h)
    · exact .kList h c
  | tup hs _ =>
    rcases hs with (h | ⟨o, h⟩) | ⟨o, its, n, h, c, _⟩
    · exact .base (.tup h)
    · exact .fTuple h
    · exact .kTuple h c
/-- which built-in class it is of -/
def isD (X : String) (d : PyData) : Bool := tyN d == X || (tyN d == "bool" && X == "int")
theorem kit_data {K : PySem.W.Frag} : ∀ X ∈ ["int", "bool", "str", "tuple", "list"], ∀ t ∈ ["NoneType", "bool", "int", "str", "list", "tuple", "dict"], PySem.W.kitOne K (.type t) (.type X) = some (t == X || (t == "bool" && X == "int")) := by
  intro X hX t ht
  simp only [List.mem_cons, List.not_mem_nil, or_false] at hX ht
  rcases hX with rfl | rfl | rfl | rfl | rfl <;> rcases ht with rfl | rfl | rfl | rfl | rfl | rfl | rfl <;> rfl
theorem tyN_mem (d : PyData) : tyN d ∈ ["NoneType", "bool", "int", "str", "list", "tuple", "dict"] := by cases d <;> simp [tyN]
section
variable {K : PySem.W.Frag} {σ : L2.St} {B : Hp} {ta : TE} {d : PyData}
theorem De.isi {X : String} (h : De ta σ B (dat K d)) (hX : X ∈ ["int", "bool", "str", "tuple", "list"]) : De (tCB (rIsi K) (tCons ta (tCons (tC (.ty X)) tNil))) σ B (dat K (.bool (isD X d))) := fun B1 H s1 s2 Q q =>
  h B1 H s1 s2 _ fun v B2 H2 e hv => ⟨v, .ty X, _, _, _, rfl, .ty X, ty_dat (dpMono e.bh _ _ hv), kit_data X hX _ (tyN_mem d), q _ B2 H2 e (Dp.bl _)⟩
/-- a <= b <= c, of numbers -/
theorem De.chain {r r' : R2} {ta tb tc : TE} {R S T : Rel} {b1 b2 : Bool} [m1 : Mo R] [m2 : Mo S] (ha : De ta σ B R) (hb : De tb σ B S) (hr : Rv r B R S (dat K (.bool b1))) (hc : b1 = true → De tc σ B T) (hr' : b1 = true → Rv r' B S T (dat K (.bool b2))) : De (tChain r r' ta tb tc) σ B (dat K (.bool (b1 && b2))) := fun B1 H s1 s2 Q q =>
  ha B1 H s1 s2 _ fun x B2 H2 e hx => hb B2 H2 (s1.trans e.bb) e.bh _ fun y B3 H3 e2 hy => hr x y B3 H3 ((s1.trans e.bb).trans e2.bb) e2.bh (m1.mo e2.bb hx) hy _ fun z B4 H4 e3 hz => ⟨b1, dat_bl hz, by
    have e4 := (e.trans e2).trans e3
    cases b1 with
    | false => exact q _ B4 H4 e4 (Dp.bl _)
    | true => exact hc rfl B4 H4 (s1.trans e4.bb) e4.bh _ fun w B5 H5 e5 hw => hr' rfl y w B5 H5 ((s1.trans e4.bb).trans e5.bb) e5.bh (m2.mo (e3.bb.trans e5.bb) hy) hw Q fun v B6 H6 e6 hv => q v B6 H6 ((e4.trans e5).trans e6) hv⟩
/-- a question to a text -/
theorem De.m0 {f : Str → Bool} {z : Str} (h : De ta σ B (dat K (.str z))) : De (tM0 (fun x xs H Q => ∃ a, x = .str a ∧ xs = [] ∧ True ∧ Q (.bl (f a)) H) ta) σ B (dat K (.bool (f z))) := fun B1 H s1 s2 Q q =>
  h B1 H s1 s2 _ fun v B2 H2 e hv => ⟨⟨z, dat_str hv⟩, z, dat_str hv, rfl, trivial, q _ B2 H2 e (Dp.bl _)⟩
theorem De.lenS {z : Str} (h : De ta σ B (dat K (.str z))) (hz : z.length ≤ sizeLine) : De (tCB (fun xs H Q => ∃ x n, xs = [x] ∧ LenV K x H n ∧ Q (.int n) H) (tCons ta tNil)) σ B (dat K (.int (z.length : Int))) := .cb (.one h) (rc_lenS hz)
end
end Wv

set_option Elab.async false
set_option linter.all false
set_option maxRecDepth 100000
set_option maxHeartbeats 4000000
/-! Wx0: what is evaluated while a deal is drawn from, told like De. -/
namespace Wv
open PySem PySem.Spec PyProof.Rows L2 Wb
def Dw (te : TE) (σ : L2.St) (d c : Addr) (B : Hp) (R : Rel) : Prop := ∀ B1 H, Same B B1 → Dl B1 H d c → ∀ Q : VK, (∀ v B' H', ExtD d c B1 H B' H' → R B' v → Q v H') → te σ H Q
def Dwa (ta : TA) (σ : L2.St) (d c : Addr) (B : Hp) (Rs : List Rel) : Prop := ∀ B1 H, Same B B1 → Dl B1 H d c → ∀ Q : List V → Hp → Prop, (∀ vs B' H', ExtD d c B1 H B' H' → AllR Rs B' vs → Q vs H') → ta σ H Q
/-- so many values of one kind -/
def Dwn (ta : TA) (σ : L2.St) (d c : Addr) (B : Hp) (S : Rel) (n : Nat) : Prop := ∀ B1 H, Same B B1 → Dl B1 H d c → ∀ Q : List V → Hp → Prop, (∀ vs B' H', ExtD d c B1 H B' H' → vs.length = n → (∀ v ∈ vs, S B' v) → Q vs H') → ta σ H Q
/-- a test whose outcome is open -/
def Dtw (tt : TT) (σ : L2.St) (d c : Addr) (B : Hp) : Prop := ∀ B1 H, Same B B1 → Dl B1 H d c → ∀ Q : Bool → Hp → Prop, (∀ b B' H', ExtD d c B1 H B' H' → Q b H') → tt σ H Q
def intP (P : Int → Prop) : Rel := fun _ v => ∃ i, P i ∧ v = .int i
instance {P : Int → Prop} : Mo (intP P) := ⟨fun _ h => h⟩
def datP (K : PySem.W.Frag) (P : PyData → Prop) : Rel := fun B v => ∃ d, P d ∧ dat K d B v
instance {K : PySem.W.Frag} {P : PyData → Prop} : Mo (datP K P) := ⟨fun s ⟨d, h, g⟩ => ⟨d, h, dpMono s _ _ g⟩⟩
def lstS (K : PySem.W.Frag) (S : Rel) (n : Nat) : Rel := fun B v => ∃ a xs, v = .ref a ∧ SqL K B a xs ∧ xs.length = n ∧ ∀ x ∈ xs, S B x
instance {K : PySem.W.Frag} {S : Rel} {n : Nat} [m : Mo S] : Mo (lstS K S n) := ⟨fun s ⟨a, xs, e, h, l, g⟩ => ⟨a, xs, e, s.seq h, l, fun x hx => m.mo s (g x hx)⟩⟩
theorem dpAll_app {K : PySem.W.Frag} {B : Hp} : ∀ {vs ws : List V} {ds es : List PyData}, DpAll K B vs ds → DpAll K B ws es → DpAll K B (vs ++ ws) (ds ++ es)
  | _, _, _, _, .nil, h => h
  | _, _, _, _, .cons h t, g => .cons h (dpAll_app t g)
section
variable {K : PySem.W.Frag} {σ : L2.St} {d c : Addr} {B B' H : Hp} {te ta tb : TE} {tt tu : TT} {R S T : Rel} {Rs : List Rel} {E : XK} {i : Nat}
theorem Dw.of (h : De te σ B R) : Dw te σ d c B R := fun B1 H s L Q k => h B1 H s L.bh Q fun v B' H' e hv => k v B' H' (.of L e) hv
theorem Dw.mono (s : Same B B') (h : Dw te σ d c B R) : Dw te σ d c B' R := fun B1 H s1 L => h B1 H (s.trans s1) L
theorem Dwa.mono {ta : TA} (s : Same B B') (h : Dwa ta σ d c B Rs) : Dwa ta σ d c B' Rs := fun B1 H s1 L => h B1 H (s.trans s1) L
theorem Dw.cv (h : Dw te σ d c B R) (f : ∀ B v, R B v → S B v) : Dw te σ d c B S := fun B1 H s L Q k => h B1 H s L Q fun v B' H' e hv => k v B' H' e (f _ _ hv)
theorem Dwa.nil : Dwa tNil σ d c B [] := fun B1 H _ L Q k => k [] B1 H (.refl L) rfl
theorem Dwa.cons {tr : TA} [m : Mo R] (h : Dw te σ d c B R) (t : Dwa tr σ d c B Rs) : Dwa (tCons te tr) σ d c B (R :: Rs) := fun B1 H s L Q k =>
  h B1 H s L _ fun v B2 H2 e hv => t B2 H2 (s.trans e.bb) e.dl _ fun vs B3 H3 e2 hvs => k _ B3 H3 (e.trans L e2) ⟨v, vs, rfl, m.mo e2.bb hv, hvs⟩
theorem Dwa.of {tr : TA} (h : Da tr σ B Rs) : Dwa tr σ d c B Rs := fun B1 H s L Q k => h B1 H s L.bh Q fun vs B' H' e hv => k vs B' H' (.of L e) hv
theorem Dwa.one (h : Dw te σ d c B R) [m : Mo R] : Dwa (tCons te tNil) σ d c B [R] := .cons h .nil
theorem Dwn.nil : Dwn tNil σ d c B S 0 := fun B1 H _ L Q k => k [] B1 H (.refl L) rfl fun v h => nomatch h
theorem Dwn.cons {tr : TA} {n : Nat} [m : Mo S] (h : Dw te σ d c B S) (t : Dwn tr σ d c B S n) : Dwn (tCons te tr) σ d c B S (n + 1) := fun B1 H s L Q k =>
  h B1 H s L _ fun v B2 H2 e hv => t B2 H2 (s.trans e.bb) e.dl _ fun vs B3 H3 e2 hl hvs => k _ B3 H3 (e.trans L e2) (by simp [hl]) fun x hx => by
    rcases List.mem_cons.mp hx with rfl | hx
    · exact m.mo e2.bb hv
    · exact hvs x hx
theorem Dw.D1 {x : PyData} {P : PyData → Prop} (h : De te σ B (dat K x)) (hp : P x) : Dw te σ d c B (datP K P) := .cv (.of h) fun _ _ hv => ⟨x, hp, hv⟩
theorem Dw.any {n : Int} (hd : σ[i]? = some (some (.ref d))) (hn : De te σ B (dat K (.int n))) (n0 : 0 < n) (n1 : n < 2 ^ 300) : Dw (tCall spAny [] E (tCons (tVar i) (tCons te tNil))) σ d c B (intP fun r => 0 ≤ r ∧ r < n) := fun B1 H s L Q k =>
  c_any L hd (hn.mono s) n0 n1 fun r B' H' r0 r1 e => k _ B' H' e ⟨r, ⟨r0, r1⟩, rfl⟩
/-- some of a list, whatever is drawn for its items -/
theorem Dw.ofS {n : Nat} (hd : σ[i]? = some (some (.ref d))) (h : Dw te σ d c B (lstS K S n)) (n0 : 0 < n) (few : n ≤ 1000) [m : Mo S] : Dw (tCall (spOf K) [] E (tCons (tVar i) (tCons te tNil))) σ d c B S := fun B1 H s L Q k =>
  ⟨.ref d, hd, h B1 H s L _ fun v B2 H2 e hv => by
    obtain ⟨p, xs, rfl, hs, hl, hx⟩ := hv
    refine ⟨d, c, .ref p, rfl, e.deal, .inl ⟨p, xs, rfl, e.sub.seq hs, fun z => by rw [z] at hl; simp at hl; omega, by omega, fun v H3 hv D3 S3 => ?_⟩⟩
    exact k v B2 H3 (.trans L e (.draw e.dl D3 S3)) (hx v hv)⟩
theorem Dw.lstN {tr : TA} {n : Nat} [m : Mo S] (h : Dwn tr σ d c B S n) (hz : n ≤ sizeLine) : Dw (tLst tr) σ d c B (lstS K S n) := fun B1 H s L Q k =>
  h B1 H s L _ fun vs B2 H2 e hl hv => ⟨by omega, fun p hp => k _ (upd B2 p (.lst vs)) _ (e.trans L (.of e.dl (Ext.new e.bh hp))) ⟨p, vs, rfl, SqL.of upd_same, hl, fun x hx => m.mo (new_same (e.bh.free hp)) (hv x hx)⟩⟩
/-- some item of a written list with drawn items -/
theorem Dw.pick {tr : TA} {n : Nat} [m : Mo S] (hd : σ[i]? = some (some (.ref d))) (h : Dwn tr σ d c B S n) (n0 : 0 < n) (few : n ≤ 1000) : Dw (tCall (spOf K) [] E (tCons (tVar i) (tCons (tLst tr) tNil))) σ d c B S :=
  .ofS hd (.lstN h (by rw [sizeLine_eq]; omega)) n0 few
theorem Dw.ofL {ds : List PyData} (hd : σ[i]? = some (some (.ref d))) (h : De te σ B (dat K (.list ds))) (ne : ds ≠ []) (few : ds.length ≤ 1000) : Dw (tCall (spOf K) [] E (tCons (tVar i) (tCons te tNil))) σ d c B (datP K fun x => x ∈ ds) := fun B1 H s L Q k =>
  c_ofL L hd (h.mono s) ne few fun x v B' H' hx e hv => k v B' H' e ⟨x, hx, hv⟩
theorem Dw.ofT {ds : List PyData} (hd : σ[i]? = some (some (.ref d))) (h : De te σ B (dat K (.tuple ds))) (ne : ds ≠ []) (few : ds.length ≤ 1000) : Dw (tCall (spOf K) [] E (tCons (tVar i) (tCons te tNil))) σ d c B (datP K fun x => x ∈ ds) := fun B1 H s L Q k =>
  c_ofT L hd (h.mono s) ne few fun x v B' H' hx e hv => k v B' H' e ⟨x, hx, hv⟩
theorem Dw.tup {tr : TA} [m : MoA Rs] (h : Dwa tr σ d c B Rs) (hz : Rs.length ≤ sizeLine) : Dw (tTup tr) σ d c B (tupR K Rs) := fun B1 H s L Q k =>
  h B1 H s L _ fun vs B2 H2 e hv => ⟨by rw [allR_len hv]; exact hz, fun p hp => k _ (upd B2 p (.tup vs)) _ (e.trans L (.of e.dl (Ext.new e.bh hp))) ⟨p, vs, rfl, SqT.of upd_same, m.mo (new_same (e.bh.free hp)) hv⟩⟩
theorem Dw.op {r : R2} [m : Mo R] (ha : Dw ta σ d c B R) (hb : Dw tb σ d c B S) (hr : ∀ B, Rv r B R S T) : Dw (tOp r ta tb) σ d c B T := fun B1 H s L Q k =>
  ha B1 H s L _ fun x B2 H2 e hx => hb B2 H2 (s.trans e.bb) e.dl _ fun y B3 H3 e2 hy => hr B3 x y B3 H3 (Same.refl _) e2.bh (m.mo e2.bb hx) hy _ fun v B4 H4 e3 hv => k v B4 H4 ((e.trans L e2).trans L (.of e2.dl e3)) hv
theorem Rv.intP {f : Int → Int → Int} {P P' : Int → Prop} : Rv (rI0 fun i j => V.int (f i j)) B (intP P) (intP P') (intP fun k => ∃ i j, P i ∧ P' j ∧ k = f i j) := fun x y B1 H _ s2 ⟨i, hi, hx⟩ ⟨j, hj, hy⟩ Q q =>
  ⟨i, j, hx, hy, q _ B1 H (.refl s2) ⟨_, ⟨i, j, hi, hj, rfl⟩, rfl⟩⟩
theorem Dw.int {n : Int} : Dw (tC (.int n)) σ d c B (intP fun k => k = n) := fun B1 H _ L Q k => k _ B1 H (.refl L) ⟨n, rfl, rfl⟩
theorem Dw.intV {n : Int} (h : σ[i]? = some (some (.int n))) : Dw (tVar i) σ d c B (intP fun k => k = n) := fun B1 H _ L Q k => ⟨_, h, k _ B1 H (.refl L) ⟨n, rfl, rfl⟩⟩
theorem intP_dat {P : Int → Prop} {v : V} (h : intP P B v) : datP K (fun x => ∃ i, P i ∧ x = .int i) B v := by
  obtain ⟨i, hi, rfl⟩ := h
  exact ⟨.int i, ⟨i, hi, rfl⟩, .int i⟩
/-- a def that draws, its arguments drawn too -/
theorem Dw.def {α : Type} {args : α → List Rel} {pre : α → Prop} {res : α → Rel} {tr : TA} (hd : σ[i]? = some (some (.ref d))) (h : Dwa tr σ d c B Rs) (f : ∀ B vs, AllR Rs B vs → ∃ a, AllR (args a) B vs ∧ pre a ∧ ∀ B v, res a B v → S B v) :
    Dw (tCall (DPf args pre res) [] E (tCons (tVar i) tr)) σ d c B S := fun B1 H s L Q k =>
  ⟨.ref d, hd, h B1 H s L _ fun vs B2 H2 e hv => by
    obtain ⟨a, ha, hp, hs⟩ := f B2 vs hv
    exact ⟨d, c, B2, a, vs, by rw [List.append_nil], e.dl, ha, hp, fun v B' H' e' hr => k v B' H' (.trans L e e') (hs _ _ hr)⟩⟩
/-- .. told what it takes -/
theorem Dw.def1 {α : Type} {args : α → List Rel} {pre : α → Prop} {res : α → Rel} {tr : TA} (a : α) (hd : σ[i]? = some (some (.ref d))) (h : Da tr σ B (args a)) (hp : pre a) : Dw (tCall (DPf args pre res) [] E (tCons (tVar i) tr)) σ d c B (res a) :=
  .def hd (.of h) fun _ _ hv => ⟨a, hv, hp, fun _ _ h => h⟩
/-- a def that draws nothing, its arguments drawn -/
theorem Dw.pf {α : Type} {args : α → List Rel} {pre : α → Prop} {res : α → Rel} {tr : TA} (h : Dwa tr σ d c B Rs) (f : ∀ B vs, AllR Rs B vs → ∃ a, AllR (args a) B vs ∧ pre a ∧ ∀ B v, res a B v → S B v) : Dw (tCall (Pf args pre res) [] E tr) σ d c B S := fun B1 H s L Q k =>
  h B1 H s L _ fun vs B2 H2 e hv => by
    obtain ⟨a, ha, hp, hs⟩ := f B2 vs hv
    show Pf args pre res (vs ++ []) H2 Q E
    rw [List.append_nil]
    exact ⟨B2, a, e.bh, ha, hp, fun v B' H' e' hr => k v B' H' (.trans L e (.of e.dl e')) (hs _ _ hr)⟩
theorem Dw.ite (h : Dtw tt σ d c B) (h1 : Dw ta σ d c B S) (h2 : Dw tb σ d c B S) : Dw (tIf tt ta tb) σ d c B S := fun B1 H s L Q k =>
  h B1 H s L _ fun b B2 H2 e => by
    cases b with
    | true => exact h1 B2 H2 (s.trans e.bb) e.dl Q fun v B3 H3 e3 => k v B3 H3 (e.trans L e3)
    | false => exact h2 B2 H2 (s.trans e.bb) e.dl Q fun v B3 H3 e3 => k v B3 H3 (e.trans L e3)
theorem Dtw.of {b : Bool} (h : Dt tt σ B b) : Dtw tt σ d c B := fun B1 H s L Q k => h B1 H s L.bh Q fun B' H' e => k b B' H' (.of L e)
/-- _law_any(deal, n) == m, and the like -/
theorem Dtw.cmp {f : Int → Int → Bool} {P P' : Int → Prop} (ha : Dw ta σ d c B (intP P)) (hb : Dw tb σ d c B (intP P')) : Dtw (tTest (tOp (rI0 fun i j => V.bl (f i j)) ta tb)) σ d c B := fun B1 H s L Q k =>
  ha B1 H s L _ fun x B2 H2 e ⟨i, _, hx⟩ => hb B2 H2 (s.trans e.bb) e.dl _ fun y B3 H3 e2 ⟨j, _, hy⟩ => ⟨i, j, hx, hy, _, rfl, k _ B3 H3 (e.trans L e2)⟩
include K in
theorem Dtw.eq {P P' : Int → Prop} (ha : Dw ta σ d c B (intP P)) (hb : Dw tb σ d c B (intP P')) : Dtw (tTest (tOp rEq ta tb)) σ d c B := fun B1 H s L Q k =>
  ha B1 H s L _ fun x B2 H2 e ⟨i, _, hx⟩ => hb B2 H2 (s.trans e.bb) e.dl _ fun y B3 H3 e2 ⟨j, _, hy⟩ => by
    subst hx
    subst hy
    exact (Rv.eqI (K := K) (i := i) (j := j)) _ _ B3 H3 (Same.refl _) e2.bh (.int i) (.int j) _ fun v B4 H4 e4 hv => ⟨_, dat_bl hv, k _ B4 H4 ((e.trans L e2).trans L (.of e2.dl e4))⟩
/-! ### statements -/
variable {D : Ends} {rest t u : TS}
theorem s_w (L : Dl B H d c) (h : Dw te σ d c B R) (k : ∀ v B' H', ExtD d c B H B' H' → R B' v → rest D (σ.set i (some v)) H') : tSeq (tAsg te (gName i)) rest D σ H := h B H (Same.refl _) L _ k
theorem s_wE (L : Dl B H d c) (h : Dw te σ d c B R) (k : ∀ v B' H', ExtD d c B H B' H' → R B' v → D.nx (σ.set i (some v)) H') : tAsg te (gName i) D σ H := h B H (Same.refl _) L _ k
theorem s_retW (L : Dl B H d c) (h : Dw te σ d c B R) (k : ∀ v B' H', ExtD d c B H B' H' → R B' v → D.rt v H') : tRet te D σ H := h B H (Same.refl _) L _ k
theorem s_ifW (L : Dl B H d c) (h : Dtw tt σ d c B) (k1 : ∀ B' H', ExtD d c B H B' H' → t { D with nx := rest D } σ H') (k2 : ∀ B' H', ExtD d c B H B' H' → u { D with nx := rest D } σ H') : tSeq (tIfS tt t u) rest D σ H := h B H (Same.refl _) L _ fun b B' H' e => by
  cases b with
  | true => exact k1 B' H' e
  | false => exact k2 B' H' e
theorem s_ifWE (L : Dl B H d c) (h : Dtw tt σ d c B) (k1 : ∀ B' H', ExtD d c B H B' H' → t D σ H') (k2 : ∀ B' H', ExtD d c B H B' H' → u D σ H') : tIfS tt t u D σ H := h B H (Same.refl _) L _ fun b B' H' e => by
  cases b with
  | true => exact k1 B' H' e
  | false => exact k2 B' H' e
/-! ### lists that change -/
theorem De.rep {n : Int} {ta : TA} {ds : List PyData} (h : Dd K ta σ B ds) (n0 : 0 ≤ n) (n1 : n ≤ 1000) (few : ds.length ≤ 1000) : De (tOp rRep (tLst ta) (tC (.int n))) σ B (dat K (.list (List.replicate n.toNat ds).flatten)) := fun B1 H s1 s2 Q k =>
  h B1 H s1 s2 _ fun vs B2 H2 e hv => by
    have len := allR_len hv
    rw [List.length_map] at len
    refine ⟨by rw [len, sizeLine_eq]; omega, fun p hp => ⟨p, n, vs, rfl, rfl, upd_same, by omega, by omega, ?_, fun p2 hp2 => ?_⟩⟩
    · rw [len, sizeLine_eq]
      have : ds.length * n.toNat ≤ 1000 * 1000 := Nat.mul_le_mul few (by omega)
      omega
    · have e1 : Ext B2 H2 B2 (upd H2 p (.lst vs)) := .own e.bh hp
      refine k _ (upd B2 p2 (.lst (List.replicate n.toNat vs).flatten)) _ ((e.trans e1).trans (Ext.new e1.bh hp2)) ?_
      have fr : B2 p2 = none := e1.bh.free hp2
      refine .lst (SqL.of upd_same) (dpMonoAll (new_same fr) _ _ ?_)
      have g : DpAll K B2 vs ds := allR_dp hv
      have go : ∀ m : Nat, DpAll K B2 (List.replicate m vs).flatten (List.replicate m ds).flatten := by
        intro m
        induction m with
        | zero => exact .nil
        | succ m ih =>
          rw [List.replicate_succ, List.replicate_succ, List.flatten_cons, List.flatten_cons]
          exact dpAll_app g ih
      exact go _
end
end Wv

set_option Elab.async false
set_option linter.all false
set_option maxRecDepth 100000
set_option maxHeartbeats 4000000
/-! Wx1: list(text), lists that change while a deal goes on. -/
namespace Wv
open PySem PySem.Spec PyProof.Rows L2 Wb
/-- the signs of a text -/
def signs (z : Str) : List Str := z.cps.toList.map fun c => ⟨#[c]⟩
def rLstS : List V → Hp → VK → Prop := fun xs H Q => ∃ z : Str, xs = [.str z] ∧ z.length ≤ sizeLine ∧ ∀ p, H p = none → Q (.ref p) (upd H p (.lst ((signs z).map .str)))
theorem signs_vals {z : Str} : ∀ {us : List Value} (n : Nat), us.length + n = z.cps.size → (∀ (j : Nat) (v : Value), us[j]? = some v → SignAt z (n + j) v) → Vals (((signs z).drop n).map V.str) us := by
  intro us
  induction us with
  | nil =>
    intro n h _
    have : (signs z).drop n = [] := by
      rw [List.drop_eq_nil_iff]
      unfold signs
      simp at *
      omega
    rw [this]
    exact .nil
  | cons u us ih =>
    intro n h g
    have lt : n < (signs z).length := by
      unfold signs
      simp at *
      omega
    rw [List.drop_eq_getElem_cons lt, List.map_cons]
    refine .cons ?_ (ih (n + 1) (by simp at h; omega) fun j v e => ?_)
    · obtain ⟨c, t, hc, hv⟩ := g 0 u rfl
      refine ⟨t, ?_⟩
      have key : (signs z)[n]? = some ⟨#[c]⟩ := by
        unfold signs
        rw [List.getElem?_map, Array.getElem?_toList]
        rw [Nat.add_zero] at hc
        rw [hc]
        rfl
      obtain ⟨_, e⟩ := List.getElem?_eq_some_iff.mp key
      rw [hv, e]
    · have := g (j + 1) v e
      rw [show n + 1 + j = n + (j + 1) by omega]
      exact this
theorem call_list_txt {X : Cx} (hc : X.calm = true) : CallR X (.type "list") rLstS := by
  intro pins s σ H xs us Q I r q
  obtain ⟨z, rfl, hz, q⟩ := q
  obtain ⟨u, rfl, rx⟩ := vals1 r
  obtain ⟨t, rfl⟩ := rx
  refine call_list_str (I.ok.hd hc) z t (fun h' tk acc c' hk hD hacc => ?_) hz
  have hv : Vals ((signs z).map V.str) acc.toList := by
    have := signs_vals (z := z) (us := acc.toList) 0 (by rw [Array.length_toList]; exact hacc.1) fun j v e => by
      rw [Nat.zero_add]
      exact hacc.2 j v (by rw [← Array.getElem?_toList]; exact e)
    rw [List.drop_zero] at this
    exact this
  refine ⟨.ref s.heap.objs.size, upd H s.heap.objs.size (.lst ((signs z).map V.str)), I.laid (t' := tk) hk (Nat.le_refl _)
    (show ObjOk X.prog X.w _ _ _ (.lst ((signs z).map V.str)) from ⟨by unfold signs; simp; exact hz, acc.toList, c', hv, by rw [Array.toArray_toList]; exact hD⟩), rfl, q _ (I.hok.fresh (Nat.le_refl _))⟩
theorem Ml.other {d c M P : Addr} {B H : Hp} {xs : List V} {o : HO} (m : Ml d c B H M xs) (n : M ≠ P) : Ml d c B (upd H P o) M xs := ⟨(upd_ne n).trans m.at_, m.no, m.nd, m.nc⟩
section
variable {K : PySem.W.Frag} {σ : L2.St} {d c M : Addr} {B H : Hp} {te tf : TE} {R S T : Rel} {E : XK} {i j : Nat} {Q : VK}
/-- a number drawn below the length of a list that changes -/
theorem c_anyLen {xs : List V} (L : Dl B H d c) (hd : σ[i]? = some (some (.ref d))) (hm : σ[j]? = some (some (.ref M))) (m : Ml d c B H M xs) (pos : 0 < xs.length) (few : xs.length ≤ 1000) (k : ∀ (r : Nat) H', r < xs.length → ExtD d c B H B H' → Q (.int r) H') :
    tCall spAny [] E (tCons (tVar i) (tCons (tCB (rLen K) (tCons (tVar j) tNil)) tNil)) σ H Q :=
  ⟨.ref d, hd, .ref M, hm, .ref M, xs.length, rfl, .inl ⟨xs, SqL.of m.at_, rfl⟩, d, c, xs.length, rfl, L.deal, by omega, by omega, fun r H2 r0 r1 D2 S2 => by
    obtain ⟨n, rfl⟩ := Int.eq_ofNat_of_zero_le r0
    exact k n H2 (by omega) (.draw L D2 S2)⟩
theorem seqIx {n r : Nat} (h : r < n) : seqIndex? (r : Int) n = some r := by
  have z : ¬ ((r : Int) < 0) := by omega
  have q : (decide (0 ≤ (r : Int)) && decide ((r : Int) < n)) = true := by simp; omega
  simp only [seqIndex?, z, if_false, q, if_true]
  rfl
/-- pool.pop(a number drawn below its length) -/
theorem c_popAny {xs : List V} (L : Dl B H d c) (hd : σ[i]? = some (some (.ref d))) (hm : σ[j]? = some (some (.ref M))) (m : Ml d c B H M xs) (pos : 0 < xs.length) (few : xs.length ≤ 1000)
    (k : ∀ (r : Nat) x H', xs[r]? = some x → ExtD d c B H B H' → Ml d c B H' M xs → Q x (upd H' M (.lst (xs.eraseIdx r)))) :
    tBM K "list" rPopAt (tVar j) (tCons (tCall spAny [] E (tCons (tVar i) (tCons (tCB (rLen K) (tCons (tVar j) tNil)) tNil))) tNil) σ H Q :=
  ⟨.ref M, hm, .inl ⟨rfl, xs, SqL.of m.at_⟩, c_anyLen (K := K) L hd hm m pos few fun r H' hr e => by
    have m' := m.ext e
    exact ⟨M, xs, r, r, xs[r], rfl, rfl, m'.at_, by omega, by omega, seqIx hr, List.getElem?_eq_getElem hr, k r xs[r] H' (List.getElem?_eq_getElem hr) e m'⟩⟩
theorem c_tupL {v : V} {out : List PyData} (L : Dl B H d c) (h : dat K (.list out) B v) (k : ∀ u B' H', ExtD d c B H B' H' → dat K (.tuple out) B' u → Q u H') : rTup K [v] H Q := by
  obtain ⟨a, xs, rfl, hs, hR⟩ := dat_lstR h
  refine ⟨a, xs, rfl, .inl ⟨L.bh.seq hs, fun p hp => ?_⟩⟩
  have e := Ext.new (o := .tup xs) L.bh hp
  exact k _ _ _ (.of L e) (tupR_dat ⟨p, xs, rfl, SqT.of upd_same, MoA.mo e.bb hR⟩)
/-- what a list is, by what its items are -/
def listOf (P : List PyData → Prop) (x : PyData) : Prop := ∃ ds, x = .list ds ∧ P ds
def tupOf (P : List PyData → Prop) (x : PyData) : Prop := ∃ ds, x = .tuple ds ∧ P ds
theorem Dw.tupleL {P : List PyData → Prop} (h : Dw te σ d c B (datP K (listOf P))) : Dw (tCB (rTup K) (tCons te tNil)) σ d c B (datP K (tupOf P)) := fun B1 H s L Q k =>
  h B1 H s L _ fun v B2 H2 e ⟨x, ⟨ds, hx, hp⟩, hv⟩ => by
    subst hx
    exact c_tupL e.dl hv fun u B3 H3 e3 hu => k u B3 H3 (e.trans L e3) ⟨_, ⟨ds, rfl, hp⟩, hu⟩
/-- each item made of one that is walked, and of draws -/
def Each {α : Type} (P : α → PyData → Prop) (as : List α) (ds : List PyData) : Prop := ds.length = as.length ∧ ∀ (i : Nat) (a : α) (x : PyData), as[i]? = some a → ds[i]? = some x → P a x
theorem Each.snoc {α : Type} {P : α → PyData → Prop} {as : List α} {ds : List PyData} {a : α} {x : PyData} {i : Nat} (h : Each P (as.take i) ds) (ha : as[i]? = some a) (hx : P a x) : Each P (as.take (i + 1)) (ds ++ [x]) := by
  have tk : as.take (i + 1) = as.take i ++ [a] := by rw [List.take_succ, ha]; rfl
  have li : (as.take i).length = i := by
    have := (List.getElem?_eq_some_iff.mp ha).1
    rw [List.length_take]
    omega
  have ld : ds.length = i := h.1.trans li
  refine ⟨by rw [tk, List.length_append, List.length_append, h.1]; rfl, fun j b y hb hy => ?_⟩
  rw [tk] at hb
  by_cases hj : j < i
  · rw [List.getElem?_append_left (by omega)] at hb hy
    exact h.2 j b y hb hy
  · have e : j = i := by
      have := (List.getElem?_eq_some_iff.mp hy).1
      simp at this
      omega
    subst e
    rw [List.getElem?_append_right (by omega), li] at hb
    rw [List.getElem?_append_right (by omega), ld] at hy
    simp at hb hy
    subst hb
    subst hy
    exact hx
theorem Dw.lc {α : Type} {as : List α} {r : α → Rel} {wi : TI} {g : TG} {vs : List Nat} (P : α → PyData → Prop) (hi : Di wi σ B (as.map r)) (few : as.length < sizeLine)
    (turn : ∀ a v Bn, a ∈ as → Same B Bn → r a Bn v → ∃ σ2, (∀ Hn (Q : L2.St → Hp → Prop), Same Bn Hn → Q σ2 Hn → g v (wipe σ vs) Hn Q) ∧ wipe σ2 vs = wipe σ vs ∧ Dw te σ2 d c Bn (datP K (P a))) :
    Dw (tLc wi g tYes te vs) σ d c B (datP K (listOf (Each P as))) := fun B1 H s L Q k =>
  c_lcD (K := K) (as := as) (r := r) L (hi.mono s) few (fun i out => Each P (as.take i) out) ⟨rfl, fun i a x h => by simp at h⟩ (fun i a v B2 H2 out ha L2' s2 hv hE Y N hY hN => by
    obtain ⟨σ2, t1, t2, t3⟩ := turn a v B2 (List.mem_of_getElem? ha) (s.trans s2) hv
    refine t1 H2 _ L2'.bh ⟨t2, ?_⟩
    show te σ2 H2 Y
    exact t3 B2 H2 (Same.refl _) L2' _ fun y B4 H4 e4 ⟨x, hx, hy⟩ => hY y B4 H4 x e4 hy (hE.snoc ha hx)) fun out v B' H' e hE hv => k v B' H' e ⟨_, ⟨out, rfl, by rw [List.take_length] at hE; exact hE⟩, hv⟩
/-- parts of lists -/
def cutA {α : Type} (xs : List α) (lo hi : Option Int) : List α := (xs.drop (HT.sIx xs.length 0 lo)).take (HT.sIx xs.length xs.length hi - HT.sIx xs.length 0 lo)
theorem cutA_map {α β : Type} (f : α → β) (xs : List α) (lo hi : Option Int) : (cutA xs lo hi).map f = cutA (xs.map f) lo hi := by
  unfold cutA
  rw [List.map_take, List.map_drop, List.length_map]
theorem cutA_mem {α : Type} {xs : List α} {lo hi : Option Int} {x : α} (h : x ∈ cutA xs lo hi) : x ∈ xs := List.mem_of_mem_drop (List.mem_of_mem_take h)
theorem cutA_len {α : Type} (xs : List α) (lo hi : Option Int) : (cutA xs lo hi).length ≤ xs.length := by
  unfold cutA
  rw [List.length_take, List.length_drop]
  omega
theorem dpAll_take {K : PySem.W.Frag} {H : Hp} : ∀ {vs : List V} {ds : List PyData} (n : Nat), DpAll K H vs ds → DpAll K H (vs.take n) (ds.take n)
  | _, _, 0, _ => .nil
  | _, _, n + 1, .nil => .nil
  | _, _, n + 1, .cons h t => .cons h (dpAll_take n t)
theorem dpAll_drop {K : PySem.W.Frag} {H : Hp} : ∀ {vs : List V} {ds : List PyData} (n : Nat), DpAll K H vs ds → DpAll K H (vs.drop n) (ds.drop n)
  | _, _, 0, h => h
  | _, _, n + 1, .nil => .nil
  | _, _, n + 1, .cons _ t => dpAll_drop n t
theorem De.slL {ds : List PyData} {tl th : TO} {lo hi : Option Int} (h : De te σ B (dat K (.list ds))) (h1 : Do tl σ B lo) (h2 : Do th σ B hi) : De (L2.tSl (rSlL K) te tl th) σ B (dat K (.list (cutA ds lo hi))) :=
  .sl h h1 h2 fun x B1 H s1 s2 hx Q q => by
    obtain ⟨a, xs, rfl, hs, hR⟩ := dat_lstR hx
    refine ⟨a, xs, rfl, s2.seq hs, fun p hp => q _ (upd B1 p (.lst (cutV xs lo hi))) _ (.new s2 hp) ?_⟩
    have g := allR_dp hR
    have len : xs.length = ds.length := dpAll_len g
    refine .lst (SqL.of upd_same) (dpMonoAll (new_same (s2.free hp)) _ _ ?_)
    unfold cutV cutA
    rw [len]
    exact dpAll_take _ (dpAll_drop _ g)
end
end Wv

set_option Elab.async false
set_option linter.all false
set_option maxRecDepth 100000
set_option maxHeartbeats 4000000
/-! Wx2: lists turned, tuples cut. -/
namespace Wv
open PySem PySem.Spec PyProof.Rows L2 Wb
theorem dpAll_rev {K : PySem.W.Frag} {B : Hp} : ∀ {vs : List V} {ds : List PyData}, DpAll K B vs ds → DpAll K B vs.reverse ds.reverse
  | _, _, .nil => .nil
  | _, _, .cons h t => by
    rw [List.reverse_cons, List.reverse_cons]
    exact dpAll_app (dpAll_rev t) (.cons h .nil)
section
variable {K : PySem.W.Frag} {σ : L2.St} {B H : Hp} {te : TE}
theorem De.revL {ds : List PyData} (h : De te σ B (dat K (.list ds))) : De (tRevL K te) σ B (dat K (.list ds.reverse)) := fun B1 H s1 s2 Q q => h B1 H s1 s2 _ fun v B2 H2 e hv => by
  obtain ⟨p, xs, rfl, hs, hR⟩ := dat_lstR hv
  exact ⟨p, xs, rfl, e.bh.seq hs, fun p2 hp2 => q _ _ _ (e.trans (Ext.new e.bh hp2)) (.lst (SqL.of upd_same) (dpMonoAll (new_same (e.bh.free hp2)) _ _ (dpAll_rev (allR_dp hR))))⟩
theorem De.slT {ds : List PyData} {tl th : TO} {lo hi : Option Int} (h : De te σ B (dat K (.tuple ds))) (h1 : Do tl σ B lo) (h2 : Do th σ B hi) : De (L2.tSl (rSlA K) te tl th) σ B (dat K (.tuple (cutA ds lo hi))) :=
  .sl h h1 h2 fun x B1 H s1 s2 hx Q q => by
    have hx0 := hx
    obtain ⟨a, xs, rfl, hs, hR⟩ := dat_tupR hx
    have g := allR_dp hR
    have len : xs.length = ds.length := dpAll_len g
    refine ⟨a, xs, rfl, seqT s2 hs, fun hw => q _ B1 H (.refl s2) ?_, fun _ p hp => q _ (upd B1 p (.tup (cutV xs lo hi))) _ (.new s2 hp) ?_⟩
    · have : cutA ds lo hi = ds := by
        unfold cutA
        rw [← len, hw.1, hw.2, List.drop_zero, Nat.sub_zero, len]
        exact List.take_length
      rw [this]
      exact hx0
    · refine .tup (SqT.of upd_same) (dpMonoAll (new_same (s2.free hp)) _ _ ?_)
      unfold cutV cutA
      rw [len]
      exact dpAll_take _ (dpAll_drop _ g)
theorem cutA_init {α : Type} (xs : List α) (x : α) : cutA (xs ++ [x]) none (some (-1)) = xs := by
  unfold cutA
  rw [HT.sIx_none, Nat.sub_zero, List.drop_zero]
  have : HT.sIx (xs ++ [x]).length (xs ++ [x]).length (some (-1)) = xs.length := by
    show (if (-1 : Int) < 0 then ((-1 : Int) + (((xs ++ [x]).length : Nat) : Int)).toNat else min (-1 : Int).toNat (xs ++ [x]).length) = _
    rw [if_pos (by decide), List.length_append]
    show ((-1 : Int) + ((xs.length + 1 : Nat) : Int)).toNat = _
    omega
  rw [this, List.take_left']
  rfl
end
end Wv

set_option Elab.async false
set_option linter.all false
set_option maxRecDepth 100000
set_option maxHeartbeats 4000000
/-! Wx3: tuples of numbers compared, texts compared, is None. -/
namespace Wv
open PySem PySem.Spec PyProof.Rows L2 Wb
theorem lexAt_shift {e r : Nat → Bool} {z : Bool} : ∀ (k i : Nat), Ob.lexAt e r z (i + 1) k = Ob.lexAt (fun j => e (j + 1)) (fun j => r (j + 1)) z i k
  | 0, _ => rfl
  | k + 1, i => by
    rw [Ob.lexAt_succ, Ob.lexAt_succ, lexAt_shift k (i + 1)]
theorem lexAt_le : ∀ ns ms : List Int, Ob.lexAt (fun j => decide (ns.getD j 0 = ms.getD j 0)) (fun j => decide (ns.getD j 0 ≤ ms.getD j 0)) (decide (ns.length ≤ ms.length)) 0 (min ns.length ms.length) = decide (ns ≤ ms)
  | [], ms => by
    rw [List.length_nil, Nat.zero_min, Ob.lexAt_zero]
    simp
  | n :: ns, [] => by
    rw [List.length_nil, Nat.min_zero, Ob.lexAt_zero]
    simp
  | n :: ns, m :: ms => by
    have ih := lexAt_le ns ms
    rw [List.length_cons, List.length_cons, Nat.succ_min_succ, Ob.lexAt_succ, lexAt_shift]
    simp only [List.getD_cons_zero, List.getD_cons_succ, Nat.add_le_add_iff_right]
    rw [ih]
    by_cases h : n = m
    · subst h
      simp [List.cons_le_cons_iff]
    · have : (n :: ns ≤ m :: ms) ↔ n ≤ m := by
        rw [List.cons_le_cons_iff]
        constructor
        · rintro (h1 | h1)
          · omega
          · exact absurd h1.1 h
        · intro h1
          exact .inl (by omega)
      simp [h, this]
section
variable {K : PySem.W.Frag} {σ : L2.St} {B H : Hp} {te ta : TE}
theorem s_skip' {tt : TT} {t : TS} {D : Ends} (h : Dt tt σ B false) (hB : Same B H) (k : ∀ B' H', Ext B H B' H' → D.nx σ H') : tIfS tt t tNext D σ H := s_if h hB (fun z => nomatch z) fun _ => k
theorem ints_vals {K : PySem.W.Frag} {B : Hp} : ∀ {w : List Int} {xs : List V}, DpAll K B xs (w.map .int) → xs = w.map V.int
  | [], _, .nil => rfl
  | i :: w, _, .cons h t => by
    cases h
    rw [List.map_cons, ints_vals t]
theorem Rv.leT {a b : List Int} : Rv (rLeT K) B (dat K (.tuple (a.map .int))) (dat K (.tuple (b.map .int))) (dat K (.bool (decide (a ≤ b)))) := fun x y B1 H _ s2 hx hy Q q => by
  cases hx with
  | tup hs hd =>
    cases hy with
    | tup hs2 hd2 =>
      refine ⟨_, _, a, b, rfl, rfl, ints_vals hd ▸ seqT s2 hs, ints_vals hd2 ▸ seqT s2 hs2, ?_⟩
      rw [lexAt_le]
      exact q _ B1 H (.refl s2) (.bl _)
theorem Rv.gtS {a b : Str} : Rv (fun x y H Q => ∃ i j, x = .str i ∧ y = .str j ∧ Q (.bl (decide (j.cps.toList < i.cps.toList))) H) B (dat K (.str a)) (dat K (.str b)) (dat K (.bool (decide (b.cps.toList < a.cps.toList)))) := fun x y B1 H _ s2 hx hy Q q =>
  ⟨a, b, dat_str hx, dat_str hy, q _ B1 H (.refl s2) (.bl _)⟩
theorem Rv.isNone : Rv (fun x y H Q => y = .non ∧ Q (.bl (decide (x = .non))) H) B (dat K .none) (dat K .none) (dat K (.bool true)) := fun x y B1 H _ s2 hx hy Q q => by
  cases hx
  cases hy
  exact ⟨rfl, q _ B1 H (.refl s2) (.bl _)⟩
end
end Wv

set_option Elab.async false
set_option linter.all false
set_option maxRecDepth 100000
set_option maxHeartbeats 4000000
/-! Wx4: a thing put into a list at a drawn place. -/
namespace Wv
open PySem PySem.Spec PyProof.Rows L2 Wb
abbrev rIns : V → List V → Hp → VK → Prop := fun x vs H Q => ∃ (l : Addr) (xs : List V) (i : Int) (y : V), x = .ref l ∧ vs = [.int i, y] ∧ H l = some (.lst xs) ∧ xs.length < sizeLine ∧ 0 ≤ i ∧ i < 2 ^ 63 ∧
    Q .non (upd H l (.lst (xs.take i.toNat ++ [y] ++ xs.drop i.toNat)))
section
variable {K : PySem.W.Frag} {σ : L2.St} {d c M : Addr} {B H : Hp} {E : XK} {i j n : Nat} {Q : VK}
theorem s_drop {te : TE} {rest : TS} {D : Ends} (h : te σ H fun _ H' => rest D σ H') : tSeq (tDrop te) rest D σ H := h
theorem s_dropE {te : TE} {D : Ends} (h : te σ H fun _ H' => D.nx σ H') : tDrop te D σ H := h
theorem c_insAny {xs : List V} {v : V} (L : Dl B H d c) (hd : σ[i]? = some (some (.ref d))) (hm : σ[j]? = some (some (.ref M))) (m : Ml d c B H M xs) (few : xs.length ≤ 1000) (hv : σ[n]? = some (some v))
    (k : ∀ (r : Nat) H', ExtD d c B H B H' → Ml d c B H' M xs → Q .non (upd H' M (.lst (xs.take r ++ [v] ++ xs.drop r)))) :
    tBM K "list" rIns (tVar j) (tCons (tCall spAny [] E (tCons (tVar i) (tCons (tOp (rI0 fun i j => V.int (i + j)) (tCB (rLen K) (tCons (tVar j) tNil)) (tC (.int 1))) tNil))) (tCons (tVar n) tNil)) σ H Q :=
  ⟨.ref M, hm, .inl ⟨rfl, xs, SqL.of m.at_⟩, .ref d, hd, .ref M, hm, .ref M, xs.length, rfl, .inl ⟨xs, SqL.of m.at_, rfl⟩, _, _, rfl, rfl, d, c, (xs.length : Int) + 1, rfl, L.deal, by omega, by omega, fun r H2 r0 r1 D2 S2 => by
    have e : ExtD d c B H B H2 := .draw L D2 S2
    have m' := m.ext e
    have := k r.toNat H2 e m'
    exact ⟨v, hv, M, xs, r, v, rfl, rfl, m'.at_, by rw [sizeLine_eq]; omega, r0, by omega, this⟩⟩
end
end Wv

set_option Elab.async false
set_option linter.all false
set_option maxRecDepth 100000
set_option maxHeartbeats 4000000
/-! Wx5: tests while the deal is drawn from, whose outcome is told. -/
namespace Wv
open PySem PySem.Spec PyProof.Rows L2 Wb
def Dwt (tt : TT) (σ : L2.St) (d c : Addr) (B : Hp) (b : Bool) : Prop := ∀ B1 H, Same B B1 → Dl B1 H d c → ∀ Q : Bool → Hp → Prop, (∀ B' H', ExtD d c B1 H B' H' → Q b H') → tt σ H Q
section
variable {K : PySem.W.Frag} {σ : L2.St} {d c : Addr} {B B' H : Hp} {te ta tb : TE} {tt tu : TT} {R S T : Rel} {D : Ends} {rest t u : TS}
theorem Dwt.of {b : Bool} (h : Dt tt σ B b) : Dwt tt σ d c B b := fun B1 H s L Q k => h B1 H s L.bh Q fun B' H' e => k B' H' (.of L e)
theorem Dwt.mono {b : Bool} (s : Same B B') (h : Dwt tt σ d c B b) : Dwt tt σ d c B' b := fun B1 H s1 L => h B1 H (s.trans s1) L
theorem Dwt.test {b : Bool} (h : Dw te σ d c B (dat K (.bool b))) : Dwt (tTest te) σ d c B b := fun B1 H s L Q k => h B1 H s L _ fun v B' H' e hv => ⟨b, dat_bl hv, k B' H' e⟩
theorem Dwt.tB {b : Bool} (h : Dw te σ d c B (dat K (.bool b))) : Dwt (tB te) σ d c B b := fun B1 H s L Q k => h B1 H s L _ fun v B' H' e hv => ⟨b, dat_bl hv, k B' H' e⟩
theorem Dwt.not {a : Bool} (h : Dwt tt σ d c B a) : Dwt (tNot tt) σ d c B (!a) := fun B1 H s L Q k => h B1 H s L _ k
theorem Dwt.eq {a b : Bool} (h : Dwt tt σ d c B a) (z : a = b) : Dwt tt σ d c B b := z ▸ h
theorem Dwt.or {a b : Bool} (h1 : Dwt tt σ d c B a) (h2 : a = false → Dwt tu σ d c B b) : Dwt (tOr tt tu) σ d c B (a || b) := fun B1 H s L Q k => h1 B1 H s L _ fun B2 H2 e => by
  cases a with
  | true => exact k B2 H2 e
  | false => exact h2 rfl B2 H2 (s.trans e.bb) e.dl Q fun B3 H3 e3 => k B3 H3 (e.trans L e3)
theorem s_skipW (L : Dl B H d c) (h : Dwt tt σ d c B false) (k : ∀ B' H', ExtD d c B H B' H' → rest D σ H') : tSeq (tIfS tt t tNext) rest D σ H := h B H (Same.refl _) L _ fun B' H' e => k B' H' e
end
end Wv

set_option Elab.async false
set_option linter.all false
set_option maxRecDepth 100000
set_option maxHeartbeats 4000000
/-! Wn0: dicts whose keys are tuples of any depth. -/
namespace Wb
open PySem PySem.Spec PyProof.Rows L2
abbrev NK (P : Program) (w : World) : HeapKind P w NestedKey := nestedKind P w
/-- an entry: its key, where the key stands, its value -/
abbrev Nen := NestedKey × Addr × V
def NV : List Nen → List (NestedKey × Addr × Value) → Prop := Paired fun p q => p.1 = q.1 ∧ p.2.1 = q.2.1 ∧ RelV p.2.2 q.2.2
def NdiH (P : Program) (w : World) (a : Addr) (l : List Nen) (h : Heap) : Prop := l.length ≤ sizeLine ∧ (a == sysModules) = false ∧ ∃ us, NV l us ∧ ∃ o es ep, h.get? a = some o ∧ o.ExactDict ∧ o.data = .dict es ep ∧ es.toList = us.map (entryOfKey (NK P w)) ∧ (us.map (·.1)).Nodup
/-- the dict at a -/
def NdiO (P : Program) (w : World) (a : Addr) (l : List Nen) : HO := .ext (NdiH P w a l)
def NkAt (K : PySem.W.Frag) (H : Hp) (k : NestedKey) (b : Addr) : Prop := Dp K H (.ref b) k.data ∧ k.depth ≤ 8
def NksAt (K : PySem.W.Frag) (H : Hp) (l : List Nen) : Prop := ∀ p ∈ l, NkAt K H p.1 p.2.1
def atN (l : List Nen) (k : NestedKey) : Option V := (l.find? fun p => decide (p.1 = k)).map (·.2.2)
def putN (l : List Nen) (k : NestedKey) (b : Addr) (v : V) : List Nen := if (atN l k).isSome = true then l.map (fun p => if p.1 = k then (p.1, p.2.1, v) else p) else l ++ [(k, b, v)]
theorem ndi_new {P : Program} {w : World} {H : Hp} {h : Heap} {a : Addr} {l : List Nen} (R : NdiH P w a l h) : ObjOk P w H h a (NdiO P w a l) := by
  have ⟨_, _, _, _, o, _, _, ho, _⟩ := R
  refine ⟨R, ⟨o, ho⟩, fun g1 g2 z keep => ?_⟩
  obtain ⟨c1, c2, us, r, o, es, ep, ho, rest⟩ := z
  exact ⟨c1, c2, us, r, o, es, ep, keep o ho, rest⟩
theorem NV.at_ {l : List Nen} {us : List (NestedKey × Addr × Value)} (r : NV l us) (k : NestedKey) : RelO (atN l k) ((atKey us k).map (·.2)) := by
  unfold NV at r
  induction r with
  | nil => exact True.intro
  | @cons p q ps qs h t ih =>
    obtain ⟨h1, _, h2⟩ := h
    by_cases e : p.1 = k
    · have b : atKey (q :: qs) k = some q.2 := by simp [atKey, List.find?_cons, h1.symm.trans e]
      have c : atN (p :: ps) k = some p.2.2 := by simp [atN, List.find?_cons, e]
      rw [c, b]
      exact h2
    · have b : atKey (q :: qs) k = atKey qs k := by simp [atKey, List.find?_cons, show ¬ q.1 = k from fun z => e (h1.trans z)]
      have c : atN (p :: ps) k = atN ps k := by simp [atN, List.find?_cons, e]
      rw [c, b]
      exact ih
theorem NV.repl {l : List Nen} {us : List (NestedKey × Addr × Value)} (r : NV l us) (k : NestedKey) {y : V} {u : Value} (ry : RelV y u) :
    NV (l.map fun p => if p.1 = k then (p.1, p.2.1, y) else p) (us.map (putAt k u)) := by
  unfold NV at *
  induction r with
  | nil => exact .nil
  | @cons p q ps qs h t ih =>
    rw [List.map_cons, List.map_cons]
    refine .cons ?_ ih
    obtain ⟨h1, h2, h3⟩ := h
    unfold putAt
    by_cases e : p.1 = k
    · rw [if_pos e, if_pos (h1.symm.trans e)]
      exact ⟨h1, h2, ry⟩
    · rw [if_neg e, if_neg (fun z => e (h1.trans z))]
      exact ⟨h1, h2, h3⟩
theorem NV.put {l : List Nen} {us : List (NestedKey × Addr × Value)} (r : NV l us) (k : NestedKey) {b : Addr} {y : V} {u : Value} (ry : RelV y u) : NV (putN l k b y) (storedH us k b u) := by
  have e : (atN l k).isSome = (atKey us k).isSome := by rw [(r.at_ k).isSome_eq, Option.isSome_map]
  unfold putN storedH
  rw [e]
  by_cases q : (atKey us k).isSome = true
  · rw [if_pos q, if_pos q]
    exact r.repl k ry
  · rw [if_neg q, if_neg q]
    exact Paired.snoc r ⟨rfl, rfl, ry⟩
theorem len_putN (l : List Nen) (k : NestedKey) (b : Addr) (v : V) : (putN l k b v).length ≤ l.length + 1 := by
  unfold putN
  split
  · rw [List.length_map]
    omega
  · simp
theorem NkAt.same {K : PySem.W.Frag} {H H' : Hp} {k : NestedKey} {b : Addr} (h : NkAt K H k b) (s : Same H H') : NkAt K H' k b := ⟨dpMono s _ _ h.1, h.2⟩
section
variable {X : Cx} {pins : List (Addr × Obj)} {σ : L2.St} {H : Hp} {s : Shared} {a b : Addr} {l : List Nen} {k : NestedKey} {A : Around} {E : Value → Shared → Prop}
mutual
theorem dp_nested (I : Inv X pins σ H s) : ∀ (k : NestedKey) (v : V) (u : Value), Dp X.K H v k.data → RelV v u → NestedIs s.heap k u
  | .none, _, _, h, r => by
    rw [NestedKey.data] at h
    cases h
    cases r
    exact .none
  | .num i, _, _, h, r => by
    rw [NestedKey.data] at h
    cases h
    obtain ⟨t, rfl⟩ := r
    exact .int i t
  | .text x, _, _, h, r => by
    rw [NestedKey.data] at h
    cases h
    obtain ⟨t, rfl⟩ := r
    exact .text x t
  | .tup ks, _, _, h, r => by
    rw [NestedKey.data] at h
    cases h with
    | tup hs hd =>
      cases r
      obtain ⟨its, rv, ⟨o, ho, hc, n, hdt⟩, _⟩ := I.tuple hs
      exact .tup ho hc hdt (by simpa using dp_nesteds I ks _ its hd rv)
theorem dp_nesteds (I : Inv X pins σ H s) : ∀ (ks : List NestedKey) (vs : List V) (us : List Value), DpAll X.K H vs (NestedKey.datas ks) → Vals vs us → NestedAll s.heap ks us
  | [], _, _, h, r => by
    rw [NestedKey.datas] at h
    cases h
    cases r
    exact .nil
  | k :: ks, _, _, h, r => by
    rw [NestedKey.datas] at h
    cases h with
    | cons h1 h2 =>
      cases r with
      | cons r1 r2 => exact .cons (dp_nested I k _ _ h1 r1) (dp_nesteds I ks _ _ h2 r2)
end
theorem nk_is (I : Inv X pins σ H s) (h : NkAt X.K H k b) : (NK X.prog X.w).is s.heap k b := ⟨dp_nested I k (.ref b) (.ref b) h.1 rfl, h.2⟩
theorem ndi_of (I : Inv X pins σ H s) (ha : H a = some (NdiO X.prog X.w a l)) (hk : NksAt X.K H l) : l.length ≤ sizeLine ∧ (a == sysModules) = false ∧ ∃ us, NV l us ∧ s.heap.DictOfH (NK X.prog X.w) a us := by
  obtain ⟨z, y, us, r, o, es, ep, h1, h2, h3, h4, h5⟩ := (I.hok a _ ha).1
  refine ⟨z, y, us, r, o, es, ep, h1, h2, h3, h4, fun x hx => ?_, h5⟩
  have all : ∀ {l : List Nen} {m : List (NestedKey × Addr × Value)}, NV l m → (∀ p ∈ l, NkAt X.K H p.1 p.2.1) → ∀ x ∈ m, (NK X.prog X.w).is s.heap x.1 x.2.1 := by
    intro l m q hl
    unfold NV at q
    induction q with
    | nil => intro x hx; exact nomatch hx
    | @cons p q ps qs hq t ih =>
      intro x hx
      rcases List.mem_cons.mp hx with e | hx
      · subst e
        rw [← hq.1, ← hq.2.1]
        exact nk_is I (hl p List.mem_cons_self)
      · exact ih (fun p hp => hl p (List.mem_cons_of_mem _ hp)) x hx
  exact all r hk x hx
/-- what a comprehension does with a key and a value -/
theorem n_dictSet {v : V} {r : Value} {Q : Unit → Shared → Prop} (hu : A.units + 8 < cLine) (I : Inv X pins σ H s) (ha : H a = some (NdiO X.prog X.w a l)) (hk : NksAt X.K H l) (hb : NkAt X.K H k b) (few : l.length < sizeLine) (rv : RelV v r)
    (h : ∀ s', Inv X pins σ (upd H a (NdiO X.prog X.w a (putN l k b v))) s' → Q () s') : wpAny (model X.prog X.w) A (dictSet a (.ref b) r) Q E s := by
  obtain ⟨z, hd, us, rel, dd⟩ := ndi_of I ha hk
  have hz : us.length ≤ sizeLine := by rw [← Paired.length rel]; exact z
  have hl : (putN l k b v).length ≤ sizeLine := by have := len_putN l k b v; omega
  refine wpAny_dictSet_heap (hsz := hz) hu (nk_is I hb) dd fun h' dd' hs => h _ ?_
  obtain ⟨q, es, ep, hq, h2, h3, h4, _, h5⟩ := dd'
  exact d_write I (by rw [ha]; exact True.intro) hs ⟨q, hq⟩ (ndi_new ⟨hl, hd, _, rel.put k rv, q, es, ep, hq, h2, h3, h4, h5⟩)
theorem n_in {Q : Value → Shared → Prop} (hu : A.in1.units + 8 < cLine) (I : Inv X pins σ H s) (ha : H a = some (NdiO X.prog X.w a l)) (hk : NksAt X.K H l) (hb : NkAt X.K H k b) (h : ∀ s', Inv X pins σ H s' → Q (.bool (atN l k).isSome) s') :
    wpAny (model X.prog X.w) A (compareOp .In (.ref b) (.ref a)) Q E s := by
  obtain ⟨z, hd, us, rel, dd⟩ := ndi_of I ha hk
  refine wpAny_in_heap hu (nk_is I hb) hd dd ?_
  have q := (rel.at_ k).isSome_eq
  rw [Option.isSome_map] at q
  rw [← q]
  exact h _ (I.tok _)
theorem n_notIn {Q : Value → Shared → Prop} (hu : A.in1.units + 8 < cLine) (I : Inv X pins σ H s) (ha : H a = some (NdiO X.prog X.w a l)) (hk : NksAt X.K H l) (hb : NkAt X.K H k b) (h : ∀ s', Inv X pins σ H s' → Q (.bool (!(atN l k).isSome)) s') :
    wpAny (model X.prog X.w) A (compareOp .NotIn (.ref b) (.ref a)) Q E s := by
  obtain ⟨z, hd, us, rel, dd⟩ := ndi_of I ha hk
  refine wpAny_notIn_heap hu (nk_is I hb) hd dd ?_
  have q := (rel.at_ k).isSome_eq
  rw [Option.isSome_map] at q
  rw [← q]
  exact h _ (I.tok _)
end
/-- y in d, y not in d -/
def rNIn (K : PySem.W.Frag) (P : Program) (w : World) (neg : Bool) : R2 := fun y x H Q => ∃ a b l k, x = .ref a ∧ y = .ref b ∧ H a = some (NdiO P w a l) ∧ NksAt K H l ∧ NkAt K H k b ∧ Q (.bl (if neg = true then !(atN l k).isSome else (atN l k).isSome)) H
section
variable {X : Cx}
theorem op_nin (hu : X.A.in1.units + 8 < cLine) : OpR X (compareOp .In) (rNIn X.K X.prog X.w false) := by
  intro pins s σ H x y v u Q I rx ry h
  obtain ⟨a, b, l, k, rfl, rfl, ha, hk, hb, q⟩ := h
  cases rx
  cases ry
  exact n_in hu I ha hk hb fun s' I' => ⟨.bl (atN l k).isSome, H, I', rfl, q⟩
theorem op_nnotIn (hu : X.A.in1.units + 8 < cLine) : OpR X (compareOp .NotIn) (rNIn X.K X.prog X.w true) := by
  intro pins s σ H x y v u Q I rx ry h
  obtain ⟨a, b, l, k, rfl, rfl, ha, hk, hb, q⟩ := h
  cases rx
  cases ry
  exact n_notIn hu I ha hk hb fun s' I' => ⟨.bl (!(atN l k).isSome), H, I', rfl, q⟩
end
end Wb

set_option Elab.async false
set_option linter.all false
set_option maxRecDepth 100000
set_option maxHeartbeats 4000000
/-! Wn1: a dict made of an iteration, its keys tuples of any depth. -/
namespace Wb
open PySem PySem.Spec PyProof.Rows L2
/-- what a turn must leave: an entry more in the dict at D, or nothing -/
def Turned (K : PySem.W.Frag) (P : Program) (w : World) (D : Addr) (g : TG) (tt : TT) (tk tv : TE) (vs : List Nat) (σ : L2.St) (x : V) (G : Hp) (Nx : Hp → Prop) : Prop :=
  g x (wipe σ vs) G fun τ G1 => wipe τ vs = wipe σ vs ∧ tt τ G1 fun b G2 => if b = true then
    tk τ G2 fun y G3 => tv τ G3 fun z G4 => ∃ l k at_, y = .ref at_ ∧ G4 D = some (NdiO P w D l) ∧ NksAt K G4 l ∧ NkAt K G4 k at_ ∧ l.length < sizeLine ∧ Nx (upd G4 D (NdiO P w D (putN l k at_ z)))
  else Nx G2
/-- {k: v for .. in ..} -/
def tDcN (K : PySem.W.Frag) (P : Program) (w : World) (wi : TI) (g : TG) (tt : TT) (tk tv : TE) (vs : List Nat) : TE := fun σ H Q => wi σ H fun J G => ∀ D, G D = none → ∃ W : Nat → Nat → Hp → Prop, (∃ m, W 0 m (upd G D (NdiO P w D []))) ∧
  ∀ i m G, W i m G → (J.stop i G ∧ Q (.ref D) G) ∨ (J.go i G ∧ ∃ Nx : Hp → Prop, (∀ G', Nx G' → ∃ m', m' < m ∧ W (i + 1) m' G') ∧ ∀ x G', J.yld i G x G' → Turned K P w D g tt tk tv vs σ x G' Nx)
section
variable {X : Cx} {kx vx tg iter : Expr} {ifs : List Expr} {scope : Scope} {own : List (Str × Nat)} {pos pos' : Pos} {wi : TI} {g : TG} {tt : TT} {tk tv : TE}
/-- the parts of such a comprehension, read in any block of it -/
structure DcParts (X : Cx) (scope : Scope) (kx vx tg : Expr) (ifs : List Expr) (g : TG) (tt : TT) (tk tv : TE) : Prop where
  pg : ∀ (u : Shared) (G : Hp) (C : Addr) (cl : List (Str × Addr)) (fp : List Addr), PG (X.blk u G scope (compEnvC scope cl C X.env) fp) tg g
  pt : ∀ (u : Shared) (G : Hp) (C : Addr) (cl : List (Str × Addr)) (fp : List Addr), PTs (X.blk u G scope (compEnvC scope cl C X.env) fp) ifs tt
  pk : ∀ (u : Shared) (G : Hp) (C : Addr) (cl : List (Str × Addr)) (fp : List Addr), PE (X.blk u G scope (compEnvC scope cl C X.env) fp) kx tk
  pv : ∀ (u : Shared) (G : Hp) (C : Addr) (cl : List (Str × Addr)) (fp : List Addr), PE (X.blk u G scope (compEnvC scope cl C X.env) fp) vx tv
theorem ndi_empty {P : Program} {w : World} {G : Hp} (h : Heap) (big : sysModules < h.objs.size) : ObjOk P w G (h.push { cls := .type "dict", data := .dict #[] }) h.objs.size (NdiO P w h.objs.size []) :=
  ndi_new ⟨Nat.zero_le _, beq_eq_false_iff_ne.mpr (Ne.symm (Nat.ne_of_lt big)), [], .nil, _, #[], 0, Heap.get?_push_size _ rfl, ⟨rfl, rfl, rfl⟩, rfl, rfl, List.nodup_nil⟩
theorem dcN_core {pins : List (Addr × Obj)} {s : Shared} {σ : L2.St} {H : Hp} {Q : VK} {use : Option (Value → Sem Unit)} {Qf : Value → Shared → Prop} (calm : X.calm = true) (room : X.A.units + 8 < cLine) (nd : X.N.Nodup) (I : Inv X pins σ H s) (hi : PI X tg iter wi)
    (ok : BlkOk X.N X.env.scope scope own) (ps : DcParts X scope kx vx tg ifs g tt tk tv) (fold : ∀ x, foldedSetIterable iter X.env x = pure x) (h : tDcN X.K X.prog X.w wi g tt tk tv (own.map (·.2)) σ H Q)
    (post : ∀ D C u m G, Inv X pins σ G u → Q (.ref D) G → u.heap.Ns C m → FpOk X pins G C → compPost (model X.prog X.w) X.A X.xe use Qf (.ref D) C (.ok .next) u) :
    wpAny (model X.prog X.w) X.A (comprehension (.DictComp kx vx [⟨tg, iter, ifs, 0⟩] scope pos) scope X.env pos' newDict false (eval iter X.env) use) Qf X.xe s := by
  have cells : ∀ y ∈ scope.names, y.2 = .free → ∃ c, X.env.cells.lookup y.1 = some c := fun y hy free => (ok.free y hy free).elim (fun k => I.ok.has _ (.inl k)) fun k => I.ok.has _ (.inr k)
  refine wpAny_comprehension_free (use := use) rfl fold (closure_ok cells) ok.kind (fun y hy free => by rw [ok.uniq y hy, free]) (thn (hi.run pins s σ H _ I h) fun _ u1 w1 => thn w1 fun _ u2 w2 => ?_)
  obtain ⟨it, fp, tn, J, G0, rfl, J0, T, start, apart, k⟩ := w2
  refine wpAny_newObj_type (newEnv_comp ?_)
  -- where the new dict stands
  obtain ⟨D, eD⟩ : ∃ D, u2.heap.objs.size = D := ⟨_, rfl⟩
  have free0 : G0 D = none := J0.hok.fresh (Nat.le_of_eq eD)
  obtain ⟨W, ⟨n0, first⟩, turns⟩ := k D free0
  obtain ⟨u3, e3⟩ : ∃ u3 : Shared, ({ u2 with heap := u2.heap.push { cls := .type "dict", data := .dict #[] } } : Shared) = u3 := ⟨_, rfl⟩
  have J3 : Inv X pins σ (upd G0 D (NdiO X.prog X.w D [])) u3 := by
    rw [← e3, ← eD]
    exact J0.laid (t' := u2.toks) (fun _ _ z => Heap.get?_push_of_some _ z) (Nat.le_refl _) (ndi_empty u2.heap J0.big)
  rw [e3]
  have hp3 : u3.heap = u2.heap.push { cls := .type "dict", data := .dict #[] } := by rw [← e3]
  have lt2 : ∀ b ∈ fp, b < u2.heap.objs.size := fun b hb => let ⟨_, z, _⟩ := T.obj _ _ start b hb; Heap.lt_size z
  generalize eG : upd G0 D (NdiO X.prog X.w D []) = G3 at J3 first
  have apart3 : ∀ b ∈ fp, FpOk X pins G3 b ∧ b < u3.heap.objs.size := fun b hb => by
    have l := lt2 b hb
    refine ⟨⟨?_, (apart b hb).2⟩, by rw [hp3, Heap.size_push]; exact Nat.lt_succ_of_lt l⟩
    rw [← eG, upd_ne (eD ▸ Nat.ne_of_lt l)]
    exact (apart b hb).1
  have start3 : tn 0 u3.heap := T.keep _ _ _ start fun b _ o z => by rw [hp3]; exact Heap.get?_push_of_some _ z
  have J4 := block_start J3 ok nd apart3
  obtain ⟨cl, ecl⟩ : ∃ cl, cellsFrom (u3.heap.objs.size + 1) scope.names (cloFrom X.env.cells scope.names []) = cl := ⟨_, rfl⟩
  obtain ⟨ce, ece⟩ : ∃ ce, compEnvC scope cl u3.heap.objs.size X.env = ce := ⟨_, rfl⟩
  have bg := ps.pg u3 G3 u3.heap.objs.size cl fp
  have bt := ps.pt u3 G3 u3.heap.objs.size cl fp
  have bk := ps.pk u3 G3 u3.heap.objs.size cl fp
  have bv := ps.pv u3 G3 u3.heap.objs.size cl fp
  rw [ecl] at J4
  rw [ece] at J4 bg bt bk bv
  have loc : ce.locals = u3.heap.objs.size := by rw [← ece]; rfl
  have none3 : ∀ b ∈ fp, G3 b = none := fun b hb => (apart3 b hb).1.1
  obtain ⟨u4, e4⟩ : ∃ u4 : Shared, ({ u3 with heap := pushCells (u3.heap.push { cls := .type "dict", data := .dict #[] }) scope.names } : Shared) = u4 := ⟨_, rfl⟩
  suffices go : codeAny (model X.prog X.w) X.A (.compStart (.DictComp kx vx [⟨tg, iter, ifs, 0⟩] scope pos) 0 (.ref it) (.ref D) ce) (compPost (model X.prog X.w) X.A X.xe use Qf (.ref D) u3.heap.objs.size) u4 by
    rw [← e4, ← ece, ← ecl] at go
    rw [eD]
    exact go
  rw [e4] at J4
  have start4 : tn 0 u4.heap := T.keep _ _ _ start3 fun b _ o z => by rw [← e4]; exact pushCells_keeps _ _ _ _ (Heap.get?_push_of_some _ z)
  -- what the iteration stands on stays apart from the block
  have still : ∀ {τ : L2.St} {G : Hp} {u : Shared}, Inv (X.blk u3 G3 scope ce fp) [] τ G u → (∀ b ∈ fp, G b = none) → ∀ b ∈ fp, FpOk (X.blk u3 G3 scope ce fp) [] G b := fun {τ G u} J' no b hb =>
    ⟨no b hb, (J'.ok.exf b hb).1, J'.ok.exfs b hb, .inl hb, fun x c z => (J'.ok.exf b hb).2 x c z, fun p hp => by simp at hp⟩
  have looped : codeAny (model X.prog X.w) X.A (.compLoop (.DictComp kx vx [⟨tg, iter, ifs, 0⟩] scope pos) 0 (.ref it) (.ref D) ce) (compPost (model X.prog X.w) X.A X.xe use Qf (.ref D) u3.heap.objs.size) u4 := by
    refine compLoop_anyD (fun n u => ∃ i G, Inv (X.blk u3 G3 scope ce fp) [] (wipe σ (own.map (·.2))) G u ∧ tn i u.heap ∧ (∀ b ∈ fp, G b = none) ∧ W i n G) ?_ n0 ⟨0, G3, J4, start4, none3, first⟩
    rintro n u5 ⟨i, G5, J5, at5, no5, w5⟩
    obtain ⟨halt, q⟩ | ⟨more, Nx, next, turn⟩ := turns i n G5 w5
    · -- the end: back to the def
      refine thnF (T.done (X.blk u3 G3 scope ce fp) rfl rfl rfl calm i [] u5 _ G5 (fun _ _ => False) J5 (still J5 no5) at5 halt) fun _ u6 ⟨e6, J6⟩ => ?_
      subst e6
      have gone : G5 u3.heap.objs.size = none := by have z : G5 ce.locals = none := J6.free; rwa [loc] at z
      obtain ⟨m, ns, _⟩ := J6.loc
      have ns : u6.heap.Ns ce.locals m := ns
      rw [loc] at ns
      refine post D u3.heap.objs.size u6 m G5 (J3.call' (ch := fp) J6.os J6.base J6.hok J6.bare fun b hb => ?_) q ns (J3.fpOk (Nat.le_refl _) gone)
      have f := (apart3 b hb).1
      exact ⟨f.2.2.2.1, f.2.1, f.2.2.2.2.1, f.2.2.2.2.2⟩
    · -- a turn
      refine thnF (T.item (X.blk u3 G3 scope ce fp) rfl rfl rfl calm i [] u5 _ G5 (fun _ _ => False) J5 (still J5 no5) at5 more) fun _ u6 ⟨u, e6, w6⟩ => ?_
      subst e6
      refine thnF w6 fun _ u7 ⟨x, G7, J7, r7, y7, at7, no7⟩ => ?_
      have P7 := J7.pinned (still J7 no7) (T.obj _ _ at7)
      refine thnF (bg.run _ u7 _ G7 x u _ P7 r7 (turn x G7 y7)) fun _ u8 ⟨τ, G8, J8, same8, k8⟩ => ?_
      refine thnF (bt.run _ u8 τ G8 _ J8 k8) fun b u9 ⟨G9, J9, k9⟩ => ?_
      have done : ∀ {u' : Shared} {G' : Hp}, Inv (X.blk u3 G3 scope ce fp) ([] ++ pinsAt fp u7.heap) τ G' u' → Nx G' → ∃ m, m < n ∧ ∃ i G, Inv (X.blk u3 G3 scope ce fp) [] (wipe σ (own.map (·.2))) G u' ∧ tn i u'.heap ∧ (∀ b ∈ fp, G b = none) ∧ W i m G := fun {u' G'} J' nx => by
        obtain ⟨m, lt, w'⟩ := next G' nx
        have kept : ∀ b ∈ fp, ∀ o, u7.heap.get? b = some o → u'.heap.get? b = some o ∧ G' b = none := fun b hb o z => by
          have a := J'.pin (b, o) (List.mem_append_right _ (List.mem_append_right _ (mem_pinsAt hb z)))
          exact ⟨a.1, a.2.1⟩
        refine ⟨m, lt, i + 1, G', (J'.unpinned (pins := [])).weak (by rw [← same8, wipe_length]) (fun j v z => by rw [← same8] at z; exact (wipe_some z).1), T.keep _ _ _ at7 fun b hb o z => (kept b hb o z).1, fun b hb => ?_, w'⟩
        obtain ⟨o, z, _⟩ := T.obj _ _ at7 b hb
        exact (kept b hb o z).2
      by_cases hb : b = true
      · dsimp only at k9 ⊢
        rw [if_pos hb] at k9 ⊢
        refine thnF (bk.run _ u9 τ G9 _ J9 k9) fun _ u10 ⟨y, G10, J10, r10, k10⟩ => thnF (bv.run _ u10 τ G10 _ J10 k10) fun _ u11 ⟨z, G11, J11, r11, l, key, at_, ey, hD, hl, hk, few, nx⟩ => ?_
        subst ey
        cases r10
        exact n_dictSet (X := X.blk u3 G3 scope ce fp) room J11 hD hl hk few r11 fun u12 J12 => done J12 nx
      · dsimp only at k9 ⊢
        rw [if_neg hb] at k9 ⊢
        exact done J9 k9
  exact codeAny_compStart_dict looped (T.self X.A 0 _ _ _ start4 looped)
/-- as a value -/
theorem pe_dcN (calm : X.calm = true) (room : X.A.units + 8 < cLine) (nd : X.N.Nodup) (hi : PI X tg iter wi) (ok : BlkOk X.N X.env.scope scope own) (ps : DcParts X scope kx vx tg ifs g tt tk tv) (fold : ∀ x, foldedSetIterable iter X.env x = pure x := by intro _; rfl) :
    PE X (.DictComp kx vx [⟨tg, iter, ifs, 0⟩] scope pos) (tDcN X.K X.prog X.w wi g tt tk tv (own.map (·.2))) := ⟨fun pins s σ H Q I h => by
  rw [arm_eval_DictComp]
  refine dcN_core calm room nd I hi ok ps fold h fun D C u m G J q ns f => ⟨m, ns, fun _ sb => ?_⟩
  exact ⟨.ref D, G, J.turned (t' := u.toks) (fun b o hb z => (sb.2 b hb).trans z) f.1 f.2.1 f.2.2.2.1 f.2.2.2.2.1 f.2.2.2.2.2, rfl, q⟩⟩
end
end Wb

set_option Elab.async false
set_option linter.all false
set_option maxRecDepth 100000
set_option maxHeartbeats 4000000
/-! Wn2: what such a dict is worth: the keys that are in it. -/
namespace Wv
open PySem PySem.Spec PyProof.Rows L2 Wb
/-- a dict with just these keys -/
def nsR (K : PySem.W.Frag) (P : Program) (w : World) (ks : List NestedKey) : Rel := fun B v => ∃ a l, v = .ref a ∧ B a = some (NdiO P w a l) ∧ NksAt K B l ∧ ∀ k, (atN l k).isSome = decide (k ∈ ks)
instance {K : PySem.W.Frag} {P : Program} {w : World} {ks : List NestedKey} : Mo (nsR K P w ks) := ⟨fun s ⟨a, l, e, h, g, m⟩ => ⟨a, l, e, s a _ h, fun p hp => (g p hp).same s, m⟩⟩
theorem atN_put {l : List Nen} {k k' : NestedKey} {b : Addr} {v : V} : (atN (putN l k b v) k').isSome = ((atN l k').isSome || decide (k' = k)) := by
  have app : ∀ {l : List Nen} {e : Nen}, (atN (l ++ [e]) k').isSome = ((atN l k').isSome || decide (e.1 = k')) := fun {l e} => by
    unfold atN
    rw [List.find?_append, Option.map_or, Option.isSome_or]
    congr 1
    by_cases h : e.1 = k' <;> simp [List.find?_cons, h]
  have rep : ∀ {l : List Nen}, (atN (l.map fun p => if p.1 = k then (p.1, p.2.1, v) else p) k').isSome = (atN l k').isSome := fun {l} => by
    induction l with
    | nil => rfl
    | cons p l ih =>
      unfold atN at *
      rw [List.map_cons, List.find?_cons, List.find?_cons]
      have e1 : (if p.1 = k then (p.1, p.2.1, v) else p).1 = p.1 := by split <;> rfl
      rw [e1]
      by_cases h : p.1 = k'
      · simp [h]
      · simp only [h, decide_false]
        exact ih
  unfold putN
  by_cases h : (atN l k).isSome = true
  · rw [if_pos h, rep]
    by_cases e : k' = k
    · subst e
      rw [h]
      rfl
    · simp [e]
  · rw [if_neg h, app]
    congr 1
    by_cases e : k' = k
    · simp [e]
    · simp [e, Ne.symm e]
theorem NksAt.put {K : PySem.W.Frag} {H : Hp} {l : List Nen} {k : NestedKey} {b : Addr} {v : V} (h : NksAt K H l) (hb : NkAt K H k b) : NksAt K H (putN l k b v) := by
  intro p hp
  unfold putN at hp
  split at hp
  · obtain ⟨q, hq, rfl⟩ := List.mem_map.mp hp
    have := h q hq
    split
    · exact this
    · exact this
  · rcases List.mem_append.mp hp with hp | hp
    · exact h p hp
    · rw [List.mem_singleton] at hp
      rw [hp]
      exact hb
section
variable {K : PySem.W.Frag} {P : Program} {w : World} {σ : L2.St} {B H : Hp} {te ta tk tv : TE} {tt : TT} {R S T : Rel}
theorem De.dcN {α : Type} {as : List α} {r : α → Rel} {wi : TI} {g : TG} {vs : List Nat} (key : α → NestedKey) (hi : Di wi σ B (as.map r)) (few : as.length < sizeLine)
    (turn : ∀ a x Bn G, a ∈ as → Same B Bn → Same Bn G → r a Bn x → ∃ τ, (∀ Q : L2.St → Hp → Prop, Q τ G → g x (wipe σ vs) G Q) ∧ wipe τ vs = wipe σ vs ∧ Dt tt τ Bn true ∧ De tk τ Bn (fun B v => ∃ b, v = .ref b ∧ NkAt K B (key a) b) ∧ De tv τ Bn (dat K (.bool true))) :
    De (tDcN K P w wi g tt tk tv vs) σ B (nsR K P w (as.map key)) := fun B1 H s1 s2 Q q => hi B1 H s1 s2 _ fun J B2 H2 e hw => fun D hD => by
  have walk : Walk J as.length (fun G => Same B2 G) (fun i G x G' => ∃ R, (as.map r)[i]? = some R ∧ ∀ Bc, Same B2 Bc → Same Bc G → ∃ Bn, Ext Bc G Bn G' ∧ R Bn x) := by
    have z := hw
    unfold Wk at z
    rwa [List.length_map] at z
  -- what holds ahead of turn i
  let Pv : Nat → Hp → Prop := fun i G => ∃ B' l, Ext B2 H2 B' G ∧ B' D = none ∧ G D = some (NdiO P w D l) ∧ NksAt K B' l ∧ l.length ≤ i ∧ ∀ k, (atN l k).isSome = decide (k ∈ (as.take i).map key)
  refine ⟨fun i m G => m = as.length - i ∧ i ≤ as.length ∧ Pv i G, ⟨as.length, (Nat.sub_zero _).symm, Nat.zero_le _, B2, [], .own e.bh hD, e.bh.free hD, upd_same, (fun p h => nomatch h), Nat.zero_le _, fun k => by rw [List.take_zero]; rfl⟩, ?_⟩
  rintro i m G ⟨rfl, le, B', l, e', nD, atD, hl, short, has⟩
  have on : Same B2 G := e'.bb.trans e'.bh
  rcases Nat.lt_or_ge i as.length with lt | ge
  · refine .inr ⟨walk.goes i G lt on, Pv (i + 1), fun G' p => ⟨as.length - (i + 1), by omega, rfl, lt, p⟩, fun x G' y => ?_⟩
    obtain ⟨R, hR, z⟩ := walk.yields i G x G' lt on y
    obtain ⟨Bn, e2, hx⟩ := z B' e'.bb e'.bh
    rw [List.getElem?_map] at hR
    obtain ⟨a, ha, rfl⟩ := Option.map_eq_some_iff.mp hR
    obtain ⟨τ, t1, t2, t3, t4, t5⟩ := turn a x Bn G' (List.mem_of_getElem? ha) (((s1.trans e.bb).trans e'.bb).trans e2.bb) e2.bh hx
    have some_ne : ∀ {o : HO}, (some o : Option HO) ≠ none := fun z => nomatch z
    have atD2 := e2.hh _ _ atD
    have nD2 : Bn D = none := e2.nw D (by rw [atD]; exact some_ne) nD
    refine t1 _ ⟨t2, t3 Bn G' (Same.refl _) e2.bh _ fun B3 H3 e3 => ?_⟩
    have atD3 := e3.hh _ _ atD2
    have nD3 : B3 D = none := e3.nw D (by rw [atD2]; exact some_ne) nD2
    refine t4 B3 H3 e3.bb e3.bh _ fun y4 B4 H4 e4 ⟨b, ey, hb⟩ => ?_
    subst ey
    have atD4 := e4.hh _ _ atD3
    have nD4 : B4 D = none := e4.nw D (by rw [atD3]; exact some_ne) nD3
    refine t5 B4 H4 (e3.bb.trans e4.bb) e4.bh _ fun y5 B5 H5 e5 hv => ?_
    have atD5 := e5.hh _ _ atD4
    have nD5 : B5 D = none := e5.nw D (by rw [atD4]; exact some_ne) nD4
    have e25 := ((e2.trans e3).trans e4).trans e5
    have e15 := e'.trans e25
    have hl5 : NksAt K B5 l := fun p hp => (hl p hp).same e25.bb
    have hb5 := hb.same e5.bb
    refine ⟨l, key a, b, rfl, atD5, fun p hp => (hl5 p hp).same e5.bh, hb5.same e5.bh, by omega, B5, putN l (key a) b y5, ⟨fun c u hc => ?_, e15.bb, fun c u hc => ?_, e15.nw⟩, nD5, upd_same, NksAt.put hl5 hb5, by have := len_putN l (key a) b y5; omega, fun k => ?_⟩
    · rw [upd_ne (ne_of_none hc hD)]
      exact e15.hh c u hc
    · rw [upd_ne (ne_of_none hc nD5)]
      exact e15.bh c u hc
    · rw [atN_put, has k, List.take_succ, ha, List.map_append]
      show (decide (k ∈ (as.take i).map key) || decide (k = key a)) = decide (k ∈ (as.take i).map key ++ [key a])
      by_cases h1 : k ∈ (as.take i).map key <;> by_cases h2 : k = key a <;> simp_all
  · have : i = as.length := by omega
    subst this
    rw [List.take_length] at has
    refine .inl ⟨walk.stops G on, q _ (upd B' D (NdiO P w D l)) G ⟨e.hh.trans e'.hh, (e.bb.trans e'.bb).trans (new_same nD), fun c u hc => ?_, fun c h1 h2 => ?_⟩ ⟨D, l, rfl, upd_same, fun p hp => (hl p hp).same (new_same nD), has⟩⟩
    · by_cases z : c = D
      · subst z
        rw [upd_same] at hc
        rw [← hc]
        exact atD
      · rw [upd_ne z] at hc
        exact e'.bh c u hc
    · have z : c ≠ D := fun z => by
        subst z
        cases o : H c with
        | none => exact h1 o
        | some u =>
          rw [e.hh c u o] at hD
          cases hD
      rw [upd_ne z]
      exact (e.trans e').nw c h1 h2
end
end Wv
namespace Wv
open PySem PySem.Spec PyProof.Rows L2 Wb
/-- a key, wherever it stands -/
def nkR (K : PySem.W.Frag) (k : NestedKey) : Rel := fun B v => ∃ b, v = .ref b ∧ NkAt K B k b
instance {K : PySem.W.Frag} {k : NestedKey} : Mo (nkR K k) := ⟨fun s ⟨b, e, h⟩ => ⟨b, e, h.same s⟩⟩
theorem dat_nk {K : PySem.W.Frag} {B : Hp} {v : V} {ks : List NestedKey} (h : dat K (NestedKey.tup ks).data B v) (d : (NestedKey.tup ks).depth ≤ 8) : nkR K (.tup ks) B v := by
  have h' := h
  unfold dat at h'
  rw [NestedKey.data] at h'
  cases h' with
  | tup hs hd => exact ⟨_, rfl, h, d⟩
theorem Rv.nIn {K : PySem.W.Frag} {P : Program} {w : World} {B : Hp} {k : NestedKey} {ks : List NestedKey} (neg : Bool) : Rv (rNIn K P w neg) B (nkR K k) (nsR K P w ks) (dat K (.bool (if neg = true then !decide (k ∈ ks) else decide (k ∈ ks)))) := fun x y B1 H _ s2 hx hy Q q => by
  obtain ⟨b, rfl, hb⟩ := hx
  obtain ⟨a, l, rfl, ha, hl, m⟩ := hy
  refine ⟨a, b, l, k, rfl, rfl, s2 a _ ha, fun p hp => (hl p hp).same s2, hb.same s2, ?_⟩
  rw [m]
  exact q _ B1 H (.refl s2) (.bl _)
end Wv
namespace Wb
open PySem PySem.Spec PyProof.Rows L2
theorem lt8 {n : Nat} (h : n + 64 < cLine) : n + 8 < cLine := by omega
theorem lt9 {A : Around} (h : A.units + 64 < cLine) : A.in1.units + 8 < cLine := by
  have : A.in1.units = A.units + 1 := rfl
  omega
section
variable {X : Cx} {kx vx tg iter : Expr} {ifs : List Expr} {scope : Scope} {own : List (Str × Nat)} {pos : Pos} {wi : TI} {g : TG} {tt : TT} {tk tv : TE}
theorem pe_dcM (calm : X.calm = true) (nd : X.N.Nodup) (hi : PI X tg iter wi) (ok : BlkOk X.N X.env.scope scope own)
    (pg : ∀ (u : Shared) (G : Hp) (C : Addr) (cl : List (Str × Addr)) (fp : List Addr), PG (X.blk u G scope (compEnvC scope cl C X.env) fp) tg g) (pt : ∀ (u : Shared) (G : Hp) (C : Addr) (cl : List (Str × Addr)) (fp : List Addr), PTs (X.blk u G scope (compEnvC scope cl C X.env) fp) ifs tt)
    (pk : ∀ (u : Shared) (G : Hp) (C : Addr) (cl : List (Str × Addr)) (fp : List Addr), PE (X.blk u G scope (compEnvC scope cl C X.env) fp) kx tk) (pv : ∀ (u : Shared) (G : Hp) (C : Addr) (cl : List (Str × Addr)) (fp : List Addr), PE (X.blk u G scope (compEnvC scope cl C X.env) fp) vx tv)
    (room : X.A.units + 64 < cLine) (fold : ∀ x, foldedSetIterable iter X.env x = pure x := by intro _; rfl) : PE X (.DictComp kx vx [⟨tg, iter, ifs, 0⟩] scope pos) (tDcN X.K X.prog X.w wi g tt tk tv (own.map (·.2))) :=
  pe_dcN calm (lt8 room) nd hi ok ⟨pg, pt, pk, pv⟩ fold
end
end Wb

set_option Elab.async false
set_option linter.all false
set_option maxRecDepth 100000
set_option maxHeartbeats 4000000
/-! We0: == and != of instances by an own __eq__, whatever it answers. -/
namespace Wv
open PySem PySem.Spec PyProof.Rows L2 Wb
section
variable {P : Program} {w : World} {K : PySem.W.Frag} {mg : Str → Option Value} {base : Heap}
/-- the own == of the class at C -/
def CalE (P : Program) (w : World) (K : PySem.W.Frag) (mg : Str → Option Value) (base : Heap) (n : Nat) (C : Addr) (S : Sp) : Prop := ∃ (f : Addr) (fd : FuncData), FnOk P w K mg base CX0 n f fd ["self", "other"] S ∧ PySem.W.findIn K (.ref C) "__eq__" = some (some (.ref f)) ∧ PySem.W.isFn K (.ref f) = true ∧ Binds K fd ["self", "other"] []
/-- no own != -/
def NoNe (K : PySem.W.Frag) (C : Addr) : Prop := PySem.W.findIn K (.ref C) "__ne__" = some (some (.builtin "object.__ne__"))
def rEqI (C : Addr) (S : Sp) : R2 := fun x y H Q => ∃ a b dx dy fs gs, x = .ref a ∧ y = .ref b ∧ H a = some (.ins C dx fs) ∧ H b = some (.ins C dy gs) ∧ S [x, y] H (fun v H' => ∃ t, v = .bl t ∧ Q (.bl t) H') E0
def rNeI (C : Addr) (S : Sp) : R2 := fun x y H Q => ∃ a b dx dy fs gs, x = .ref a ∧ y = .ref b ∧ H a = some (.ins C dx fs) ∧ H b = some (.ins C dy gs) ∧ S [x, y] H (fun v H' => ∃ t, v = .bl t ∧ Q (.bl (!t)) H') E0
end
section
variable {X : Cx} {n : Nat} {C : Addr} {S : Sp}
/-- the own == runs -/
theorem eq_runs {A : Around} {pins : List (Addr × Obj)} {σ : L2.St} {H : Hp} {s : Shared} {a b f : Addr} {fd : FuncData} {G : Bool → Hp → Prop} {R : Value → Shared → Prop}
    (F : FnOk X.prog X.w X.K X.mg X.base CX0 n f fd ["self", "other"] S) (hb : Binds X.K fd ["self", "other"] []) (hr : Room n A) (hfr : A.frames = X.A.frames) (I : Inv X pins σ H s)
    (hs : S [.ref a, .ref b] H (fun v H' => ∃ t, v = .bl t ∧ G t H') E0) (k : ∀ t H' s', G t H' → Inv X pins σ H' s' → R (.bool t) s') :
    wpAny (model X.prog X.w) A (call (.ref f) [.ref a, .ref b]) R X.xe s := by
  have e0 : Env0 X.prog X.w X.K X.mg X.base A X.stack s H := by
    have e := I.env0
    exact ⟨by rw [hfr]; exact e.frames, e.mod, e.bs, e.bsz, e.funs, e.frf, e.hok, e.bare⟩
  have hl := F.len _ _ _ _ hs
  have r2 : Vals [V.ref a, V.ref b] [Value.ref a, Value.ref b] := .cons rfl (.cons rfl .nil)
  refine wpAny_call (codeAny_mono (F.run A X.stack s H ⟨[.ref a, .ref b], []⟩ [.ref a, .ref b] [.ref a, .ref b] _ E0 hr e0 (by
    have := hb s [.ref a, .ref b] I.kIn (by simpa using hl)
    simpa using this) r2 hs) fun r s' hq => ?_)
  cases r with
  | error e => exact pass0 (X := X) pins σ H s e s' I hq
  | ok fl =>
    cases fl with
    | ret w =>
      obtain ⟨z, H', I', rz, t, ez, g⟩ := I.after hq
      subst ez
      cases rz
      exact k t H' s' g I'
    | next => exact False.elim hq
    | brk => exact False.elim hq
    | cont => exact False.elim hq
theorem op_eqC (c : CalE X.prog X.w X.K X.mg X.base n C S) (hr : Room n X.A) : OpR X (compareOp .Eq) (rEqI C S) := by
  intro pins s σ H x y v u Q I rx ry hq
  obtain ⟨a, b, dx, dy, fs, gs, rfl, rfl, ha, hb', hS⟩ := hq
  obtain ⟨f, fd, F, hs, hf, hb⟩ := c
  cases rx
  cases ry
  obtain ⟨mA, J, _⟩ := ins_get I.hok ha
  obtain ⟨mB, J', _⟩ := ins_get I.hok hb'
  obtain ⟨od, J, _⟩ := J.look
  obtain ⟨od', J', _⟩ := J'.look
  obtain ⟨m, hF⟩ := I.fr
  show wpAny (model X.prog X.w) X.A (richCompare .Eq (.ref a) (.ref b)) (EP X pins σ Q) X.xe s
  refine PySem.W.cmp_K (op := .Eq) (tb := .ref C) hr.units0 hF I.ok.mod.kin J J'.type (by simp [PySem.W.notFirst]) hs hf ?_
  exact eq_runs F hb hr rfl I hS fun t H' s' g I' => ⟨.bl t, H', I', rfl, g⟩
/-- a builtin of the type object, looked up on an instance -/
theorem ifBound_B {M : Model} {A : Around} {E : Value → Shared → Prop} {s : Shared} {K : PySem.W.Frag} {x C : Addr} {ox : Obj} {od : Option Obj} {name : Str} {id : String} {args : List Value} {Q : Option Value → Shared → Prop} (Y : K.In s.heap) (I : PySem.W.InstAt s.heap x ox C od) (hs : PySem.W.findIn K (.ref C) name = some (some (.builtin id))) (hb : bindSpecial (.builtin id) (.ref x) = pure (.builtin id, [.ref x]))
    (h : wpAny M A (call (.builtin id) (.ref x :: args)) (fun v => Q (some v)) E s) : wpAny M A (callSpecialIfBound? (.ref x) name args) Q E s := by
  simp only [callSpecialIfBound?, bindSpecialIfBound?]
  refine wpAny_holding (wpAny_bind (wpAny_bind (wpAny_bind (I.type.here ((PySem.W.looks_findIn Y hs).here ?_)))))
  refine wpAny_bind (wpAny_askSetting (wpAny_ite ?_))
  have fin : wpAny M A (call (.builtin id) ([.ref x] ++ args) >>= fun v => pure (some v)) Q E s := wpAny_bind (wpAny_mono h (fun v s' h' => wpAny_pure h') fun _ _ h' => h')
  rw [hb]
  split
  · exact wpAny_bind (wpAny_pure (wpAny_pure (by exact fin)))
  · exact wpAny_tryCatch (wpAny_bind (wpAny_pure (wpAny_pure (by exact fin))))
theorem ne_bind (self : Value) : bindSpecial (.builtin "object.__ne__") self = pure (.builtin "object.__ne__", [self]) :=
  (Slot.of (T := "object") (name := "__ne__") (owner := "object") (n := "__ne__") (by rw [typeLookup_type, builtinLookup_eq_fast]; kernel_rfl) (by decide +kernel) (by decide +kernel) (by decide +kernel)
    (.inl (by decide +kernel)) (by rw [isSubtype_type]; kernel_rfl)).bind self
theorem ne_plain : plainId "object.__ne__" = true := by decide +kernel
theorem objNe_K {A : Around} {E : Value → Shared → Prop} {s : Shared} {prog : Program} {w : World} {K : PySem.W.Frag} {x C f b : Addr} {ox : Obj} {od : Option Obj} {Q : PySem.Fin → Shared → Prop} (hu : A.units < cLine) (Y : K.In s.heap) (I : PySem.W.InstAt s.heap x ox C od)
    (hs : PySem.W.findIn K (.ref C) "__eq__" = some (some (.ref f))) (hf : PySem.W.isFn K (.ref f) = true)
    (hcall : wpAny (model prog w) A (call (.ref f) [.ref x, .ref b]) (fun v s' => ∃ t, v = .bool t ∧ Q (.done (.ret (.bool (!t)))) s') E s) : wpAny (model prog w) A (Builtin.«object.__ne__» ⟨[.ref x, .ref b], []⟩) Q E s := by
  unfold Builtin.«object.__ne__»
  repeat (first
    | with_reducible refine wpAny_cRoomFor hu ?_
    | (refine wpAny_bind (m := callSpecialIfBound? (.ref x) (Str.ofString "__eq__") [.ref b])
        (PySem.W.ifBound_K Y I hs hf (wpAny_mono hcall (fun r s' hr => by
          obtain ⟨t, rfl, hq⟩ := hr
          repeat (first | exact hq | exact wpAny_pure hq | exact wpAny_truthy_bool hq | (refine wpAny_bind (m := truthy (.bool _)) (wpAny_truthy_bool ?_)) | wp_step)) fun _ _ e => e)))
    | wp_step)
/-- != by an own == alone -/
theorem cmp_KN {A : Around} {E : Value → Shared → Prop} {s : Shared} {prog : Program} {w : World} {K : PySem.W.Frag} {h₀ : Heap} {L : Addr} {m : Str → Option Value} {x C f b : Addr} {ox ob : Obj} {od od' : Option Obj} {Q : Value → Shared → Prop} (hu : A.units + 1 < cLine)
    (FR : Fr h₀ L s.heap m) (X₀ : K.In h₀) (I : PySem.W.InstAt s.heap x ox C od) (I' : PySem.W.InstAt s.heap b ob C od')
    (hn : PySem.W.findIn K (.ref C) "__ne__" = some (some (.builtin "object.__ne__"))) (ho : PySem.W.mroIn K C (.type "object") = some true)
    (hs : PySem.W.findIn K (.ref C) "__eq__" = some (some (.ref f))) (hf : PySem.W.isFn K (.ref f) = true)
    (h : wpAny (model prog w) A.in1 (call (.ref f) [.ref x, .ref b]) (fun v s' => ∃ t, v = .bool t ∧ Q (.bool (!t)) s') E s) : wpAny (model prog w) A (richCompare .NotEq (.ref x) (.ref b)) Q E s := by
  have Y := X₀.keeps FR.keep
  have sub : PySem.W.Looks (model prog w) s.heap (isInstance (.ref x) (.type "object")) true := I.type.andThen (PySem.W.looks_mroIn Y ho)
  have one : wpAny (model prog w) A (tryCompare (.ref x) "__ne__" (.ref b)) (fun r s' => ∃ v, r = some v ∧ Q v s') E s := by
    simp only [tryCompare]
    refine wpAny_bind (ifBound_B Y I hn (ne_bind _) (wpAny_call (codeAny_call_builtin ne_plain F.cmpEntry_ne (PySem.W.check_slot F.cmpKind_ne F.cmpSplit_ne sub (F.cmpArgs_ne _ _) ?_))))
    refine objNe_K (A := A.in1) hu Y I hs hf (wpAny_mono h (fun v s' hv => ?_) fun _ _ e => e)
    obtain ⟨t, rfl, hq⟩ := hv
    have hq : ∃ v, some (Value.bool !t) = some v ∧ Q v s' := ⟨_, rfl, hq⟩
    first | exact ⟨t, rfl, wpAny_pure hq⟩ | exact ⟨t, rfl, wpAny_pure (wpAny_pure hq)⟩ | exact ⟨t, rfl, hq⟩
  unfold richCompare
  simp only [oneThing_ref]
  refine wpAny_holding (wpAny_bind (wpAny_cRoomFor (Nat.lt_of_succ_lt hu) ?_))
  rw [cmpInfo_NotEq]
  dsimp only
  refine wpAny_bind (I.type.here (wpAny_bind (I'.type.here ?_)))
  rw [show (Value.ref C != Value.ref C) = false from by simp]
  simp only [Bool.false_eq_true, if_false]
  refine wpAny_bind (wpAny_pure ?_)
  simp only [Bool.false_eq_true, if_false]
  refine wpAny_bind (wpAny_mono one (fun r s' z => ?_) fun _ _ e => e)
  obtain ⟨v, rfl, hq⟩ := z
  exact wpAny_pure hq
theorem mro_obj {K : PySem.W.Frag} {C : Addr} (c : Cls K C) : PySem.W.mroIn K C (.type "object") = some true := by
  obtain ⟨cd, hc, ho⟩ := PySem.W.any_some c.po
  have ne : cd.mro.isEmpty = false := by
    cases q : cd.mro with
    | nil => rw [q] at ho; cases ho
    | cons _ _ => rfl
  unfold PySem.W.mroIn
  rw [hc, Option.bind_some, if_neg (by rw [ne]; decide), PySem.W.only_has ho]
theorem op_neC (c : CalE X.prog X.w X.K X.mg X.base n C S) (cl : Cls X.K C) (ne : NoNe X.K C) (hr : Room (n + 1) X.A) : OpR X (compareOp .NotEq) (rNeI C S) := by
  intro pins s σ H x y v u Q I rx ry hq
  obtain ⟨a, b, dx, dy, fs, gs, rfl, rfl, ha, hb', hS⟩ := hq
  obtain ⟨f, fd, F, hs, hf, hb⟩ := c
  cases rx
  cases ry
  obtain ⟨mA, J, _⟩ := ins_get I.hok ha
  obtain ⟨mB, J', _⟩ := ins_get I.hok hb'
  obtain ⟨od, J, _⟩ := J.look
  obtain ⟨od', J', _⟩ := J'.look
  obtain ⟨m, hF⟩ := I.fr
  show wpAny (model X.prog X.w) X.A (richCompare .NotEq (.ref a) (.ref b)) (EP X pins σ Q) X.xe s
  refine cmp_KN hr.in1.units0 hF I.ok.mod.kin J J' ne (mro_obj cl) hs hf ?_
  exact eq_runs (A := X.A.in1) F hb hr.in1 rfl I hS fun t H' s' g I' => ⟨t, rfl, .bl (!t), H', I', rfl, g⟩
end
section
variable {C : Addr} {B : Hp} {R R' : Rel} {α : Type} {args : α → List Rel} {pre : α → Prop} {res : α → Rel} {K : PySem.W.Frag}
/-- what is an instance of the class at C -/
class IsIns (C : Addr) (R : Rel) : Prop where
  ins : ∀ {B v}, R B v → ∃ a dx fs, v = .ref a ∧ B a = some (.ins C dx fs)
theorem Rv.eqIns [i : IsIns C R] [j : IsIns C R'] {t : Bool} (a : α) (hp : pre a) (ha : ∀ B x y, R B x → R' B y → AllR (args a) B [x, y]) (hr : res a = dat K (.bool t)) : Rv (rEqI C (Pf args pre res)) B R R' (dat K (.bool t)) := fun x y B1 H s1 s2 hx hy Q q => by
  obtain ⟨b, dx, fs, rfl, hb⟩ := i.ins hx
  obtain ⟨c, dy, gs, rfl, hc⟩ := j.ins hy
  refine ⟨b, c, dx, dy, fs, gs, rfl, rfl, s2 _ _ hb, s2 _ _ hc, B1, a, s2, ha _ _ _ hx hy, hp, fun v B' H' e hv => ?_⟩
  rw [hr] at hv
  have : v = .bl t := dat_bl hv
  exact ⟨t, this, q _ B' H' e (this ▸ hv)⟩
theorem Rv.neIns [i : IsIns C R] [j : IsIns C R'] {t : Bool} (a : α) (hp : pre a) (ha : ∀ B x y, R B x → R' B y → AllR (args a) B [x, y]) (hr : res a = dat K (.bool t)) : Rv (rNeI C (Pf args pre res)) B R R' (dat K (.bool (!t))) := fun x y B1 H s1 s2 hx hy Q q => by
  obtain ⟨b, dx, fs, rfl, hb⟩ := i.ins hx
  obtain ⟨c, dy, gs, rfl, hc⟩ := j.ins hy
  refine ⟨b, c, dx, dy, fs, gs, rfl, rfl, s2 _ _ hb, s2 _ _ hc, B1, a, s2, ha _ _ _ hx hy, hp, fun v B' H' e hv => ?_⟩
  rw [hr] at hv
  have : v = .bl t := dat_bl hv
  exact ⟨t, this, q _ B' H' e (.bl _)⟩
instance {C : Addr} {fs : List (Str × Rel)} : IsIns C (insR C fs) := ⟨fun ⟨a, dx, us, e, h, _⟩ => ⟨a, dx, us, e, h⟩⟩
end
end Wv

set_option Elab.async false
set_option linter.all false
set_option maxRecDepth 100000
set_option maxHeartbeats 4000000
/-! Wy0: things of one's own that change while a def runs (hidden: in H, not in B). -/
namespace Wv
open PySem PySem.Spec PyProof.Rows L2 Wb
theorem lt1 {a b : Nat} (h : a + 64 < b) : a + 1 < b := by omega
/-- at a stands o, and nobody else knows of it -/
structure Hid (B H : Hp) (a : Addr) (o : HO) : Prop where
  at_ : H a = some o
  no : B a = none
section
variable {B H B' H' B0 H0 : Hp} {a b : Addr} {o u : HO}
theorem Hid.ext (m : Hid B H a o) (e : Ext B H B' H') : Hid B' H' a o := ⟨e.hh _ _ m.at_, e.nw a (by rw [m.at_]; exact fun z => nomatch z) m.no⟩
theorem none_of (s : Same B H) (h : H a = none) : B a = none := by
  cases q : B a with
  | none => rfl
  | some x => rw [s _ _ q] at h; cases h
theorem Ext.newH (s : Same B H) (h : H a = none) : Ext B H B (upd H a o) := ⟨new_same h, Same.refl _, s.trans (new_same h), fun _ _ z => z⟩
theorem Hid.new (s : Same B H) (h : H a = none) : Hid B (upd H a o) a o := ⟨upd_same, none_of s h⟩
theorem Hid.set (m : Hid B H a o) : Hid B (upd H a u) a u := ⟨upd_same, m.no⟩
theorem Hid.other (m : Hid B H b u) (n : b ≠ a) : Hid B (upd H a o) b u := ⟨(upd_ne n).trans m.at_, m.no⟩
theorem Ext.setH (e : Ext B0 H0 B H) (m : Hid B H a o) (h : H0 a = none) : Ext B0 H0 B (upd H a u) :=
  ⟨fun b x z => by
    rw [upd_ne (ne_of_none z h)]
    exact e.hh b x z, e.bb, fun b x z => by
    rw [upd_ne (ne_of_none z m.no)]
    exact e.bh b x z, e.nw⟩
theorem Ext.settleH (e : Ext B0 H0 B H) (m : Hid B H a o) (h : H0 a = none) (n : B0 a = none) : Ext B0 H0 (upd B a o) H :=
  ⟨e.hh, fun b x z => by
    rw [upd_ne (ne_of_none z n)]
    exact e.bb b x z, fun b x z => by
    by_cases q : b = a
    · subst q
      rw [upd_same] at z
      cases z
      exact m.at_
    · rw [upd_ne q] at z
      exact e.bh b x z, fun b h1 h2 => by
    by_cases q : b = a
    · subst q
      exact absurd h h1
    · rw [upd_ne q]
      exact e.nw b h1 h2⟩
theorem Ext.oldH (e : Ext B0 H0 B H) (h : H a = none) : H0 a = none := by
  cases q : H0 a with
  | none => rfl
  | some x => rw [e.hh _ _ q] at h; cases h
end
/-- what is wanted behind a turn -/
def Nh (B0 H0 B1 : Hp) (P : L2.St → Hp → Hp → Prop) : L2.St → Hp → Prop := fun σ H' => ∃ B', Ext B0 H0 B' H' ∧ Same B1 B' ∧ P σ B' H'
theorem s_forX {σ : L2.St} {wi : TI} {g : TG} {ts rest : TS} {D : Ends} {Rs : List Rel} {B H B0 H0 : Hp} (e0 : Ext B0 H0 B H) (hi : Di wi σ B Rs) (Pv : Nat → L2.St → Hp → Hp → Prop) (h0 : ∀ B1 H1, Ext B H B1 H1 → Pv 0 σ B1 H1)
    (hs : ∀ B1 i R v σ' Bc Hc Bn Hn, Same B B1 → Rs[i]? = some R → Ext B0 H0 Bc Hc → Same B1 Bc → Pv i σ' Bc Hc → Ext Bc Hc Bn Hn → R Bn v → g v σ' Hn fun σ2 H2 => ts { D with nx := Nh B0 H0 B1 (Pv (i + 1)), ct := Nh B0 H0 B1 (Pv (i + 1)), bk := rest D } σ2 H2)
    (hd : ∀ σ' B' H', Ext B0 H0 B' H' → Same B B' → Pv Rs.length σ' B' H' → rest D σ' H') : tSeq (tFor wi g ts) rest D σ H :=
  hi B H (Same.refl _) e0.bh _ fun J B1 H1 e hw => by
    have := for_it hw (D := { D with nx := rest D }) (g := g) (tb := ts) (fun i => Nh B0 H0 B1 (Pv i)) ⟨B1, e0.trans e, Same.refl _, h0 B1 H1 e⟩ (fun i σ' H' _ ⟨B', s1, s2, _⟩ => s2.trans s1.bh)
      (fun i x σ' H' H'' hi ⟨Bc, s1, s2, p⟩ ⟨R, hR, y⟩ => by
        obtain ⟨Bn, e2, hx⟩ := y Bc s2 s1.bh
        exact hs B1 i R x σ' Bc H' Bn H'' e.bb hR s1 s2 p e2 hx)
      (fun σ' H' ⟨B', s1, s2, p⟩ => hd σ' B' H' s1 (e.bb.trans s2) p)
    exact this
/-- a triple taken apart -/
theorem gTup3 {K : PySem.W.Frag} {Bn H : Hp} {v : V} {R S T : Rel} {σ1 : L2.St} {i j l : Nat} (s : Same Bn H) (h : tupR K [R, S, T] Bn v) : ∃ x y z, R Bn x ∧ S Bn y ∧ T Bn z ∧ ∀ Q : L2.St → Hp → Prop, Q (((σ1.set i (some x)).set j (some y)).set l (some z)) H → gTup K 3 (gCons (gName i) (gCons (gName j) (gCons (gName l) gNil))) v σ1 H Q := by
  obtain ⟨a, xs, rfl, hs, x, r, rfl, hx, y, r', rfl, hy, z, r2, rfl, hz, hr⟩ := h
  have hr : r2 = [] := hr
  subst hr
  exact ⟨x, y, z, hx, hy, hz, fun Q q => ⟨a, _, rfl, seqT s hs, rfl, x, [y, z], rfl, y, [z], rfl, z, [], rfl, rfl, q⟩⟩
section
variable {K : PySem.W.Frag} {σ : L2.St} {B : Hp} {ta tb : TE} {R S T : Rel}
/-- d[k], of a dict that stays -/
def dicR (a : Addr) (kvs : List (Key × V)) : Rel := fun B v => v = .ref a ∧ B a = some (.dK kvs)
instance {a : Addr} {kvs : List (Key × V)} : Mo (dicR a kvs) := ⟨fun s ⟨e, h⟩ => ⟨e, s _ _ h⟩⟩
theorem De.dget {a : Addr} {kvs : List (Key × V)} {n : Int} {v : V} [m : Mo R] (hd : De ta σ B (dicR a kvs)) (hk : De tb σ B (dat K (.int n))) (l : valV kvs (.inl n) = some v) (hv : R B v) : De (tDGet ta tb) σ B R := fun B1 H s1 s2 Q q =>
  hd B1 H s1 s2 _ fun x B2 H2 e hx => hk B2 H2 (s1.trans e.bb) e.bh _ fun y B3 H3 e2 hy => by
    obtain ⟨rfl, ha⟩ := hx
    have := dat_int hy
    subst this
    exact ⟨a, v, rfl, DGet.k (k := .inl n) (e2.bh _ _ (e2.bb _ _ ha)) |> (l ▸ ·), q v B3 H3 (e.trans e2) (m.mo ((s1.trans e.bb).trans e2.bb) hv)⟩
end
end Wv

set_option Elab.async false
set_option linter.all false
set_option maxRecDepth 100000
set_option maxHeartbeats 4000000
/-! Wn3: dicts keyed by tuples of any depth: made, read, written, sorted. -/
namespace Wb
open PySem PySem.Spec PyProof.Rows L2
section
variable {X : Cx} {pins : List (Addr × Obj)} {σ : L2.St} {H : Hp} {s : Shared} {a b : Addr} {l : List Nen} {k : NestedKey} {A : Around} {E : Value → Shared → Prop}
theorem n_isD (I : Inv X pins σ H s) (ha : H a = some (NdiO X.prog X.w a l)) : s.TypeIs (.ref a) "dict" ∧ (∀ b, Value.ref a = .ref b → ∃ ob, s.heap.get? b = some ob ∧ ob.dict = none) ∧ (a == sysModules) = false := by
  obtain ⟨z, y, us, r, o, es, ep, h1, h2, h3, h4, h5⟩ := (I.hok a _ ha).1
  refine ⟨⟨o, h1, h2.1⟩, fun b q => ?_, y⟩
  cases q
  exact ⟨o, h1, h2.2.1⟩
theorem n_getItem {v : V} {Q : Value → Shared → Prop} (hu : A.in1.units + 8 < cLine) (I : Inv X pins σ H s) (ha : H a = some (NdiO X.prog X.w a l)) (hk : NksAt X.K H l) (hb : NkAt X.K H k b) (e : atN l k = some v)
    (h : ∀ w' s', Inv X pins σ H s' → RelV v w' → Q w' s') : wpAny (model X.prog X.w) A (getItem (.ref a) (.ref b)) Q E s := by
  obtain ⟨z, hd, us, rel, dd⟩ := ndi_of I ha hk
  obtain ⟨w', hw, rw'⟩ := RelO.some_of (v := v) (o := (atKey us k).map (·.2)) (by rw [← e]; exact rel.at_ k)
  obtain ⟨p, hp, hp2⟩ := Option.map_eq_some_iff.mp hw
  refine wpAny_getItem_heap hu (nk_is I hb) dd hp ?_
  rw [hp2]
  exact h w' _ (I.tok _) rw'
theorem n_get2 {d : V} {r : Value} {Q : Value → Shared → Prop} (hu : A.in1.units + 8 < cLine) (I : Inv X pins σ H s) (ha : H a = some (NdiO X.prog X.w a l)) (hk : NksAt X.K H l) (hb : NkAt X.K H k b) (rd : RelV d r)
    (h : ∀ w' s', Inv X pins σ H s' → RelV ((atN l k).getD d) w' → Q w' s') : wpAny (model X.prog X.w) A (call (.builtin "dict.get") [.ref a, .ref b, r]) Q E s := by
  obtain ⟨z, hd, us, rel, dd⟩ := ndi_of I ha hk
  exact call_meetsIn PySem.F.slot_dict_get dd.typeIs PySem.F.entry_dict_get (PySem.F.args_dict_get_3 _ _ _) (meetsH_dict_get_default (NK X.prog X.w) a b hd r) ⟨hu, k, us, nk_is I hb, dd, h _ _ (I.tok _) ((rel.at_ k).getD rd)⟩
theorem n_setItem {v : V} {r : Value} {Q : Unit → Shared → Prop} (hu : A.in1.units + 8 < cLine) (I : Inv X pins σ H s) (ha : H a = some (NdiO X.prog X.w a l)) (hk : NksAt X.K H l) (hb : NkAt X.K H k b) (few : l.length < sizeLine) (rv : RelV v r)
    (h : ∀ s', Inv X pins σ (upd H a (NdiO X.prog X.w a (putN l k b v))) s' → Q () s') : wpAny (model X.prog X.w) A (setItem (.ref a) (.ref b) r) Q E s := by
  obtain ⟨z, hd, us, rel, dd⟩ := ndi_of I ha hk
  have hz : us.length ≤ sizeLine := by rw [← Paired.length rel]; exact z
  have hl : (putN l k b v).length ≤ sizeLine := by have := len_putN l k b v; omega
  refine wpAny_setItem_heap (hsz := hz) hu (nk_is I hb) dd fun h' dd' hs => h _ ?_
  obtain ⟨q, es, ep, hq, h2, h3, h4, _, h5⟩ := dd'
  exact d_write I (by rw [ha]; exact True.intro) hs ⟨q, hq⟩ (ndi_new ⟨hl, hd, _, rel.put k rv, q, es, ep, hq, h2, h3, h4, h5⟩)
theorem n_setdefault {v : V} {r : Value} {Q : Value → Shared → Prop} (hu : A.in1.units + 8 < cLine) (I : Inv X pins σ H s) (ha : H a = some (NdiO X.prog X.w a l)) (hk : NksAt X.K H l) (hb : NkAt X.K H k b) (few : l.length < sizeLine) (rv : RelV v r)
    (h1 : ∀ x, atN l k = some x → ∀ w' s', Inv X pins σ H s' → RelV x w' → Q w' s')
    (h2 : atN l k = none → ∀ s', Inv X pins σ (upd H a (NdiO X.prog X.w a (putN l k b v))) s' → Q r s') : wpAny (model X.prog X.w) A (call (.builtin "dict.setdefault") [.ref a, .ref b, r]) Q E s := by
  obtain ⟨z, hd, us, rel, dd⟩ := ndi_of I ha hk
  have hz : us.length ≤ sizeLine := by rw [← Paired.length rel]; exact z
  have hl : (putN l k b v).length ≤ sizeLine := by have := len_putN l k b v; omega
  have ro := rel.at_ k
  refine call_setdefault_heap (hsz := hz) hu (nk_is I hb) hd dd (fun p hp => ?_) fun hn h' dd' hs => ?_
  · rw [hp] at ro
    cases e : atN l k with
    | none =>
      rw [e] at ro
      exact ro.elim
    | some x =>
      rw [e] at ro
      exact h1 x e _ _ (I.tok _) ro
  · rw [hn] at ro
    cases e : atN l k with
    | some x =>
      rw [e] at ro
      exact ro.elim
    | none =>
      refine h2 e _ ?_
      obtain ⟨q, es, ep, hq, g2, g3, g4, _, g5⟩ := dd'
      exact d_write I (by rw [ha]; exact True.intro) hs ⟨q, hq⟩ (ndi_new ⟨hl, hd, _, rel.put k rv, q, es, ep, hq, g2, g3, g4, g5⟩)
end
/-! ### as rules -/
/-- {} -/
def tNNew (P : Program) (w : World) : TE := fun _ H Q => ∀ p, H p = none → Q (.ref p) (upd H p (NdiO P w p []))
/-- the dict at a, the key at b -/
structure NdAt (K : PySem.W.Frag) (P : Program) (w : World) (H : Hp) (a b : Addr) (l : List Nen) (k : NestedKey) : Prop where
  at_ : H a = some (NdiO P w a l)
  ks : NksAt K H l
  kb : NkAt K H k b
/-- d[k] -/
def tNGet (K : PySem.W.Frag) (P : Program) (w : World) (td ty : TE) : TE := fun σ H Q => td σ H fun x H1 => ty σ H1 fun y H2 => ∃ a b l k v, x = .ref a ∧ y = .ref b ∧ NdAt K P w H2 a b l k ∧ atN l k = some v ∧ Q v H2
/-- d.get(k, x) -/
def tNGet2 (K : PySem.W.Frag) (P : Program) (w : World) (td ty tx : TE) : TE := fun σ H Q => td σ H fun x H1 => ∃ a l0, x = .ref a ∧ H1 a = some (NdiO P w a l0) ∧ ty σ H1 fun y H2 => tx σ H2 fun z H3 => ∃ b l k, y = .ref b ∧ NdAt K P w H3 a b l k ∧ Q ((atN l k).getD z) H3
/-- d.setdefault(k, x) -/
def tNSetd (K : PySem.W.Frag) (P : Program) (w : World) (td ty tx : TE) : TE := fun σ H Q => td σ H fun x H1 => ∃ a l0, x = .ref a ∧ H1 a = some (NdiO P w a l0) ∧ ty σ H1 fun y H2 => tx σ H2 fun z H3 => ∃ b l k, y = .ref b ∧ NdAt K P w H3 a b l k ∧ l.length < sizeLine ∧
  (∀ v, atN l k = some v → Q v H3) ∧ (atN l k = none → Q z (upd H3 a (NdiO P w a (putN l k b z))))
/-- d[k] = v -/
def sNPut (K : PySem.W.Frag) (P : Program) (w : World) (td ty tv : TE) : TS := fun D σ H => tv σ H fun v H1 => td σ H1 fun x H2 => ty σ H2 fun y H3 => ∃ a b l k, x = .ref a ∧ y = .ref b ∧ NdAt K P w H3 a b l k ∧ l.length < sizeLine ∧ D.nx σ (upd H3 a (NdiO P w a (putN l k b v)))
section
variable {X : Cx} {o i e f value : Expr} {pos pos' apos cpos : Pos} {td ty tx tv : TE}
theorem pe_nnew : PE X (.Dict [] [] pos) (tNNew X.prog X.w) := ⟨fun pins s σ H Q I h =>
  wpAny_Dict_empty ⟨.ref s.heap.objs.size, _, I.laid (a := s.heap.objs.size) (o := NdiO X.prog X.w s.heap.objs.size []) (t' := s.toks) (fun _ _ q => Heap.get?_push_of_some _ q) (Nat.le_refl _) (ndi_empty s.heap I.big), rfl, h _ (I.hok.fresh (Nat.le_refl _))⟩⟩
theorem pe_nget (hu : X.A.in1.units + 8 < cLine) (ho : PE X o td) (hi : PE X i ty) (hs : NoSl i) : PE X (.Subscript o i pos) (tNGet X.K X.prog X.w td ty) := by
  refine ⟨fun pins s σ H Q I h => ?_⟩
  refine subD_of PySem.F.slot_dict_getitem.lookup hs (thn (ho.run pins s σ H _ I h) fun u s1 ⟨x, H1, I1, rx, q1⟩ => thn (hi.run pins s1 σ H1 _ I1 q1) fun iv s2 ⟨y, H2, I2, ry, a, b, l, k, v, ex, ey, g, e, q2⟩ => ?_)
  subst ex ey
  obtain rfl : u = Value.ref a := rx
  obtain rfl : iv = Value.ref b := ry
  exact ⟨(n_isD I2 g.at_).1, n_getItem hu I2 g.at_ g.ks g.kb e fun w' s3 I3 rw' => ⟨v, H2, I3, rw', q2⟩⟩
theorem pe_nget2 (hu : X.A.in1.units + 8 < cLine) (ho : PE X o td) (he : PE X e ty) (hf : PE X f tx) (m : M2 X o "get" apos e f cpos) : PE X (.Call (.Attribute o "get" apos) [e, f] [] cpos) (tNGet2 X.K X.prog X.w td ty tx) := by
  refine ⟨fun pins s σ H Q I h => ?_⟩
  refine wpAny_Call_method m.base m.few m.line PySem.F.plainAttrs_dict PySem.F.slot_dict_get PySem.F.type_dict_get (thn (ho.run pins s σ H _ I h) fun u s1 ⟨x, H1, I1, rx, a, l0, ex, d, q1⟩ => ?_)
  subst ex
  obtain rfl : u = Value.ref a := rx
  obtain ⟨t1, t2, _⟩ := n_isD I1 d
  refine ⟨t1, t2, ?_⟩
  rw [m.trees]
  refine Calls.callWith_builtin rfl (Calls.evalArgs_plain (Calls.spliced_cons (thn (he.run pins s1 σ H1 _ I1 q1) fun iv s2 ⟨y, H2, I2, ry, q2⟩ =>
    Calls.spliced_cons (thn (hf.run pins s2 σ H2 _ I2 q2) fun fv s3 ⟨z, H3, I3, rz, b, l, k, ey, g, q3⟩ => Calls.spliced_nil ?_))))
  subst ey
  obtain rfl : iv = Value.ref b := ry
  exact n_get2 hu I3 g.at_ g.ks g.kb rz fun w' s4 I4 rw' => ⟨_, H3, I4, rw', q3⟩
theorem pe_nsetd (hu : X.A.in1.units + 8 < cLine) (ho : PE X o td) (he : PE X e ty) (hf : PE X f tx) (m : M2 X o "setdefault" apos e f cpos) : PE X (.Call (.Attribute o "setdefault" apos) [e, f] [] cpos) (tNSetd X.K X.prog X.w td ty tx) := by
  refine ⟨fun pins s σ H Q I h => ?_⟩
  refine wpAny_Call_method m.base m.few m.line PySem.F.plainAttrs_dict PySem.F.slot_dict_setdefault PySem.F.type_dict_setdefault (thn (ho.run pins s σ H _ I h) fun u s1 ⟨x, H1, I1, rx, a, l0, ex, d, q1⟩ => ?_)
  subst ex
  obtain rfl : u = Value.ref a := rx
  obtain ⟨t1, t2, _⟩ := n_isD I1 d
  refine ⟨t1, t2, ?_⟩
  rw [m.trees]
  refine Calls.callWith_builtin rfl (Calls.evalArgs_plain (Calls.spliced_cons (thn (he.run pins s1 σ H1 _ I1 q1) fun iv s2 ⟨y, H2, I2, ry, q2⟩ =>
    Calls.spliced_cons (thn (hf.run pins s2 σ H2 _ I2 q2) fun fv s3 ⟨z, H3, I3, rz, b, l, k, ey, g, few, q3, q4⟩ => Calls.spliced_nil ?_))))
  subst ey
  obtain rfl : iv = Value.ref b := ry
  exact n_setdefault hu I3 g.at_ g.ks g.kb few rz (fun x e w' s4 I4 rw' => ⟨x, H3, I4, rw', q3 x e⟩) fun e s4 I4 => ⟨z, _, I4, rz, q4 e⟩
theorem ps_nput (hu : X.A.in1.units + 8 < cLine) (ho : PE X o td) (hi : PE X i ty) (hv : PE X value tv) (hs : swapsWith value (some (.Subscript o i pos')) pos.line X.env = pure false) :
    PS X (.Assign [.Subscript o i pos'] value pos) (sNPut X.K X.prog X.w td ty tv) := by
  refine ⟨fun pins s σ H D I h => ?_⟩
  refine wpAny_Assign_Subscript (thn (hv.run pins s σ H _ I h) fun r s1 ⟨v, H1, I1, rv, q1⟩ => thn (ho.run pins s1 σ H1 _ I1 q1) fun u s2 ⟨x, H2, I2, rx, q2⟩ => thn (hi.run pins s2 σ H2 _ I2 q2) fun iv s3 ⟨y, H3, I3, ry, a, b, l, k, ex, ey, g, few, q3⟩ => ?_) hs
  subst ex ey
  obtain rfl : u = Value.ref a := rx
  obtain rfl : iv = Value.ref b := ry
  exact n_setItem hu I3 g.at_ g.ks g.kb few rv fun s4 I4 => ⟨σ, _, I4, q3⟩
end
/-! ### sorted -/
def rSortedN (K : PySem.W.Frag) (P : Program) (w : World) : List V → Hp → VK → Prop := fun vs H Q => ∃ (d : Addr) (kvs : List Nen), vs = [.ref d] ∧ H d = some (NdiO P w d kvs) ∧ NksAt K H kvs ∧ (∀ e ∈ kvs, ∃ ks, e.1 = .tup ks) ∧ PySem.W.AllAlike (kvs.map fun kv => kv.1.data) ∧
  ∀ p, H p = none → Q (.ref p) (upd H p (.lst (sortV (kvs.map fun e => V.ref e.2.1) (kvs.map fun kv => kv.1.data))))
theorem nv_addrs {kvs : List Nen} {us : List (NestedKey × Addr × Value)} (r : NV kvs us) : us.map (fun x => x.2.1) = kvs.map fun e => e.2.1 := by
  unfold NV at r
  induction r with
  | nil => rfl
  | cons h t ih => rw [List.map_cons, List.map_cons, ih, h.2.1]
theorem dp_nens {K : PySem.W.Frag} {H : Hp} : ∀ {kvs : List Nen}, NksAt K H kvs → DpAll K H (kvs.map fun e => V.ref e.2.1) (kvs.map fun kv => kv.1.data)
  | [], _ => .nil
  | p :: kvs, h => .cons (h p List.mem_cons_self).1 (dp_nens fun q hq => h q (List.mem_cons_of_mem _ hq))
mutual
theorem depth_data : ∀ k : NestedKey, k.data.depth ≤ k.depth
  | .none => by simp [NestedKey.data, PyData.depth]
  | .num i => by simp [NestedKey.data, PyData.depth]
  | .text x => by simp [NestedKey.data, PyData.depth]
  | .tup ks => by
    have := depth_datas ks
    simp only [NestedKey.data, PyData.depth, NestedKey.depth]
    omega
theorem depth_datas : ∀ ks : List NestedKey, PyData.depthAll (NestedKey.datas ks) ≤ NestedKey.depthAll ks
  | [] => by simp [NestedKey.datas, PyData.depthAll]
  | k :: ks => by
    have := depth_data k
    have := depth_datas ks
    simp only [NestedKey.datas, PyData.depthAll, NestedKey.depthAll]
    omega
end
section
variable {X : Cx}
theorem cr_sortedN (hc : X.calm = true) (hu : X.A.units + 64 < cLine) : CallR X (.builtin "sorted") (rSortedN X.K X.prog X.w) := by
  intro pins s σ H xs us Q I r h
  obtain ⟨d, kvs, rfl, hd, hka, htu, hal, q⟩ := h
  obtain ⟨u, rfl, rx⟩ := r.one
  cases rx
  obtain ⟨z, hs, ks, pr, o, es, ep, ho, hx, hdt, he, hn⟩ := (I.hok d _ hd).1
  have l1 : es.size = ks.length := size_of_entries he
  have l2 : kvs.length = ks.length := Paired.length pr
  refine PySem.W.sorted_src (kdl_raw hs hx hdt) (I.ok.hd hc) ho (by omega) fun h' tk acc kp it => ?_
  have ea : acc.toList = ks.map fun x => Value.ref x.2.1 := by
    have hl : acc.toList.length = ks.length := by rw [Array.length_toList, it.1]; exact l1
    apply List.ext_getElem?
    intro j
    rw [List.getElem?_map]
    cases hj : acc.toList[j]? with
    | none =>
      have h1 := List.getElem?_eq_none_iff.mp hj
      rw [List.getElem?_eq_none (by omega)]
      all_goals rfl
    | some v =>
      obtain ⟨en, hen, hv⟩ := it.2 j v (by rw [← Array.getElem?_toList]; exact hj)
      have qe := entry_at he j
      rw [hen] at qe
      cases hb : ks[j]? with
      | none =>
        rw [hb] at qe
        exact nomatch (show some en = none from qe)
      | some b =>
        rw [hb] at qe
        have e2 : en = entryOfKey (NK X.prog X.w) b := Option.some.inj qe
        rw [hv, e2]
        all_goals rfl
  have eb : acc.toList = (ks.map fun x => x.2.1).map Value.ref := by rw [ea, List.map_map]; all_goals rfl
  have rv : Vals ((ks.map fun x => x.2.1).map V.ref) acc.toList := by rw [eb]; exact vals_refs _
  have ik : ks.map (fun x => x.2.1) = kvs.map fun e => e.2.1 := nv_addrs pr
  rw [ik] at eb rv
  generalize hbs : kvs.map (fun e => e.2.1) = bs at eb rv
  have hbs' : bs.map V.ref = kvs.map fun e => V.ref e.2.1 := by rw [← hbs, List.map_map]; rfl
  have hdp : DpAll X.K H (bs.map V.ref) (kvs.map fun kv => kv.1.data) := by rw [hbs']; exact dp_nens hka
  have len := dpAll_len hdp
  have em : ((bs.map V.ref).zip (kvs.map fun kv => kv.1.data)).map Prod.snd = kvs.map fun kv => kv.1.data := zip_snd len
  have I1 : Inv X pins σ H { s with heap := h', toks := tk } := I.kept kp
  have e := each_pairs I1 rv hdp
  have hoL : (h'.push (seqObj "list" acc.toList.toArray 0)).get? h'.objs.size = some (seqObj "list" acc.toList.toArray 0) := Heap.get?_push_size _ rfl
  have old : ∀ b u, h'.get? b = some u → (PySem.W.sortingHeap (h'.push (seqObj "list" acc.toList.toArray 0)) h'.objs.size acc.toList).get? b = some u := fun b u hb =>
    PySem.W.sortingHeap_old (Nat.ne_of_lt (Heap.lt_size hb)) (Heap.get?_push_of_some _ hb)
  have er : PySem.W.EachIs (fun (v : Value) (b : V × PyData) => ∃ as, Reads (PySem.W.sortingHeap (h'.push (seqObj "list" acc.toList.toArray 0)) h'.objs.size acc.toList) v b.2 as) acc.toList ((bs.map V.ref).zip (kvs.map fun kv => kv.1.data)) :=
    e.mono fun v b h => by
      obtain ⟨as, rr⟩ := Dp.reads I1 b.2 b.1 v h.2 h.1
      exact ⟨as, PyProof.Rows.Reads.keeps old rr⟩
  refine ⟨((bs.map V.ref).zip (kvs.map fun kv => kv.1.data)).map Prod.snd, PySem.W.SortsAt.ok (PySem.W.each_map (R := fun v d => ∃ as, Reads (PySem.W.sortingHeap (h'.push (seqObj "list" acc.toList.toArray 0)) h'.objs.size acc.toList) v d as) Prod.snd er) (by rw [em]; exact hal) (.inl ?_) (PySem.W.bound_map ?_), ?_⟩
  · intro d hd
    rw [em] at hd
    obtain ⟨kv, hm, rfl⟩ := List.mem_map.mp hd
    obtain ⟨ks, ek⟩ := htu kv hm
    rw [ek]
    exact ⟨_, rfl⟩
  · intro b hb
    have hb := (List.of_mem_zip hb).2
    obtain ⟨kv, hm, e⟩ := List.mem_map.mp hb
    have := depth_data kv.1
    have := (hka kv hm).2
    rw [← e]
    show X.A.units + 1 + 1 + (kv.1.data).depth < cLine
    omega
  · have eo := PySem.W.sortVals_data false e er (by rw [em]; exact hal)
    obtain ⟨o1, o2⟩ := pairs_out eo
    obtain ⟨c, hcc⟩ := PyProof.Rows.sortedHeap_at (vs := acc.toList) (out := (PySem.W.sortVals (PySem.W.dataKind (PySem.W.sortingHeap (h'.push (seqObj "list" acc.toList.toArray 0)) h'.objs.size acc.toList) (((bs.map V.ref).zip (kvs.map fun kv => kv.1.data)).map Prod.snd)) false acc.toList acc.toList).toArray) hoL
    have ln : (sortV (bs.map V.ref) (kvs.map fun kv : Nen => kv.1.data)).length ≤ sizeLine := by
      unfold sortV
      rw [List.length_map, List.length_mergeSort, List.length_zip, len, Nat.min_self, List.length_map]
      omega
    have o1 : Vals (sortV (bs.map V.ref) (kvs.map fun kv : Nen => kv.1.data)) _ := o1
    refine ⟨.ref h'.objs.size, upd H h'.objs.size (.lst (sortV (bs.map V.ref) (kvs.map fun kv : Nen => kv.1.data))), I1.laid (t' := tk) (fun b u e => ?_) (Nat.le_refl _) ⟨ln, _, c, o1, hcc⟩, rfl, hbs' ▸ q _ (I1.hok.fresh (Nat.le_refl _))⟩
    have hlt := Heap.lt_size e
    rw [PyProof.Rows.sortedHeap_old (Nat.ne_of_lt hlt) (by rw [size_push']; exact Nat.lt_succ_of_lt hlt)]
    exact Heap.get?_push_of_some _ e
end
end Wb

set_option Elab.async false
set_option linter.all false
set_option maxRecDepth 100000
set_option maxHeartbeats 4000000
/-! Ta0: the tally of letters, as lists. -/
namespace Ta
open PySem PySem.Spec PyProof.Rows
abbrev Wd := List Int
/-- a letter: number, edition, word -/
abbrev Lt := Int × Int × Wd
/-- a row of a tally: number, last edition, its words -/
abbrev Rw := Int × Int × List Wd
/-! ### each thing once -/
section
variable {α : Type} [DecidableEq α]
def add1 (f : List α) (x : α) : List α := if x ∈ f then f else f ++ [x]
def once (l : List α) : List α := l.foldl add1 []
theorem mem_add1 {f : List α} {x y : α} : y ∈ add1 f x ↔ y ∈ f ∨ y = x := by
  unfold add1
  split
  · next h => exact ⟨.inl, fun h' => h'.elim id fun e => e ▸ h⟩
  · simp
theorem nd_add1 {f : List α} {x : α} (h : f.Nodup) : (add1 f x).Nodup := by
  unfold add1
  split
  · exact h
  · next hx =>
    refine List.nodup_append.mpr ⟨h, List.pairwise_singleton _ _, fun a ha b hb e => ?_⟩
    rw [List.mem_singleton] at hb
    exact hx (hb ▸ e ▸ ha)
theorem once_snoc (l : List α) (x : α) : once (l ++ [x]) = add1 (once l) x := by unfold once; rw [List.foldl_append]; rfl
theorem once_foldl {l f : List α} : (∀ y, y ∈ l.foldl add1 f ↔ y ∈ f ∨ y ∈ l) ∧ (f.Nodup → (l.foldl add1 f).Nodup) := by
  induction l generalizing f with
  | nil => exact ⟨fun y => by simp, id⟩
  | cons x l ih =>
    rw [List.foldl_cons]
    refine ⟨fun y => ?_, fun h => ih.2 (nd_add1 h)⟩
    rw [ih.1, mem_add1, List.mem_cons, or_assoc]
theorem mem_once {l : List α} {y : α} : y ∈ once l ↔ y ∈ l := by
  have := (once_foldl (l := l) (f := [])).1 y
  unfold once
  simpa using this
theorem nd_once (l : List α) : (once l).Nodup := (once_foldl (l := l) (f := [])).2 List.nodup_nil
theorem once_perm {l m : List α} (h : ∀ y, y ∈ l ↔ y ∈ m) : (once l).Perm (once m) := (List.perm_ext_iff_of_nodup (nd_once l) (nd_once m)).mpr fun y => by rw [mem_once, mem_once]; exact h y
theorem once_len (l : List α) : (once l).length ≤ l.length := by
  have h : ∀ (l f : List α), (l.foldl add1 f).length ≤ f.length + l.length := fun l => by
    induction l with
    | nil => intro f; simp
    | cons x l ih =>
      intro f
      rw [List.foldl_cons, List.length_cons]
      have := ih (add1 f x)
      have h2 : (add1 f x).length ≤ f.length + 1 := by
        unfold add1
        split
        · omega
        · simp
      omega
  unfold once
  simpa using h l []
end
/-! ### sorted -/
theorem uniq_sorted {α : Type} {le : α → α → Prop} (anti : ∀ a b, le a b → le b a → a = b) : ∀ {l m : List α}, l.Perm m → l.Pairwise le → m.Pairwise le → l = m
  | [], m, p, _, _ => (p.nil_eq)
  | x :: l, [], p, _, _ => absurd p.length_eq (by simp)
  | x :: l, y :: m, p, h1, h2 => by
    have h1' := List.pairwise_cons.mp h1
    have h2' := List.pairwise_cons.mp h2
    have e : x = y := by
      have hx : x ∈ y :: m := p.mem_iff.mp List.mem_cons_self
      have hy : y ∈ x :: l := p.mem_iff.mpr List.mem_cons_self
      rcases List.mem_cons.mp hx with e | hx
      · exact e
      · rcases List.mem_cons.mp hy with e | hy
        · exact e.symm
        · exact anti _ _ (h1'.1 _ hy) (h2'.1 _ hx)
    subst e
    rw [uniq_sorted anti (List.Perm.cons_inv p) h1'.2 h2'.2]
def sortI (l : List Int) : List Int := l.mergeSort fun a b => decide (a ≤ b)
def sortW (l : List Wd) : List Wd := l.mergeSort fun a b => decide (a ≤ b)
theorem sortI_perm (l : List Int) : (sortI l).Perm l := List.mergeSort_perm _ _
theorem sortW_perm (l : List Wd) : (sortW l).Perm l := List.mergeSort_perm _ _
theorem sortI_pw (l : List Int) : (sortI l).Pairwise (· ≤ ·) := by
  have := List.pairwise_mergeSort (le := fun a b : Int => decide (a ≤ b)) (fun a b c h1 h2 => by simp at *; omega) (fun a b => by simp; omega) l
  exact this.imp fun h => by simpa using h
theorem wle_trans {a b c : Wd} (h1 : a ≤ b) (h2 : b ≤ c) : a ≤ c := List.le_trans h1 h2
theorem wle_anti {a b : Wd} (h1 : a ≤ b) (h2 : b ≤ a) : a = b := List.le_antisymm h1 h2
theorem wle_total (a b : Wd) : a ≤ b ∨ b ≤ a := List.le_total a b
theorem sortW_pw (l : List Wd) : (sortW l).Pairwise (· ≤ ·) := by
  have := List.pairwise_mergeSort (le := fun a b : Wd => decide (a ≤ b)) (fun a b c h1 h2 => decide_eq_true (wle_trans (of_decide_eq_true h1) (of_decide_eq_true h2))) (fun a b => by
    rcases wle_total a b with h | h
    · simp [h]
    · simp [h]) l
  exact this.imp fun h => of_decide_eq_true h
theorem sortI_uniq {l m : List Int} (p : l.Perm m) (h : l.Pairwise (· ≤ ·)) : l = sortI m := uniq_sorted (fun a b h1 h2 => Int.le_antisymm h1 h2) (p.trans (sortI_perm m).symm) h (sortI_pw m)
theorem sortI_eq {l m : List Int} (p : l.Perm m) : sortI l = sortI m := sortI_uniq ((sortI_perm l).trans p) (sortI_pw l)
theorem sortW_eq {l m : List Wd} (p : l.Perm m) : sortW l = sortW m := uniq_sorted (fun a b h1 h2 => wle_anti h1 h2) ((sortW_perm l).trans (p.trans (sortW_perm m).symm)) (sortW_pw l) (sortW_pw m)
theorem mem_sortI {l : List Int} {x : Int} : x ∈ sortI l ↔ x ∈ l := (sortI_perm l).mem_iff
theorem mem_sortW {l : List Wd} {x : Wd} : x ∈ sortW l ↔ x ∈ l := (sortW_perm l).mem_iff
/-! ### the tally -/
def nums (ls : List Lt) : List Int := ls.map (·.1)
def upd1 (n : Int) (m : Int) (x : Lt) : Int := if x.1 = n then max x.2.1 m else m
/-- the last edition of a number; 0 of none -/
def last (ls : List Lt) (n : Int) : Int := ls.foldl (upd1 n) 0
def wordsOf (ls : List Lt) (n : Int) : List Wd := (ls.filter fun x => decide (x.1 = n ∧ x.2.1 = last ls n)).map (·.2.2)
def tally (ls : List Lt) : List Rw := (sortI (once (nums ls))).map fun n => (n, last ls n, sortW (once (wordsOf ls n)))
def letters (rows : List Rw) : List Lt := rows.flatMap fun r => r.2.2.map fun w => (r.1, r.2.1, w)
/-- no edition is below 0 -/
def Pos (ls : List Lt) : Prop := ∀ x ∈ ls, 0 ≤ x.2.1
theorem Pos.app {a b : List Lt} (h1 : Pos a) (h2 : Pos b) : Pos (a ++ b) := fun x hx => (List.mem_append.mp hx).elim (h1 x) (h2 x)
theorem last_from (n : Int) : ∀ (ls : List Lt) (m : Int), m ≤ ls.foldl (upd1 n) m ∧ (∀ x ∈ ls, x.1 = n → x.2.1 ≤ ls.foldl (upd1 n) m) ∧ (ls.foldl (upd1 n) m = m ∨ ∃ x ∈ ls, x.1 = n ∧ x.2.1 = ls.foldl (upd1 n) m)
  | [], m => ⟨Int.le_refl _, fun x hx => (nomatch hx), .inl rfl⟩
  | y :: ls, m => by
    rw [List.foldl_cons]
    obtain ⟨h1, h2, h3⟩ := last_from n ls (upd1 n m y)
    have hm : m ≤ upd1 n m y := by
      unfold upd1
      split
      · exact Int.le_max_right _ _
      · exact Int.le_refl _
    refine ⟨Int.le_trans hm h1, fun x hx e => ?_, ?_⟩
    · rcases List.mem_cons.mp hx with rfl | hx
      · refine Int.le_trans ?_ h1
        unfold upd1
        rw [if_pos e]
        exact Int.le_max_left _ _
      · exact h2 x hx e
    · rcases h3 with h3 | ⟨x, hx, e1, e2⟩
      · by_cases e : y.1 = n
        · have : upd1 n m y = m ∨ upd1 n m y = y.2.1 := by
            unfold upd1
            rw [if_pos e]
            omega
          rcases this with h | h
          · exact .inl (h3.trans h)
          · exact .inr ⟨y, List.mem_cons_self, e, (h3.trans h).symm⟩
        · have h : upd1 n m y = m := by unfold upd1; rw [if_neg e]
          exact .inl (h3.trans h)
      · exact .inr ⟨x, List.mem_cons_of_mem _ hx, e1, e2⟩
theorem last_ge {ls : List Lt} {x : Lt} (h : x ∈ ls) : x.2.1 ≤ last ls x.1 := (last_from x.1 ls 0).2.1 x h rfl
theorem last_pos (ls : List Lt) (n : Int) : 0 ≤ last ls n := (last_from n ls 0).1
theorem last_at {ls : List Lt} {n : Int} (p : Pos ls) (h : n ∈ nums ls) : ∃ w, (n, last ls n, w) ∈ ls := by
  obtain ⟨x, hx, rfl⟩ := List.mem_map.mp h
  rcases (last_from x.1 ls 0).2.2 with e | ⟨y, hy, e1, e2⟩
  · refine ⟨x.2.2, ?_⟩
    have h1 := last_ge hx
    have h2 := p x hx
    have e' : last ls x.1 = 0 := e
    have : x.2.1 = last ls x.1 := by omega
    rw [← this]
    exact hx
  · refine ⟨y.2.2, ?_⟩
    have : last ls x.1 = y.2.1 := e2.symm
    rw [this, ← e1]
    exact hy
theorem last_uniq {ls : List Lt} {n m : Int} (h0 : 0 ≤ m) (h1 : ∀ x ∈ ls, x.1 = n → x.2.1 ≤ m) (h2 : m = 0 ∨ ∃ x ∈ ls, x.1 = n ∧ x.2.1 = m) : last ls n = m := by
  have a := (last_from n ls 0).2.1
  have b := last_pos ls n
  have c := (last_from n ls 0).2.2
  have d : last ls n ≤ m := by
    rcases c with c | ⟨x, hx, e1, e2⟩
    · have : last ls n = 0 := c
      omega
    · have : x.2.1 = last ls n := e2
      have := h1 x hx e1
      omega
  have e : m ≤ last ls n := by
    rcases h2 with h2 | ⟨x, hx, e1, e2⟩
    · omega
    · have : x.2.1 ≤ last ls n := a x hx e1
      omega
  omega
theorem mem_words {ls : List Lt} {n : Int} {w : Wd} : w ∈ wordsOf ls n ↔ (n, last ls n, w) ∈ ls := by
  unfold wordsOf
  rw [List.mem_map]
  constructor
  · rintro ⟨x, hx, rfl⟩
    obtain ⟨h, e⟩ := List.mem_filter.mp hx
    obtain ⟨e1, e2⟩ := of_decide_eq_true e
    rw [← e2, ← e1]
    exact h
  · intro h
    exact ⟨_, List.mem_filter.mpr ⟨h, decide_eq_true ⟨rfl, rfl⟩⟩, rfl⟩
/-- what a tally hangs on -/
theorem tally_of {a b : List Lt} (hn : ∀ n, n ∈ nums a ↔ n ∈ nums b) (hl : ∀ n, n ∈ nums a → last a n = last b n) (hw : ∀ n w, n ∈ nums a → ((n, last a n, w) ∈ a ↔ (n, last b n, w) ∈ b)) : tally a = tally b := by
  unfold tally
  rw [sortI_eq (once_perm hn)]
  refine List.map_congr_left fun n h => ?_
  have h : n ∈ nums a := (hn n).mpr (mem_once.mp (mem_sortI.mp h))
  rw [hl n h, sortW_eq (once_perm fun w => (mem_words (ls := a)).trans ((hw n w h).trans mem_words.symm))]
theorem tally_ext {a b : List Lt} (h : ∀ x, x ∈ a ↔ x ∈ b) : tally a = tally b := by
  have hl : ∀ n, last a n = last b n := fun n => by
    refine last_uniq (last_pos _ _) (fun x hx e => e ▸ last_ge ((h x).mp hx)) ?_
    rcases (last_from n b 0).2.2 with e | ⟨x, hx, e1, e2⟩
    · exact .inl e
    · exact .inr ⟨x, (h x).mpr hx, e1, e2⟩
  refine tally_of (fun n => ?_) (fun n _ => hl n) fun n w _ => by rw [hl n]; exact h _
  unfold nums
  rw [List.mem_map, List.mem_map]
  exact ⟨fun ⟨x, hx, e⟩ => ⟨x, (h x).mp hx, e⟩, fun ⟨x, hx, e⟩ => ⟨x, (h x).mpr hx, e⟩⟩
theorem mem_letters {ls : List Lt} {x : Lt} : x ∈ letters (tally ls) ↔ x ∈ ls ∧ x.2.1 = last ls x.1 := by
  unfold letters tally
  rw [List.mem_flatMap]
  constructor
  · rintro ⟨r, hr, hx⟩
    obtain ⟨n, hn, rfl⟩ := List.mem_map.mp hr
    obtain ⟨w, hw, rfl⟩ := List.mem_map.mp hx
    exact ⟨mem_words.mp (mem_once.mp (mem_sortW.mp hw)), rfl⟩
  · rintro ⟨hx, e⟩
    refine ⟨_, List.mem_map.mpr ⟨x.1, mem_sortI.mpr (mem_once.mpr (List.mem_map.mpr ⟨x, hx, rfl⟩)), rfl⟩, List.mem_map.mpr ⟨x.2.2, mem_sortW.mpr (mem_once.mpr (mem_words.mpr (by rw [← e]; exact hx))), by rw [← e]⟩⟩
theorem Pos.letters {ls : List Lt} (p : Pos ls) : Pos (letters (tally ls)) := fun x hx => p x (mem_letters.mp hx).1
/-- told together with others, the letters of a tally tell what all of them tell -/
theorem tally_back {a b c : List Lt} (p : Pos a) (q : Pos b) (hs : ∀ x, x ∈ c ↔ x ∈ letters (tally a) ∨ x ∈ letters (tally b)) : tally c = tally (a ++ b) := by
  have pc : Pos (a ++ b) := p.app q
  have sub : ∀ x, x ∈ c → x ∈ a ++ b := fun x hx => List.mem_append.mpr (((hs x).mp hx).imp (fun h => (mem_letters.mp h).1) fun h => (mem_letters.mp h).1)
  have up : ∀ x, x ∈ a ++ b → x.2.1 = last (a ++ b) x.1 → x ∈ c := fun x hx e => by
    refine (hs x).mpr ((List.mem_append.mp hx).imp (fun h => mem_letters.mpr ⟨h, ?_⟩) fun h => mem_letters.mpr ⟨h, ?_⟩)
    · obtain ⟨w, hw⟩ := last_at p (List.mem_map.mpr ⟨x, h, rfl⟩)
      have h1 := last_ge h
      have h2 : last a x.1 ≤ last (a ++ b) x.1 := last_ge (x := (x.1, last a x.1, w)) (List.mem_append.mpr (.inl hw))
      omega
    · obtain ⟨w, hw⟩ := last_at q (List.mem_map.mpr ⟨x, h, rfl⟩)
      have h1 := last_ge h
      have h2 : last b x.1 ≤ last (a ++ b) x.1 := last_ge (x := (x.1, last b x.1, w)) (List.mem_append.mpr (.inr hw))
      omega
  have hn : ∀ n, n ∈ nums c ↔ n ∈ nums (a ++ b) := fun n => by
    constructor
    · intro h
      obtain ⟨x, hx, e⟩ := List.mem_map.mp h
      exact List.mem_map.mpr ⟨x, sub x hx, e⟩
    · intro h
      obtain ⟨w, hw⟩ := last_at pc h
      exact List.mem_map.mpr ⟨_, up _ hw rfl, rfl⟩
  have hl : ∀ n, n ∈ nums c → last c n = last (a ++ b) n := fun n h => by
    refine last_uniq (last_pos _ _) (fun x hx e => e ▸ last_ge (sub x hx)) (.inr ?_)
    obtain ⟨w, hw⟩ := last_at pc ((hn n).mp h)
    exact ⟨_, up _ hw rfl, rfl, rfl⟩
  refine tally_of hn hl fun n w h => ?_
  rw [hl n h]
  exact ⟨fun hx => sub _ hx, fun hx => up _ hx rfl⟩
theorem tally_merge {a b : List Lt} (p : Pos a) (q : Pos b) : tally (letters (tally a) ++ letters (tally b)) = tally (a ++ b) := tally_back p q fun x => List.mem_append
theorem tally_heard {a : List Lt} {x : Lt} (p : Pos a) (q : 0 ≤ x.2.1) : tally (letters (tally a) ++ [x]) = tally (a ++ [x]) := by
  refine tally_back (b := [x]) p (fun y hy => by rw [List.mem_singleton] at hy; rw [hy]; exact q) fun y => ?_
  rw [List.mem_append, List.mem_singleton, mem_letters (ls := [x]), List.mem_singleton]
  refine or_congr Iff.rfl ⟨fun e => ⟨e, ?_⟩, fun h => h.1⟩
  subst e
  have h1 := last_ge (ls := [y]) List.mem_cons_self
  rcases (last_from y.1 [y] 0).2.2 with e | ⟨z, hz, e1, e2⟩
  · have e' : last [y] y.1 = 0 := e
    omega
  · rw [List.mem_singleton] at hz
    subst hz
    exact e2
end Ta

set_option Elab.async false
set_option linter.all false
set_option maxRecDepth 100000
set_option maxHeartbeats 4000000
/-! Ta1: the dicts by which a tally is told. -/
namespace Ta
open PySem PySem.Spec PyProof.Rows L2 Wb
theorem last_snoc (l : List Lt) (x : Lt) (n : Int) : last (l ++ [x]) n = if x.1 = n then max x.2.1 (last l n) else last l n := by
  unfold last
  rw [List.foldl_append]
  rfl
theorem last_none {l : List Lt} {n : Int} (h : n ∉ nums l) : last l n = 0 := by
  rcases (last_from n l 0).2.2 with e | ⟨x, hx, e1, _⟩
  · exact e
  · exact absurd (List.mem_map.mpr ⟨x, hx, e1⟩) h
theorem nums_snoc (l : List Lt) (x : Lt) : nums (l ++ [x]) = nums l ++ [x.1] := by unfold nums; rw [List.map_append]; rfl
/-- numbers by what stands for them -/
def byN (f : Int → V) (ns : List Int) : List (Key × V) := ns.map fun n => (.inl n, f n)
theorem val_byN {f : Int → V} {n : Int} : ∀ {ns : List Int}, valV (byN f ns) (.inl n) = if n ∈ ns then some (f n) else none
  | [] => rfl
  | m :: ns => by
    by_cases e : m = n
    · subst e
      rw [if_pos List.mem_cons_self]
      exact valV_pos rfl
    · have e1 : ¬ (Sum.inl m : Key) = .inl n := fun z => e (Sum.inl.inj z)
      have : valV (byN f (m :: ns)) (.inl n) = valV (byN f ns) (.inl n) := valV_neg e1
      rw [this, val_byN]
      by_cases h : n ∈ ns
      · rw [if_pos h, if_pos (List.mem_cons_of_mem _ h)]
      · rw [if_neg h, if_neg fun z => (List.mem_cons.mp z).elim (fun z => e z.symm) h]
theorem put_byN {f g : Int → V} {ns : List Int} {n : Int} {v : V} (hv : g n = v) (hf : ∀ m, m ≠ n → g m = f m) : putK (byN f ns) (.inl n) v = byN g (add1 ns n) := by
  unfold add1
  by_cases h : n ∈ ns
  · rw [if_pos h]
    unfold putK
    rw [if_pos (by rw [valV_any, val_byN, if_pos h]; rfl)]
    unfold byN
    rw [List.map_map]
    refine List.map_congr_left fun m _ => ?_
    by_cases e : m = n
    · subst e
      show (if (Sum.inl m : Key) = .inl m then ((Sum.inl m : Key), v) else _) = _
      rw [if_pos rfl, hv]
    · show (if (Sum.inl m : Key) = .inl n then _ else ((Sum.inl m : Key), f m)) = _
      rw [if_neg fun z => e (Sum.inl.inj z), hf m e]
  · rw [if_neg h, putK_new _ (by rw [val_byN, if_neg h])]
    unfold byN
    rw [List.map_append]
    congr 1
    · refine List.map_congr_left fun m hm => ?_
      rw [hf m fun e => h (e ▸ hm)]
    · rw [List.map_cons, hv]
      rfl
/-- the last editions, as they are met -/
def eds (l : List Lt) : List (Key × V) := byN (fun n => .int (last l n)) (once (nums l))
theorem get_eds (l : List Lt) (n : Int) : (valV (eds l) (.inl n)).getD (.int 0) = .int (last l n) := by
  unfold eds
  rw [val_byN]
  by_cases h : n ∈ nums l
  · rw [if_pos (mem_once.mpr h)]
    rfl
  · rw [if_neg fun z => h (mem_once.mp z), last_none h]
    rfl
theorem put_eds (l : List Lt) (x : Lt) : putK (eds l) (.inl x.1) (.int (max x.2.1 (last l x.1))) = eds (l ++ [x]) := by
  unfold eds
  rw [nums_snoc, once_snoc]
  refine put_byN ?_ fun m e => ?_
  · show V.int (last (l ++ [x]) x.1) = _
    rw [last_snoc, if_pos rfl]
  · show V.int (last (l ++ [x]) m) = _
    rw [last_snoc, if_neg fun z => e z.symm]
theorem eds_len (l : List Lt) : (eds l).length ≤ l.length := by
  unfold eds byN
  rw [List.length_map]
  exact Nat.le_trans (once_len _) (by unfold nums; rw [List.length_map]; exact Nat.le_refl _)
theorem val_eds {l : List Lt} {n : Int} (h : n ∈ nums l) : valV (eds l) (.inl n) = some (.int (last l n)) := by
  unfold eds
  rw [val_byN, if_pos (mem_once.mpr h)]
/-- the words of a number that were met among t, of its last edition among ls -/
def met (ls t : List Lt) (n : Int) : List Wd := once ((t.filter fun x => decide (x.1 = n ∧ x.2.1 = last ls n)).map (·.2.2))
theorem met_all (ls : List Lt) (n : Int) : met ls ls n = once (wordsOf ls n) := rfl
theorem met_snoc (ls t : List Lt) (x : Lt) (n : Int) : met ls (t ++ [x]) n = if x.1 = n ∧ x.2.1 = last ls n then add1 (met ls t n) x.2.2 else met ls t n := by
  unfold met
  rw [List.filter_append, List.map_append]
  by_cases h : x.1 = n ∧ x.2.1 = last ls n
  · rw [if_pos h]
    have : [x].filter (fun x => decide (x.1 = n ∧ x.2.1 = last ls n)) = [x] := by
      rw [List.filter_cons, if_pos (decide_eq_true h)]
      rfl
    rw [this]
    exact once_snoc _ _
  · rw [if_neg h]
    have : [x].filter (fun x => decide (x.1 = n ∧ x.2.1 = last ls n)) = [] := by
      rw [List.filter_cons, if_neg (fun z => h (of_decide_eq_true z))]
      rfl
    rw [this, List.map_nil, List.append_nil]
/-- a word as a key -/
def wk (w : Wd) : List Key := w.map .inl
theorem wk_inj {u w : Wd} (h : wk u = wk w) : u = w := by
  unfold wk at h
  exact (List.map_inj_right fun a b e => Sum.inl.inj e).mp h
/-- a dict of words, each with True -/
structure Ws (K : PySem.W.Frag) (B : Hp) (ws : List Wd) (kvs : List En) : Prop where
  keys : kvs.map (·.1) = ws.map wk
  vals : ∀ p ∈ kvs, p.2.2 = .bl true
  at_ : KeysAt K B kvs
theorem Ws.nil {K : PySem.W.Frag} {B : Hp} : Ws K B [] [] := ⟨rfl, fun p h => (nomatch h), fun p h => (nomatch h)⟩
theorem atH_some {kvs : List En} {k : List Key} : (atH kvs k).isSome = true ↔ k ∈ kvs.map (·.1) := by
  unfold atH
  rw [Option.isSome_map, List.find?_isSome, List.mem_map]
  exact ⟨fun ⟨x, hx, e⟩ => ⟨x, hx, of_decide_eq_true e⟩, fun ⟨x, hx, e⟩ => ⟨x, hx, decide_eq_true e⟩⟩
theorem Ws.put {K : PySem.W.Frag} {B : Hp} {ws : List Wd} {kvs : List En} (h : Ws K B ws kvs) {w : Wd} {b : Addr} (hb : KeyAt K B (wk w) b) : Ws K B (add1 ws w) (putH kvs (wk w) b (.bl true)) := by
  unfold add1 putH
  have e : (atH kvs (wk w)).isSome = true ↔ w ∈ ws := by
    rw [atH_some, h.keys, List.mem_map]
    exact ⟨fun ⟨u, hu, e⟩ => wk_inj e ▸ hu, fun hu => ⟨w, hu, rfl⟩⟩
  by_cases q : w ∈ ws
  · rw [if_pos q, if_pos (e.mpr q)]
    have same : kvs.map (fun p => if p.1 = wk w then (p.1, p.2.1, V.bl true) else p) = kvs := by
      refine (List.map_congr_left fun p hp => ?_).trans (List.map_id _)
      split
      · rw [← h.vals p hp]
        rfl
      · rfl
    rw [same]
    exact h
  · rw [if_neg q, if_neg fun z => q (e.mp z)]
    refine ⟨by rw [List.map_append, List.map_append, h.keys]; rfl, fun p hp => ?_, fun p hp => ?_⟩
    · rcases List.mem_append.mp hp with hp | hp
      · exact h.vals p hp
      · rw [List.mem_singleton] at hp
        rw [hp]
    · rcases List.mem_append.mp hp with hp | hp
      · exact h.at_ p hp
      · rw [List.mem_singleton] at hp
        rw [hp]
        exact hb
theorem Ws.mono {K : PySem.W.Frag} {B B' : Hp} {ws : List Wd} {kvs : List En} (h : Ws K B ws kvs) (s : ∀ a o, B a = some o → B' a = some o) : Ws K B' ws kvs := ⟨h.keys, h.vals, fun p hp => (h.at_ p hp).same s⟩
theorem Ws.len {K : PySem.W.Frag} {B : Hp} {ws : List Wd} {kvs : List En} (h : Ws K B ws kvs) : kvs.length = ws.length := by
  have := congrArg List.length h.keys
  rwa [List.length_map, List.length_map] at this
end Ta

set_option Elab.async false
set_option linter.all false
set_option maxRecDepth 100000
set_option maxHeartbeats 4000000
/-! Wy1: {n: {} for n in d}. -/
namespace Wv
open PySem PySem.Spec PyProof.Rows L2 Wb Ta
theorem dc_news {P : Program} {w : World} {σ : L2.St} {j : Nat} {E D : Addr} {od : Obj} {f : Int → V} {ns : List Int} {H1 : Hp} {Qd : Hp → Prop} (hw : ∀ x, wipe ((wipe σ [j]).set j (some x)) [j] = wipe σ [j]) (hx : ∀ x, ((wipe σ [j]).set j (some x))[j]? = some (some x))
    (hE : H1 E = some (.frz od (.dK (byN f ns)))) (hD : H1 D = none) (nd : ns.Nodup) (few : ns.length < sizeLine)
    (hd : ∀ (as : List Addr) (J : Hp), as.length = ns.length → as.Nodup → (∀ a ∈ as, H1 a = none ∧ a ≠ D ∧ J a = some (DicO P w a [])) → J D = some (.dK ((ns.zip as).map fun p => (.inl p.1, .ref p.2))) → (∀ b, b ∉ as → b ≠ D → J b = H1 b) → Qd J) :
    ∃ W : Nat → Nat → Hp → Prop, (∃ m, W 0 m (upd H1 D (.dK []))) ∧ ∀ i m H, W i m H →
      ((Itk E od (byN f ns)).stop i H ∧ Qd H) ∨ ((Itk E od (byN f ns)).go i H ∧ ∃ Nx : Hp → Prop, (∀ H', Nx H' → ∃ m', m' < m ∧ W (i + 1) m' H') ∧ ∀ x H', (Itk E od (byN f ns)).yld i H x H' → gName j x (wipe σ [j]) H' fun σ2 H2 => wipe σ2 [j] = wipe σ [j] ∧ tYes σ2 H2 fun b H3 =>
        if b = true then (tVar j) σ2 H3 fun y H4 => (tHNew P w) σ2 H4 fun z H5 => ∃ kvs k, y = kV k ∧ H5 D = some (.dK kvs) ∧ kvs.length < sizeLine ∧ Nx (upd H5 D (.dK (putK kvs k z))) else Nx H3) := by
  have nE : E ≠ D := ne_of_none hE hD
  have ln : (byN f ns).length = ns.length := by unfold byN; rw [List.length_map]
  let Pv : Nat → Hp → Prop := fun i J => ∃ as : List Addr, as.length = i ∧ i ≤ ns.length ∧ as.Nodup ∧ (∀ a ∈ as, H1 a = none ∧ a ≠ D ∧ J a = some (DicO P w a [])) ∧ J D = some (.dK (((ns.take i).zip as).map fun p => (.inl p.1, .ref p.2))) ∧ ∀ b, b ∉ as → b ≠ D → J b = H1 b
  have frE : ∀ {i J}, Pv i J → J E = some (.frz od (.dK (byN f ns))) := fun {i J} ⟨as, _, _, _, h, _, o⟩ => by
    rw [o E (fun z => by rw [(h E z).1] at hE; cases hE) nE]
    exact hE
  refine ⟨fun i m J => m = ns.length - i ∧ Pv i J, ⟨ns.length, by simp, [], rfl, Nat.zero_le _, List.nodup_nil, fun a h => (nomatch h), by rw [upd_same]; simp, fun b _ n => upd_ne n⟩, ?_⟩
  rintro i m J ⟨rfl, p⟩
  have e := frE p
  obtain ⟨as, hl, hi, hn, ha, hJ, ho⟩ := p
  by_cases lt : i < ns.length
  · refine .inr ⟨⟨e, by rw [ln]; exact lt⟩, Pv (i + 1), fun H' p' => ⟨ns.length - (i + 1), by omega, rfl, p'⟩, fun x H' y => ?_⟩
    obtain ⟨rfl, k, v, hk, rfl⟩ := y
    have hn' : ns[i]? = some ns[i] := List.getElem?_eq_getElem lt
    have hk' : (byN f ns)[i]? = some (.inl ns[i], f ns[i]) := by
      unfold byN
      rw [List.getElem?_map, hn']
      rfl
    rw [hk'] at hk
    cases hk
    refine ⟨hw _, ?_⟩
    unfold tYes
    dsimp only
    rw [if_pos rfl]
    refine ⟨_, hx _, fun p hp => ?_⟩
    have pa : p ∉ as := fun z => by rw [(ha p z).2.2] at hp; cases hp
    have pD : p ≠ D := fun z => by rw [z, hJ] at hp; cases hp
    have pH : H1 p = none := by rw [← ho p pa pD]; exact hp
    have tk : (ns.take (i + 1)).zip (as ++ [p]) = (ns.take i).zip as ++ [(ns[i], p)] := by
      rw [List.take_succ, hn', Option.toList_some, List.zip_append (by rw [List.length_take]; omega)]
      rfl
    refine ⟨_, .inl ns[i], rfl, (upd_ne fun z => pD z.symm).trans hJ, ?_, as ++ [p], by simp [hl], lt, ?_, fun a h => ?_, ?_, fun b nb nbD => ?_⟩
    · rw [List.length_map, List.length_zip, List.length_take]
      omega
    · refine List.nodup_append.mpr ⟨hn, List.pairwise_singleton _ _, fun a h1 b h2 z => ?_⟩
      rw [List.mem_singleton] at h2
      exact pa (h2 ▸ z ▸ h1)
    · rcases List.mem_append.mp h with h | h
      · obtain ⟨h1, h2, h3⟩ := ha a h
        refine ⟨h1, h2, ?_⟩
        rw [upd_ne h2, upd_ne (show a ≠ p from fun z => pa (z ▸ h))]
        exact h3
      · rw [List.mem_singleton] at h
        subst h
        refine ⟨pH, pD, ?_⟩
        rw [upd_ne pD, upd_same]
    · rw [upd_same, putK_new, tk, List.map_append]
      · rfl
      · cases q : valV (((ns.take i).zip as).map fun p => ((.inl p.1 : Key), V.ref p.2)) (.inl ns[i]) with
        | none => rfl
        | some z =>
          exfalso
          have a := valV_any (.inl ns[i] : Key) (((ns.take i).zip as).map fun p => ((.inl p.1 : Key), V.ref p.2))
          rw [q] at a
          obtain ⟨c, hc, hcc⟩ := List.any_eq_true.mp a
          obtain ⟨d, hd, rfl⟩ := List.mem_map.mp hc
          have e1 : d.1 = ns[i] := Sum.inl.inj (of_decide_eq_true hcc)
          have e2 : d.1 ∈ ns.take i := (List.of_mem_zip hd).1
          rw [e1] at e2
          obtain ⟨j, hj, e3⟩ := List.mem_take_iff_getElem.mp e2
          exact List.pairwise_iff_getElem.mp nd j i (by omega) lt (by omega) e3
    · have n1 : b ∉ as := fun z => nb (List.mem_append_left _ z)
      have n2 : b ≠ p := fun z => nb (List.mem_append_right _ (by rw [z]; exact List.mem_singleton.mpr rfl))
      rw [upd_ne nbD, upd_ne n2]
      exact ho b n1 nbD
  · have e' : i = ns.length := by omega
    subst e'
    rw [List.take_length] at hJ
    exact .inl ⟨⟨e, by rw [ln]; exact Nat.le_refl _⟩, hd as J hl hn ha hJ ho⟩
/-- what stands for a number -/
def adOf (ns : List Int) (as : List Addr) (n : Int) : Addr := (as[ns.idxOf n]?).getD 0
theorem adOf_mem {ns : List Int} {as : List Addr} {n : Int} (hl : as.length = ns.length) (h : n ∈ ns) : adOf ns as n ∈ as := by
  unfold adOf
  have lt : ns.idxOf n < as.length := by rw [hl]; exact List.idxOf_lt_length_of_mem h
  rw [List.getElem?_eq_getElem lt]
  exact List.getElem_mem lt
theorem adOf_inj {ns : List Int} {as : List Addr} {n m : Int} (hl : as.length = ns.length) (nd : as.Nodup) (h1 : n ∈ ns) (h2 : m ∈ ns) (e : adOf ns as n = adOf ns as m) : n = m := by
  unfold adOf at e
  have l1 : ns.idxOf n < ns.length := List.idxOf_lt_length_of_mem h1
  have l2 : ns.idxOf m < ns.length := List.idxOf_lt_length_of_mem h2
  rw [List.getElem?_eq_getElem (by omega), List.getElem?_eq_getElem (by omega)] at e
  have q : ns.idxOf n = ns.idxOf m := by
    rcases Nat.lt_trichotomy (ns.idxOf n) (ns.idxOf m) with h | h | h
    · exact absurd e (List.pairwise_iff_getElem.mp nd _ _ (by omega) (by omega) h)
    · exact h
    · exact absurd e.symm (List.pairwise_iff_getElem.mp nd _ _ (by omega) (by omega) h)
  have a : ns[ns.idxOf n] = n := List.getElem_idxOf l1
  have b : ns[ns.idxOf m] = m := List.getElem_idxOf l2
  rw [← a, ← b]
  simp only [q]
theorem zip_byN {ns : List Int} {as : List Addr} (hl : as.length = ns.length) (nd : ns.Nodup) : ((ns.zip as).map fun p => ((.inl p.1 : Key), V.ref p.2)) = byN (fun n => .ref (adOf ns as n)) ns := by
  apply List.ext_getElem?
  intro i
  unfold byN
  rw [List.getElem?_map, List.getElem?_map]
  by_cases lt : i < ns.length
  · have la : i < as.length := by omega
    have h1 : (ns.zip as)[i]? = some (ns[i], as[i]) := by
      rw [List.getElem?_eq_getElem (by rw [List.length_zip]; omega), List.getElem_zip]
    rw [h1, List.getElem?_eq_getElem lt]
    have q : ns.idxOf ns[i] = i := by
      have l1 : ns.idxOf ns[i] < ns.length := List.idxOf_lt_length_of_mem (List.getElem_mem lt)
      have a : ns[ns.idxOf ns[i]] = ns[i] := List.getElem_idxOf l1
      rcases Nat.lt_trichotomy (ns.idxOf ns[i]) i with h | h | h
      · exact absurd a (List.pairwise_iff_getElem.mp nd _ _ l1 lt h)
      · exact h
      · exact absurd a.symm (List.pairwise_iff_getElem.mp nd _ _ lt l1 h)
    show some ((Sum.inl ns[i] : Key), V.ref as[i]) = some (Sum.inl ns[i], V.ref (adOf ns as ns[i]))
    unfold adOf
    rw [q, List.getElem?_eq_getElem la]
    rfl
  · rw [List.getElem?_eq_none (by rw [List.length_zip]; omega), List.getElem?_eq_none (by omega)]
    rfl
end Wv

set_option Elab.async false
set_option linter.all false
set_option maxRecDepth 100000
set_option maxHeartbeats 4000000
/-! Wy2: hidden things laid open; sorted of dicts; words sorted. -/
namespace Wv
open PySem PySem.Spec PyProof.Rows L2 Wb Ta
section
variable {B H B0 H0 : Hp}
def openH (B H : Hp) (zs : List Addr) : Hp := fun b => if b ∈ zs then H b else B b
theorem Ext.openAll (e : Ext B0 H0 B H) {zs : List Addr} (hz : ∀ a ∈ zs, B a = none ∧ H0 a = none) : Ext B0 H0 (openH B H zs) H :=
  ⟨e.hh, fun b x z => by
    unfold openH
    rw [if_neg fun h => by have := (hz b h).1; rw [e.bb _ _ z] at this; cases this]
    exact e.bb b x z, fun b x z => by
    unfold openH at z
    split at z
    · exact z
    · exact e.bh b x z, fun b h1 h2 => by
    unfold openH
    rw [if_neg fun h => h1 (hz b h).2]
    exact e.nw b h1 h2⟩
theorem openH_sub {zs : List Addr} (hz : ∀ a ∈ zs, B a = none) : Same B (openH B H zs) := fun b x z => by
  unfold openH
  rw [if_neg fun h => by have := hz b h; rw [z] at this; cases this]
  exact z
theorem openH_at {zs : List Addr} {a : Addr} (h : a ∈ zs) : openH B H zs a = H a := if_pos h
end
section
variable {K : PySem.W.Frag} {σ : L2.St} {B : Hp} {ta : TE} {P : Program} {w : World}
/-- sorted(d), d a dict with ints as keys -/
theorem rc_sortedDI {a : Addr} {f : Int → V} {ns : List Int} (few : ns.length < 64) : Rc (fun xs H Q => ∃ (a : Addr) (kvs : List (Key × V)) (ks : List Int), xs = [.ref a] ∧ Rd H a (.dK kvs) ∧ kvs.map (·.1) = ks.map Sum.inl ∧ ks.length < 64 ∧
    ∀ (ys : List Int) (p : Addr), ys.Perm ks → ys.Pairwise (· ≤ ·) → H p = none → Q (.ref p) (upd H p (.lst (ys.map V.int)))) B [dicR a (byN f ns)] (dat K (.list ((sortI ns).map .int))) := fun vs B1 H _ s2 hv Q q => by
  obtain ⟨v, r, rfl, ⟨rfl, ha⟩, h2⟩ := hv
  have h2 : r = [] := h2
  subst h2
  refine ⟨a, byN f ns, ns, rfl, .inl (s2 _ _ ha), by unfold byN; rw [List.map_map]; rfl, few, fun ys p hp hs hn => ?_⟩
  rw [sortI_uniq hp hs]
  refine q _ (upd B1 p (.lst ((sortI ns).map V.int))) _ (.new s2 hn) (.lst (SqL.of upd_same) ?_)
  have all : ∀ (l : List Int) (H : Hp), DpAll K H (l.map V.int) (l.map PyData.int) := fun l H => by
    induction l with
    | nil => exact .nil
    | cons i l ih => exact .cons (.int i) ih
  exact all _ _
/-- a dict of words that stays -/
def wsR (K : PySem.W.Frag) (P : Program) (w : World) (a : Addr) (ws : List Wd) : Rel := fun B v => ∃ kvs, v = .ref a ∧ B a = some (DicO P w a kvs) ∧ Ws K B ws kvs
instance {a : Addr} {ws : List Wd} : Mo (wsR K P w a ws) := ⟨fun s ⟨kvs, e, h, q⟩ => ⟨kvs, e, s _ _ h, q.mono s⟩⟩
def wordD (x : Wd) : PyData := .tuple (x.map .int)
theorem keyDt_wk (x : Wd) : keyDt (wk x) = wordD x := by
  unfold keyDt wk wordD
  rw [List.map_map]
  rfl
theorem dle_word (a b : Wd) : dle (wordD a) (wordD b) = decide (a ≤ b) := by
  have h := congrFun (congrFun (PySem.W.dataLe_rows (fun x : Wd => x)) a) b
  rw [← h]
  show (!PySem.W.dataLt (.tuple (b.map .int)) (.tuple (a.map .int))) = (!PySem.W.dataLt (.list (b.map .int)) (.list (a.map .int)))
  rw [PySem.W.dataLt_tuple, PySem.W.dataLt_list]
theorem sortD_words (ws : List Wd) : sortD (ws.map wordD) = (sortW ws).map wordD := by
  unfold sortD sortW
  exact (List.map_mergeSort (s := dle) (f := wordD) (r := fun a b => decide (a ≤ b)) (fun a _ b _ => (dle_word a b).symm)).symm
theorem alike_ints : ∀ a b : Wd, PySem.W.alikeAll (a.map .int) (b.map .int) = true
  | [], _ => by simp [PySem.W.alikeAll]
  | _ :: _, [] => by simp [PySem.W.alikeAll]
  | x :: a, y :: b => by
    simp only [List.map_cons, PySem.W.alikeAll, PySem.W.alike, Bool.true_and]
    exact alike_ints a b
theorem alike_words (ws : List Wd) : PySem.W.AllAlike (ws.map wordD) := by
  intro d hd d' hd'
  obtain ⟨a, _, rfl⟩ := List.mem_map.mp hd
  obtain ⟨b, _, rfl⟩ := List.mem_map.mp hd'
  show PySem.W.alike (.tuple (a.map .int)) (.tuple (b.map .int)) = true
  simp only [PySem.W.alike]
  exact alike_ints a b
theorem rc_sortedW {a : Addr} {ws : List Wd} : Rc (rSortedH K P w) B [wsR K P w a ws] (dat K (.list ((sortW ws).map wordD))) := fun vs B1 H _ s2 hv Q q => by
  obtain ⟨v, r, rfl, ⟨kvs, rfl, ha, hw⟩, h2⟩ := hv
  have h2 : r = [] := h2
  subst h2
  have ek : (kvs.map fun kv => keyDt kv.1) = ws.map wordD := by
    have := congrArg (List.map keyDt) hw.keys
    rw [List.map_map, List.map_map] at this
    refine this.trans (List.map_congr_left fun x _ => keyDt_wk x)
  refine ⟨a, kvs, rfl, s2 _ _ ha, fun p hp => (hw.at_ p hp).same s2, by rw [ek]; exact alike_words ws, fun p hn => ?_⟩
  rw [← sortD_words, ← ek] at q
  exact q _ (upd B1 p _) _ (.new s2 hn) (.lst (SqL.of upd_same) (dpMonoAll (new_same (s2.free hn)) _ _ (dp_sort (dp_ens hw.at_))))
end
end Wv

set_option Elab.async false
set_option linter.all false
set_option maxRecDepth 100000
set_option maxHeartbeats 4000000
/-! Wn4: lists heaped up by keys. -/
namespace Wv
open PySem PySem.Spec PyProof.Rows L2 Wb
/-! ### a dict that stays -/
def atHs {α : Type} (hs : List (NestedKey × α)) (k : NestedKey) : Option α := (hs.find? fun p => decide (p.1 = k)).map (·.2)
def EntR (K : PySem.W.Frag) (B : Hp) : List Nen → List (NestedKey × PyData) → Prop := Paired fun e h => e.1 = h.1 ∧ dat K h.2 B e.2.2
def hdR (K : PySem.W.Frag) (P : Program) (w : World) (hs : List (NestedKey × PyData)) : Rel := fun B v => ∃ a l, v = .ref a ∧ B a = some (NdiO P w a l) ∧ NksAt K B l ∧ EntR K B l hs
theorem EntR.mono {K : PySem.W.Frag} {B B' : Hp} {l : List Nen} {hs : List (NestedKey × PyData)} (h : EntR K B l hs) (s : Same B B') : EntR K B' l hs := by
  unfold EntR at *
  induction h with
  | nil => exact .nil
  | cons h t ih => exact .cons ⟨h.1, dpMono s _ _ h.2⟩ ih
theorem EntR.at_ {K : PySem.W.Frag} {B : Hp} {l : List Nen} {hs : List (NestedKey × PyData)} (h : EntR K B l hs) {k : NestedKey} {x : PyData} : atHs hs k = some x → ∃ v, atN l k = some v ∧ dat K x B v := by
  unfold EntR at h
  induction h with
  | nil => intro e; cases e
  | @cons p q ps qs h t ih =>
    intro e
    unfold atHs at e ih
    unfold atN at ih ⊢
    rw [List.find?_cons] at e ⊢
    by_cases g : q.1 = k
    · have g' : p.1 = k := h.1.trans g
      simp only [g, decide_true, Option.map_some, Option.some.injEq] at e
      simp only [g', decide_true, Option.map_some]
      exact ⟨_, rfl, e ▸ h.2⟩
    · have g' : ¬ p.1 = k := fun z => g (h.1.symm.trans z)
      simp only [g, decide_false] at e
      simp only [g', decide_false]
      exact ih e
theorem EntR.keys {K : PySem.W.Frag} {B : Hp} {l : List Nen} {hs : List (NestedKey × PyData)} (h : EntR K B l hs) : l.map (·.1) = hs.map (·.1) := by
  unfold EntR at h
  induction h with
  | nil => rfl
  | cons h t ih => rw [List.map_cons, List.map_cons, h.1, ih]
instance {K : PySem.W.Frag} {P : Program} {w : World} {hs : List (NestedKey × PyData)} : Mo (hdR K P w hs) := ⟨fun s ⟨a, l, e, h, g, m⟩ => ⟨a, l, e, s a _ h, fun p hp => (g p hp).same s, m.mono s⟩⟩
instance {K : PySem.W.Frag} {k : NestedKey} : Mo (nkR K k) := ⟨fun s ⟨b, e, h⟩ => ⟨b, e, h.same s⟩⟩
section
variable {K : PySem.W.Frag} {P : Program} {w : World} {σ : L2.St} {B : Hp} {ta tb tc : TE}
theorem De.nget {hs : List (NestedKey × PyData)} {k : NestedKey} {x : PyData} (hd : De ta σ B (hdR K P w hs)) (hk : De tb σ B (nkR K k)) (e : atHs hs k = some x) : De (tNGet K P w ta tb) σ B (dat K x) := fun B1 H s1 s2 Q q =>
  hd B1 H s1 s2 _ fun v B2 H2 e2 hv => hk B2 H2 (s1.trans e2.bb) e2.bh _ fun u B3 H3 e3 hu => by
    obtain ⟨a, l, rfl, ha, hks, hen⟩ := hv
    obtain ⟨b, rfl, hb⟩ := hu
    have hen := hen.mono e3.bb
    obtain ⟨y, hy, hx⟩ := hen.at_ e
    exact ⟨a, b, l, k, y, rfl, rfl, ⟨e3.bh _ _ (e3.bb _ _ ha), fun p hp => ((hks p hp).same e3.bb).same e3.bh, hb.same e3.bh⟩, hy, q y B3 H3 (e2.trans e3) hx⟩
theorem rc_sortedN {hs : List (NestedKey × PyData)} (tu : ∀ p ∈ hs, ∃ ks, p.1 = .tup ks) (al : PySem.W.AllAlike (hs.map fun p => p.1.data)) : Rc (rSortedN K P w) B [hdR K P w hs] (dat K (.list (sortD (hs.map fun p => p.1.data)))) := fun vs B1 H _ s2 hv Q q => by
  obtain ⟨v, r, rfl, ⟨a, l, rfl, ha, hks, hen⟩, h2⟩ := hv
  have h2 : r = [] := h2
  subst h2
  have ek : (l.map fun e => e.1.data) = hs.map fun p => p.1.data := by
    have := congrArg (List.map NestedKey.data) hen.keys
    rw [List.map_map, List.map_map] at this
    exact this
  refine ⟨a, l, rfl, s2 _ _ ha, fun p hp => (hks p hp).same s2, fun e he => ?_, by rw [ek]; exact al, fun p hn => ?_⟩
  · have : e.1 ∈ hs.map (·.1) := by rw [← hen.keys]; exact List.mem_map.mpr ⟨e, he, rfl⟩
    obtain ⟨p, hp, e2⟩ := List.mem_map.mp this
    rw [← e2]
    exact tu p hp
  · rw [← ek] at q
    exact q _ (upd B1 p _) _ (.new s2 hn) (.lst (SqL.of upd_same) (dpMonoAll (new_same (s2.free hn)) _ _ (dp_sort (dp_nens hks))))
end
/-! ### the same while it is heaped up -/
def addAt (hs : List (NestedKey × List PyData)) (k : NestedKey) (x : PyData) : List (NestedKey × List PyData) := if k ∈ hs.map (·.1) then hs.map (fun p => if p.1 = k then (p.1, p.2 ++ [x]) else p) else hs ++ [(k, [x])]
def heapsOf (ps : List (NestedKey × PyData)) : List (NestedKey × List PyData) := ps.foldl (fun hs p => addAt hs p.1 p.2) []
structure HEn (K : PySem.W.Frag) (H0 B H : Hp) (D : Addr) (e : Nen) (h : NestedKey × List PyData) (M : Addr) : Prop where
  key : e.1 = h.1
  val : e.2.2 = .ref M
  ne : M ≠ D
  off : H0 M = none
  hid : ∃ xs, Hid B H M (.lst xs) ∧ DpAll K B xs h.2
/-- the dict at D, its keys' lists at Ms, all hidden -/
inductive HEns (K : PySem.W.Frag) (H0 B H : Hp) (D : Addr) : List Nen → List (NestedKey × List PyData) → List Addr → Prop where
  | nil : HEns K H0 B H D [] [] []
  | cons {e h M es hs Ms} : HEn K H0 B H D e h M → HEns K H0 B H D es hs Ms → HEns K H0 B H D (e :: es) (h :: hs) (M :: Ms)
structure Hps (K : PySem.W.Frag) (P : Program) (w : World) (H0 B H : Hp) (D : Addr) (l : List Nen) (hs : List (NestedKey × List PyData)) (Ms : List Addr) : Prop where
  dic : Hid B H D (NdiO P w D l)
  off : H0 D = none
  keys : NksAt K B l
  ent : HEns K H0 B H D l hs Ms
  nd : Ms.Nodup
section
variable {K : PySem.W.Frag} {P : Program} {w : World} {H0 B H B' H' : Hp} {D M : Addr} {l : List Nen} {hs : List (NestedKey × List PyData)} {Ms : List Addr} {e : Nen} {h : NestedKey × List PyData}
theorem HEn.ext (m : HEn K H0 B H D e h M) (x : Ext B H B' H') : HEn K H0 B' H' D e h M := by
  obtain ⟨xs, h1, h2⟩ := m.hid
  exact ⟨m.key, m.val, m.ne, m.off, xs, h1.ext x, dpMonoAll x.bb _ _ h2⟩
theorem HEns.ext (m : HEns K H0 B H D l hs Ms) (x : Ext B H B' H') : HEns K H0 B' H' D l hs Ms := by
  induction m with
  | nil => exact .nil
  | cons h t ih => exact .cons (h.ext x) ih
theorem Hps.ext (m : Hps K P w H0 B H D l hs Ms) (x : Ext B H B' H') : Hps K P w H0 B' H' D l hs Ms := ⟨m.dic.ext x, m.off, fun p hp => (m.keys p hp).same x.bb, m.ent.ext x, m.nd⟩
/-- elsewhere something is written -/
theorem HEns.other {a : Addr} {o : HO} (m : HEns K H0 B H D l hs Ms) (n : a ∉ Ms) : HEns K H0 B (upd H a o) D l hs Ms := by
  induction m with
  | nil => exact .nil
  | @cons e h M es hs Ms h1 t ih =>
    obtain ⟨xs, g1, g2⟩ := h1.hid
    exact .cons ⟨h1.key, h1.val, h1.ne, h1.off, xs, g1.other fun q => n (by rw [q]; exact List.mem_cons_self), g2⟩ (ih fun q => n (List.mem_cons_of_mem _ q))
theorem HEns.keysEq (m : HEns K H0 B H D l hs Ms) : l.map (·.1) = hs.map (·.1) := by
  induction m with
  | nil => rfl
  | cons h t ih => rw [List.map_cons, List.map_cons, h.key, ih]
theorem HEns.noD (m : HEns K H0 B H D l hs Ms) : D ∉ Ms := by
  induction m with
  | nil => exact List.not_mem_nil
  | cons h t ih =>
    intro q
    rcases List.mem_cons.mp q with q | q
    · exact h.ne q.symm
    · exact ih q
theorem HEns.offs (m : HEns K H0 B H D l hs Ms) : ∀ a ∈ Ms, B a = none ∧ H0 a = none ∧ H a ≠ none := by
  induction m with
  | nil => exact fun a h => absurd h List.not_mem_nil
  | cons h t ih =>
    intro a ha
    rcases List.mem_cons.mp ha with rfl | ha
    · obtain ⟨xs, g, _⟩ := h.hid
      exact ⟨g.no, h.off, by rw [g.at_]; exact fun z => nomatch z⟩
    · exact ih a ha
/-- where a key's list stands -/
theorem HEns.find (m : HEns K H0 B H D l hs Ms) (nd : Ms.Nodup) (kd : (hs.map (·.1)).Nodup) {k : NestedKey} {v : V} (e : atN l k = some v) : ∃ M xs ys, v = .ref M ∧ M ∈ Ms ∧ M ≠ D ∧ H0 M = none ∧ Hid B H M (.lst xs) ∧ DpAll K B xs ys ∧ (k, ys) ∈ hs ∧
    ∀ (x : V) (d : PyData), dat K d B x → HEns K H0 B (upd H M (.lst (xs ++ [x]))) D l (hs.map fun p => if p.1 = k then (p.1, p.2 ++ [d]) else p) Ms := by
  induction m with
  | nil => cases e
  | @cons en h M es hs Ms h1 t ih =>
    rw [List.nodup_cons] at nd
    rw [List.map_cons, List.nodup_cons] at kd
    unfold atN at e ih
    rw [List.find?_cons] at e
    by_cases g : en.1 = k
    · simp only [g, decide_true, Option.map_some, Option.some.injEq] at e
      obtain ⟨xs, g1, g2⟩ := h1.hid
      have hk : h.1 = k := h1.key.symm.trans g
      refine ⟨M, xs, h.2, by rw [← e, h1.val], List.mem_cons_self, h1.ne, h1.off, g1, g2, by rw [← hk]; exact List.mem_cons_self, fun x d hx => ?_⟩
      rw [List.map_cons, if_pos hk]
      have same : (hs.map fun p => if p.1 = k then (p.1, p.2 ++ [d]) else p) = hs := by
        conv => rhs; rw [← List.map_id hs]
        refine List.map_congr_left fun p hp => ?_
        rw [if_neg fun z => kd.1 (by rw [hk, ← z]; exact List.mem_map.mpr ⟨p, hp, rfl⟩)]
        rfl
      rw [same]
      refine .cons ⟨h1.key, h1.val, h1.ne, h1.off, _, g1.set, ?_⟩ (t.other nd.1)
      exact dpAll_app g2 (.cons hx .nil)
    · simp only [g, decide_false] at e
      obtain ⟨M', xs, ys, q1, qm, q2, q3, q4, q5, q6, q7⟩ := ih nd.2 kd.2 e
      refine ⟨M', xs, ys, q1, List.mem_cons_of_mem _ qm, q2, q3, q4, q5, List.mem_cons_of_mem _ q6, fun x d hx => ?_⟩
      have hk : ¬ h.1 = k := fun z => g (h1.key.trans z)
      rw [List.map_cons, if_neg hk]
      obtain ⟨zs, g1, g2⟩ := h1.hid
      exact .cons ⟨h1.key, h1.val, h1.ne, h1.off, zs, g1.other fun q => nd.1 (by rw [q]; exact qm), g2⟩ (q7 x d hx)
theorem HEns.snoc (m : HEns K H0 B H D l hs Ms) (h1 : HEn K H0 B H D e h M) : HEns K H0 B H D (l ++ [e]) (hs ++ [h]) (Ms ++ [M]) := by
  induction m with
  | nil => exact .cons h1 .nil
  | cons h t ih => exact .cons h ih
theorem atN_none {k : NestedKey} (h : atN l k = none) : k ∉ l.map (·.1) := fun m => by
  obtain ⟨p, hp, e⟩ := List.mem_map.mp m
  unfold atN at h
  rw [Option.map_eq_none_iff, List.find?_eq_none] at h
  exact h p hp (by simpa using e)
/-- one more, of a key that is there -/
theorem Hps.old (m : Hps K P w H0 B H D l hs Ms) (kd : (hs.map (·.1)).Nodup) {k : NestedKey} {v : V} (e : atN l k = some v) : ∃ M xs ys, v = .ref M ∧ H M = some (.lst xs) ∧ Hid B H M (.lst xs) ∧ H0 M = none ∧ DpAll K B xs ys ∧ (k, ys) ∈ hs ∧
    ∀ (x : V) (d : PyData), dat K d B x → Hps K P w H0 B (upd H M (.lst (xs ++ [x]))) D l (addAt hs k d) Ms := by
  obtain ⟨M, xs, ys, q1, qm, q2, q3, q4, q5, q6, q7⟩ := m.ent.find m.nd kd e
  refine ⟨M, xs, ys, q1, q4.at_, q4, q3, q5, q6, fun x d hx => ?_⟩
  unfold addAt
  rw [if_pos (List.mem_map.mpr ⟨_, q6, rfl⟩)]
  exact ⟨m.dic.other fun q => q2 q.symm, m.off, m.keys, q7 x d hx, m.nd⟩
/-- the first of a key -/
theorem Hps.new (m : Hps K P w H0 B H D l hs Ms) {k : NestedKey} {b p : Addr} {x : V} {d : PyData} (hb : NkAt K B k b) (e : atN l k = none) (np : H p = none) (op : H0 p = none) (s : Same B H) (hx : dat K d B x) :
    Hps K P w H0 B (upd (upd H D (NdiO P w D (putN l k b (.ref p)))) p (.lst [x])) D (putN l k b (.ref p)) (addAt hs k d) (Ms ++ [p]) := by
  have kn : k ∉ hs.map (·.1) := by rw [← m.ent.keysEq]; exact atN_none e
  have pn : p ∉ Ms := fun q => (m.ent.offs p q).2.2 np
  have pD : p ≠ D := fun q => by rw [q, m.dic.at_] at np; cases np
  unfold addAt
  rw [if_neg kn]
  have ep : putN l k b (.ref p) = l ++ [(k, b, .ref p)] := by
    unfold putN
    rw [if_neg (by rw [e]; decide)]
  rw [ep]
  refine ⟨(m.dic.set).other pD.symm, m.off, fun q hq => ?_, ?_, ?_⟩
  · rcases List.mem_append.mp hq with hq | hq
    · exact m.keys q hq
    · rw [List.mem_singleton.mp hq]
      exact hb
  · refine ((m.ent.other m.ent.noD).other pn).snoc ⟨rfl, rfl, pD, op, [x], ⟨upd_same, none_of s np⟩, .cons hx .nil⟩
  · rw [List.nodup_append]
    refine ⟨m.nd, List.nodup_cons.mpr ⟨List.not_mem_nil, List.nodup_nil⟩, fun a ha c hc => ?_⟩
    rw [List.mem_singleton.mp hc]
    intro z
    exact pn (by rw [← z]; exact ha)
/-- laid open: a dict of lists that stays -/
theorem Hps.open (m : Hps K P w H0 B H D l hs Ms) : hdR K P w (hs.map fun p => (p.1, .list p.2)) (openH B H (D :: Ms)) (.ref D) ∧ ∀ a ∈ D :: Ms, B a = none ∧ H0 a = none := by
  have offs : ∀ a ∈ D :: Ms, B a = none ∧ H0 a = none := fun a ha => by
    rcases List.mem_cons.mp ha with rfl | ha
    · exact ⟨m.dic.no, m.off⟩
    · exact ⟨(m.ent.offs a ha).1, (m.ent.offs a ha).2.1⟩
  have sub : Same B (openH B H (D :: Ms)) := openH_sub fun a ha => (offs a ha).1
  refine ⟨⟨D, l, rfl, by rw [openH_at List.mem_cons_self]; exact m.dic.at_, fun p hp => (m.keys p hp).same sub, ?_⟩, offs⟩
  have go : ∀ {l : List Nen} {hs : List (NestedKey × List PyData)} {Ns : List Addr}, HEns K H0 B H D l hs Ns → (∀ a ∈ Ns, a ∈ D :: Ms) → EntR K (openH B H (D :: Ms)) l (hs.map fun p => (p.1, .list p.2)) := fun m => by
    induction m with
    | nil => exact fun _ => .nil
    | cons h t ih =>
      intro hN
      obtain ⟨xs, g1, g2⟩ := h.hid
      refine .cons ⟨h.key, ?_⟩ (ih fun a ha => hN a (List.mem_cons_of_mem _ ha))
      show dat K (.list _) _ _
      rw [h.val]
      refine .lst (SqL.of ?_) (dpMonoAll sub _ _ g2)
      rw [openH_at (hN _ List.mem_cons_self)]
      exact g1.at_
  exact go m.ent fun a ha => List.mem_cons_of_mem _ ha
end
/-! ### what comes of it -/
def valsAt (ps : List (NestedKey × PyData)) (k : NestedKey) : List PyData := (ps.filter fun q => decide (q.1 = k)).map (·.2)
theorem addAt_keys (hs : List (NestedKey × List PyData)) (k : NestedKey) (x : PyData) : (addAt hs k x).map (·.1) = if k ∈ hs.map (·.1) then hs.map (·.1) else hs.map (·.1) ++ [k] := by
  unfold addAt
  split
  · rw [List.map_map]
    refine List.map_congr_left fun p _ => ?_
    show (if p.1 = k then (p.1, p.2 ++ [x]) else p).1 = p.1
    split <;> rfl
  · rw [List.map_append]
    rfl
structure HOk (hs : List (NestedKey × List PyData)) (done : List (NestedKey × PyData)) : Prop where
  nd : (hs.map (·.1)).Nodup
  ks : ∀ k, k ∈ hs.map (·.1) ↔ k ∈ done.map (·.1)
  vs : ∀ p ∈ hs, p.2 = valsAt done p.1
theorem HOk.add {hs : List (NestedKey × List PyData)} {done : List (NestedKey × PyData)} (h : HOk hs done) (q : NestedKey × PyData) : HOk (addAt hs q.1 q.2) (done ++ [q]) := by
  have va : ∀ k, valsAt (done ++ [q]) k = valsAt done k ++ (if q.1 = k then [q.2] else []) := fun k => by
    unfold valsAt
    rw [List.filter_append, List.map_append]
    congr 1
    by_cases e : q.1 = k <;> simp [e]
  refine ⟨?_, fun k => ?_, fun p hp => ?_⟩
  · rw [addAt_keys]
    split
    · exact h.nd
    · rename_i n
      rw [List.nodup_append]
      refine ⟨h.nd, List.nodup_cons.mpr ⟨List.not_mem_nil, List.nodup_nil⟩, fun a ha c hc => ?_⟩
      rw [List.mem_singleton.mp hc]
      intro z
      exact n (by rw [← z]; exact ha)
  · rw [addAt_keys, List.map_append, List.mem_append, ← h.ks k]
    split
    · rename_i m
      constructor
      · exact .inl
      · rintro (z | z)
        · exact z
        · have z : k = q.1 := by simpa using z
          rw [z]
          exact m
    · rw [List.mem_append]
      rfl
  · rw [va]
    unfold addAt at hp
    split at hp
    · obtain ⟨r, hr, rfl⟩ := List.mem_map.mp hp
      have hv := h.vs r hr
      by_cases e : r.1 = q.1
      · rw [if_pos e, if_pos e.symm, hv]
      · rw [if_neg e, if_neg fun z => e z.symm, List.append_nil]
        exact hv
    · rename_i n
      rcases List.mem_append.mp hp with hp | hp
      · have ne : ¬ q.1 = p.1 := fun z => n (by rw [z]; exact List.mem_map.mpr ⟨p, hp, rfl⟩)
        rw [if_neg ne, List.append_nil]
        exact h.vs p hp
      · rw [List.mem_singleton.mp hp]
        have : valsAt done q.1 = [] := by
          unfold valsAt
          rw [List.map_eq_nil_iff, List.filter_eq_nil_iff]
          intro r hr z
          exact n ((h.ks q.1).mpr (List.mem_map.mpr ⟨r, hr, of_decide_eq_true z⟩))
        rw [this, if_pos rfl]
        rfl
theorem heaps_ok : ∀ (ps done : List (NestedKey × PyData)) (hs : List (NestedKey × List PyData)), HOk hs done → HOk (ps.foldl (fun hs p => addAt hs p.1 p.2) hs) (done ++ ps)
  | [], done, hs, h => by rw [List.append_nil]; exact h
  | p :: ps, done, hs, h => by
    have := heaps_ok ps (done ++ [p]) (addAt hs p.1 p.2) (h.add p)
    rw [List.append_assoc] at this
    exact this
theorem heapsOf_ok (ps : List (NestedKey × PyData)) : HOk (heapsOf ps) ps := heaps_ok ps [] [] ⟨List.nodup_nil, fun k => Iff.rfl, fun p h => absurd h List.not_mem_nil⟩
theorem heapsOf_snoc (ps : List (NestedKey × PyData)) (p : NestedKey × PyData) : heapsOf (ps ++ [p]) = addAt (heapsOf ps) p.1 p.2 := by
  unfold heapsOf
  rw [List.foldl_append]
  rfl
theorem at_heaps {hs : List (NestedKey × List PyData)} {k : NestedKey} {xs : List PyData} (nd : (hs.map (·.1)).Nodup) (h : (k, xs) ∈ hs) : atHs (hs.map fun p => (p.1, PyData.list p.2)) k = some (.list xs) := by
  induction hs with
  | nil => exact absurd h List.not_mem_nil
  | cons p hs ih =>
    rw [List.map_cons, List.nodup_cons] at nd
    unfold atHs at ih ⊢
    rw [List.map_cons, List.find?_cons]
    by_cases e : p.1 = k
    · simp only [e, decide_true, Option.map_some, Option.some.injEq, PyData.list.injEq]
      rcases List.mem_cons.mp h with h | h
      · rw [← h]
      · exact absurd (List.mem_map.mpr ⟨(k, xs), h, e.symm⟩) nd.1
    · simp only [e, decide_false]
      rcases List.mem_cons.mp h with h | h
      · exact absurd (by rw [← h]) e
      · exact ih nd.2 h
theorem addAt_len (hs : List (NestedKey × List PyData)) (k : NestedKey) (x : PyData) : (addAt hs k x).length ≤ hs.length + 1 := by
  unfold addAt
  split
  · rw [List.length_map]; omega
  · rw [List.length_append]; exact Nat.le_refl _
theorem heaps_len : ∀ (ps : List (NestedKey × PyData)) (hs : List (NestedKey × List PyData)), (ps.foldl (fun hs p => addAt hs p.1 p.2) hs).length ≤ hs.length + ps.length
  | [], hs => Nat.le_refl _
  | p :: ps, hs => by
    have a := heaps_len ps (addAt hs p.1 p.2)
    have b := addAt_len hs p.1 p.2
    rw [List.length_cons]
    show (ps.foldl _ (addAt hs p.1 p.2)).length ≤ _
    omega
theorem heapsOf_len (ps : List (NestedKey × PyData)) : (heapsOf ps).length ≤ ps.length := by
  have := heaps_len ps []
  unfold heapsOf
  rw [List.length_nil] at this
  omega
theorem upd_mid {H : Hp} {p D : Addr} {a b o : HO} (n : p ≠ D) : upd (upd (upd H p a) D o) p b = upd (upd H D o) p b := by
  funext q
  by_cases e : q = p
  · subst e
    rw [upd_same, upd_same]
  · rw [upd_ne e, upd_ne e]
    by_cases f : q = D
    · subst f
      rw [upd_same, upd_same]
    · rw [upd_ne f, upd_ne f, upd_ne e]
theorem HEns.len {K : PySem.W.Frag} {H0 B H : Hp} {D : Addr} {l : List Nen} {hs : List (NestedKey × List PyData)} {Ms : List Addr} (m : HEns K H0 B H D l hs Ms) : l.length = hs.length := by
  have := congrArg List.length m.keysEq
  rw [List.length_map, List.length_map] at this
  exact this
/-- d.setdefault(k, []).append(x) -/
theorem s_heap {K : PySem.W.Frag} {P : Program} {w : World} {σ : L2.St} {B0 H0 B H : Hp} {Dd : Addr} {l : List Nen} {hs : List (NestedKey × List PyData)} {Ms : List Addr} {td tk tx : TE} {D : Ends} {k : NestedKey} {b : Addr} {z : V} {d : PyData}
    (e0 : Ext B0 H0 B H) (hp : Hps K P w H0 B H Dd l hs Ms) (kd : (hs.map (·.1)).Nodup) (few : hs.length < sizeLine) (fewV : ∀ p ∈ hs, p.2.length < sizeLine) (htd : ∀ H Q, Q (.ref Dd) H → td σ H Q) (htk : ∀ H Q, Q (.ref b) H → tk σ H Q) (htx : ∀ H Q, Q z H → tx σ H Q) (hb : NkAt K B k b) (hz : dat K d B z)
    (kn : ∀ (l' : List Nen) (Ms' : List Addr) (H' : Hp), Ext B0 H0 B H' → Hps K P w H0 B H' Dd l' (addAt hs k d) Ms' → D.nx σ H') : tDrop (tBM K "list" rAppend (tNSetd K P w td tk (tLst tNil)) (tCons tx tNil)) D σ H := by
  refine htd _ _ ⟨Dd, l, rfl, hp.dic.at_, htk _ _ ⟨Nat.zero_le _, fun p0 np => ?_⟩⟩
  have pD : p0 ≠ Dd := fun q => by rw [q, hp.dic.at_] at np; cases np
  have eA := Ext.newH (o := .lst []) e0.bh np
  have hp2 := hp.ext eA
  refine ⟨b, l, k, rfl, ⟨hp2.dic.at_, fun q hq => (hp.keys q hq).same eA.bh, hb.same eA.bh⟩, by rw [hp.ent.len]; exact few, fun v hv => ?_, fun hn => ?_⟩
  · obtain ⟨M, xs, ys, rfl, hM, hid, off, hd, mem, up⟩ := hp2.old kd hv
    refine ⟨.inl ⟨rfl, _, SqL.of hM⟩, htx _ _ ⟨M, xs, z, rfl, rfl, hM, ?_, ?_⟩⟩
    · rw [dpAll_len hd]
      exact fewV _ mem
    · exact kn _ _ _ ((e0.trans eA).setH hid off) (up z d hz)
  · have op := Ext.oldH e0 np
    refine ⟨.inl ⟨rfl, [], SqL.of (by rw [upd_ne pD, upd_same])⟩, htx _ _ ⟨p0, [], z, rfl, rfl, by rw [upd_ne pD, upd_same], by rw [sizeLine_eq]; decide, ?_⟩⟩
    rw [upd_mid pD]
    have e1 : Ext B0 H0 B (upd H Dd (NdiO P w Dd (putN l k b (.ref p0)))) := e0.setH hp.dic hp.off
    have e2 : Ext B0 H0 B (upd (upd H Dd (NdiO P w Dd (putN l k b (.ref p0)))) p0 (.lst ([] ++ [z]))) := e1.trans (Ext.newH e1.bh (by rw [upd_ne pD]; exact np))
    exact kn _ _ _ e2 (hp.new hb hn np op e0.bh hz)
end Wv

set_option Elab.async false
set_option linter.all false
set_option maxRecDepth 100000
set_option maxHeartbeats 2000000
/-! St0: the table of a set whose things are tuples of any depth. -/
namespace St
open PySem PySem.Spec PyProof.Rows L2 Wb
abbrev Pt := Addr × NestedKey
section
variable {P : Program} {w : World}
/-- asking whether a class statement is met says no -/
def Clsless (P : Program) (w : World) (n : Nat) (s : Shared) (v : Value) : Prop := ∀ (A : Around) (E : Value → Shared → Prop) (Q : Bool → Shared → Prop), Q false s → wpAny (model P w) A (ofAClassStatement n v) Q E s
/-- asking whether the hash goes by the value says something -/
def Byval (P : Program) (w : World) (n : Nat) (s : Shared) (v : Value) : Prop := ∀ (A : Around) (E : Value → Shared → Prop) (Q : Bool → Shared → Prop), (∀ b, Q b s) → wpAny (model P w) A (hashByValue n v) Q E s
theorem clsless_flat {n : Nat} {s : Shared} {v : Value} (h : ofAClassStatement n v = pure false) : Clsless P w n s v := fun A E Q q => by
  rw [h]
  exact wpAny_pure q
theorem byval_flat {n : Nat} {s : Shared} {v : Value} {b : Bool} (h : hashByValue n v = pure b) : Byval P w n s v := fun A E Q q => by
  rw [h]
  exact wpAny_pure (q b)
theorem clsless_tup {n m : Nat} {s : Shared} {a : Addr} {o : Obj} {vs : Array Value} (ho : s.heap.get? a = some o) (hc : o.cls = .type "tuple") (hd : o.data = .seq vs m) (hv : ∀ v ∈ vs.toList, Clsless P w n s v) : Clsless P w (n + 1) s (.ref a) := fun A E Q q => by
  unfold ofAClassStatement
  refine wpAny_bind (wpAny_typeOf (T := "tuple") ⟨o, ho, hc⟩ ?_)
  dsimp only
  rw [show (("tuple" : String) == "tuple") = true by decide]
  simp only [if_true, Bool.not_true, Bool.false_eq_true, if_false]
  try refine wpAny_bind (wpAny_pure ?_)
  try simp only [Bool.not_true, Bool.false_eq_true, if_false]
  show wpAny (model P w) A (seqItems? (.ref a) >>= _) Q E s
  refine wpAny_bind (wpAny_seqItems (Q := _) ho hd ?_)
  dsimp only
  refine wpAny_bind ?_
  show wpAny (model P w) A (forIn vs _ _) _ E s
  rw [← Array.forIn_toList]
  refine wpAny_forIn_list _ (fun us r z => r.1 = none ∧ z = s ∧ ∀ v ∈ us, Clsless P w n s v) _ (fun u us r z g => ?_) (fun r z g => ?_) _ _ ⟨rfl, rfl, hv⟩
  · obtain ⟨g1, rfl, g2⟩ := g
    refine wpAny_bind (g2 u List.mem_cons_self _ _ _ ?_)
    simp only [Bool.false_eq_true, if_false]
    exact wpAny_pure ⟨rfl, rfl, fun x hx => g2 x (List.mem_cons_of_mem _ hx)⟩
  · obtain ⟨r1, r2⟩ := r
    obtain ⟨g1, rfl, _⟩ := g
    cases g1
    exact wpAny_pure q
theorem byval_tup {n m : Nat} {s : Shared} {a : Addr} {o : Obj} {vs : Array Value} (ho : s.heap.get? a = some o) (hc : o.cls = .type "tuple") (hd : o.data = .seq vs m) (hv : ∀ v ∈ vs.toList, Byval P w n s v) : Byval P w (n + 1) s (.ref a) := fun A E Q q => by
  unfold hashByValue
  refine wpAny_bind (wpAny_specialOf (T := "tuple") ⟨o, ho, hc⟩ PySem.F.slot_tuple_hash.lookup ?_)
  show wpAny (model P w) A (seqItems? (.ref a) >>= _) Q E s
  refine wpAny_bind (wpAny_seqItems (Q := _) ho hd ?_)
  refine wpAny_bind ?_
  show wpAny (model P w) A (forIn vs _ _) _ E s
  rw [← Array.forIn_toList]
  refine wpAny_forIn_list _ (fun us r z => r.1 = none ∧ z = s ∧ ∀ v ∈ us, Byval P w n s v) _ (fun u us r z g => ?_) (fun r z g => ?_) _ _ ⟨rfl, rfl, hv⟩
  · obtain ⟨g1, rfl, g2⟩ := g
    refine wpAny_bind (g2 u List.mem_cons_self _ _ _ fun b => ?_)
    cases b
    · simp only [Bool.not_false, if_true]
      exact wpAny_pure (wpAny_pure (q false))
    · simp only [Bool.not_true, Bool.false_eq_true, if_false]
      exact wpAny_pure ⟨rfl, rfl, fun x hx => g2 x (List.mem_cons_of_mem _ hx)⟩
  · obtain ⟨r1, r2⟩ := r
    obtain ⟨g1, rfl, _⟩ := g
    cases g1
    exact wpAny_pure (q true)
mutual
theorem small_key : ∀ (k : NestedKey) (v : Value) (n : Nat) (s : Shared), NestedIs s.heap k v → k.depth ≤ n → Clsless P w n s v ∧ Byval P w n s v
  | .none, _, n, s, x, _ => by
    cases x
    exact ⟨clsless_flat (by cases n <;> rfl), byval_flat (b := true) (by cases n <;> rfl)⟩
  | .num i, _, n, s, x, _ => by
    cases x with
    | bool e => exact ⟨clsless_flat (by cases n <;> rfl), byval_flat (b := true) (by cases n <;> rfl)⟩
    | int _ t => exact ⟨clsless_flat (by cases n <;> rfl), byval_flat (b := true) (by cases n <;> rfl)⟩
  | .text y, _, n, s, x, _ => by
    cases x
    exact ⟨clsless_flat (by cases n <;> rfl), byval_flat (b := false) (by cases n <;> rfl)⟩
  | .tup ks, _, 0, s, x, d => absurd d (by simp [NestedKey.depth])
  | .tup ks, _, n + 1, s, x, d => by
    cases x with
    | tup g1 g2 g3 g4 =>
      have d : NestedKey.depthAll ks ≤ n := by simp only [NestedKey.depth] at d; omega
      exact ⟨clsless_tup g1 g2 g3 fun v hv => (small_keys ks _ n s g4 d v hv).1, byval_tup g1 g2 g3 fun v hv => (small_keys ks _ n s g4 d v hv).2⟩
theorem small_keys : ∀ (ks : List NestedKey) (vs : List Value) (n : Nat) (s : Shared), NestedAll s.heap ks vs → NestedKey.depthAll ks ≤ n → ∀ v ∈ vs, Clsless P w n s v ∧ Byval P w n s v
  | [], _, n, s, x, _, v, hv => by cases x; exact absurd hv List.not_mem_nil
  | k :: ks, _, n, s, x, d, v, hv => by
    cases x with
    | cons x1 x2 =>
      have d2 : k.depth ≤ n ∧ NestedKey.depthAll ks ≤ n := by simp only [NestedKey.depthAll] at d; omega
      rcases List.mem_cons.mp hv with rfl | q
      · exact small_key k _ n s x1 d2.1
      · exact small_keys ks _ n s x2 d2.2 v q
end
variable {A : Around} {E : Value → Shared → Prop} {s : Shared}
/-- a search among such things shows nothing -/
theorem unseen {k : NestedKey} {x : Addr} (hx : (NK P w).is s.heap k x) {stored : List Value} (hs : ∀ u ∈ stored, ∃ p : Pt, u = .ref p.1 ∧ (NK P w).is s.heap p.2 p.1) {Q : Bool → Shared → Prop} (q : Q false s) :
    wpAny (model P w) A (searchCouldBeSeen (.ref x) stored) Q E s := by
  unfold searchCouldBeSeen
  refine wpAny_bind ?_
  refine wpAny_forIn_list _ (fun us r z => r.1 = none ∧ z = s ∧ ∀ u ∈ us, ∃ p : Pt, u = .ref p.1 ∧ (NK P w).is s.heap p.2 p.1) _ (fun u us r z g => ?_) (fun r z g => ?_) _ _ ⟨rfl, rfl, hs⟩
  · obtain ⟨g1, rfl, g2⟩ := g
    obtain ⟨p, rfl, hp⟩ := g2 u List.mem_cons_self
    have more := fun y hy => g2 y (List.mem_cons_of_mem _ hy)
    dsimp only
    by_cases c : (x == p.1 || (carriedByValue (.ref x) && carriedByValue (.ref p.1))) = true
    · exact wp_if_pos c (wpAny_pure ⟨rfl, rfl, more⟩)
    · refine wp_if_neg c ?_
      refine wpAny_bind ((NK P w).quiet hx ?_)
      simp only [Bool.not_true, Bool.false_eq_true, if_false]
      refine wpAny_bind ((NK P w).quiet hp ?_)
      simp only [Bool.not_true, Bool.false_eq_true, if_false]
      refine wpAny_bind ((small_key k _ 8 _ hx.1 hx.2).1 _ _ _ ?_)
      simp only [Bool.false_eq_true, if_false]
      refine wpAny_bind ((small_key p.2 _ 8 _ hp.1 hp.2).1 _ _ _ ?_)
      simp only [Bool.false_eq_true, if_false]
      exact wpAny_pure ⟨rfl, rfl, more⟩
  · obtain ⟨r1, r2⟩ := r
    obtain ⟨g1, rfl, _⟩ := g
    cases g1
    exact wpAny_pure q
end
/-! ### the set -/
def hs (w : World) (L : List Pt) : List Int := L.map fun p => p.2.hash w
def lines (w : World) (L : List Pt) : List (Int × Value) := L.map fun p => (p.2.hash w, .ref p.1)
theorem lines_len {w : World} (L : List Pt) : (lines w L).length = L.length := List.length_map _
theorem hs_len {w : World} (L : List Pt) : (hs w L).length = L.length := List.length_map _
structure SetN (P : Program) (w : World) (h : Heap) (a : Addr) (L : List Pt) (es : Array (Int × Value)) (ep : Nat) (t : SetTable) : Prop where
  ob : ∃ o, h.get? a = some o ∧ o.ExactSet ∧ o.data = .set es ep t
  li : es.toList = lines w L
  tab : TabOk t (hs w L)
  nd : (L.map (·.2)).Nodup
  key : ∀ p ∈ L, (NK P w).is h p.2 p.1
  led : w.params.followText "set-order" = true ∨ t.led = true
  room : L.length * 5 < t.mask * 3
  few : L.length < 64
section
variable {P : Program} {w : World} {A : Around} {E : Value → Shared → Prop} {s : Shared} {h : Heap} {a : Addr} {L : List Pt} {es : Array (Int × Value)} {ep : Nat} {t : SetTable}
theorem size_of {es : Array (Int × Value)} {L : List Pt} (e : es.toList = lines w L) : es.size = L.length := by
  rw [← Array.length_toList, e, lines_len]
theorem at_of {es : Array (Int × Value)} {L : List Pt} (e : es.toList = lines w L) {i : Nat} {p : Pt} (g : L[i]? = some p) : es[i]? = some (p.2.hash w, .ref p.1) := by
  rw [← Array.getElem?_toList, e]
  exact (List.getElem?_map ..).trans (by rw [g]; rfl)
theorem fits_of {es : Array (Int × Value)} {t : SetTable} (h1 : t.place.size = es.size) (h2 : t.dummies = #[]) (h3 : es.size ≤ t.mask) : t.fits es.size = true := by
  simp only [SetTable.fits, SetTable.fill, h2, Bool.and_eq_true, beq_iff_eq, decide_eq_true_eq]
  exact ⟨h1, by rw [h1]; exact h3⟩
theorem SetN.fits (R : SetN P w h a L es ep t) : t.fits es.size = true := by
  have h1 := size_of R.li
  have h2 := R.tab.sz
  have h3 := R.room
  rw [hs_len] at h2
  exact fits_of (by omega) R.tab.dm (by omega)
/-- where one stands behind c steps for the hash z -/
abbrev stand (m : Nat) (z : Int) (c : Nat) : SetTable.Probe := nth m (runAt m (SetTable.bits z % (m + 1)) (SetTable.bits z)) c
theorem stand_dummy (m : Nat) (z : Int) (c : Nat) : (stand m z c).dummy = none := by
  suffices ∀ (n : Nat) (p : SetTable.Probe), p.dummy = none → (nth m p n).dummy = none from this c _ rfl
  intro n
  induction n with
  | zero => exact fun p h => h
  | succ n ih => exact fun p h => ih _ (by unfold adv; split <;> exact h)
theorem stand_add (m : Nat) (z : Int) (c q : Nat) : nth m (stand m z c) q = stand m z (c + q) := (nth_add m c _ q).symm
/-- the search for k, from its c-th step on; nothing stands at its K-th -/
theorem seek (R : SetN P w s.heap a L es ep t) {x : Addr} {k : NestedKey} (hx : (NK P w).is s.heap k x) (hu : A.units + 8 < cLine) {z : Int} (hz : k.hash w = z) {K : Nat} (K1 : K < 10 * SetTable.turns t.mask)
    (K2 : way t.mask z K ∉ t.place.toList) (K3 : ∀ c, c < K → way t.mask z c ∈ t.place.toList) {Q : SetFound → Shared → Prop}
    (old : k ∈ L.map (·.2) → Q (.there none) s) (new : k ∉ L.map (·.2) → Q (.free (way t.mask z K) false) s) :
    ∀ (f c : Nat) (b : Option SetTable.Probe), b.getD (t.probeStart z) = stand t.mask z c → c ≤ K → K < f + c →
      (∀ (i : Nat) p, L[i]? = some p → p.2 = k → ∃ c2, c ≤ c2 ∧ c2 < K ∧ t.place.toList[i]? = some (way t.mask z c2)) →
      wpAny (model P w) A (setSearchFrom a (.ref x) z true f b) Q E s := by
  intro f
  induction f with
  | zero => intro c b _ h1 h2; omega
  | succ f ih =>
  intro c b hb hc hf left
  obtain ⟨o, o1, o2, o3⟩ := R.ob
  have fit := R.fits
  have gave : ¬ t.gaveWay = true := by
    unfold SetTable.gaveWay
    rw [mask_odd R.tab.mok]
    decide
  have hsh : ∀ (i : Nat) p, L[i]? = some p → ((es[i]?.map (·.1)).getD 0) = p.2.hash w := fun i p g => by rw [at_of R.li g]; rfl
  have spec := go_spec t R.tab.ris R.tab.dm (fun i => (es[i]?.map (·.1)).getD 0) z (10 * SetTable.turns t.mask) (K - c) (stand t.mask z c) (stand_dummy _ _ _) (by omega)
    (fun q g => by rw [stand_add]; exact K3 (c + q) (by omega)) (by rw [stand_add, show c + (K - c) = K by omega]; exact K2)
  simp only [stand_add, show c + (K - c) = K by omega] at spec
  rw [setSearchFrom_succ]
  refine wpAny_bind (wpAny_setState_of (Q := _) o1 o3 fit ?_)
  dsimp only
  refine wp_if_neg gave ?_
  try refine wpAny_bind (wpAny_pure ?_)
  rw [hb]
  rcases spec with ⟨q, i, q1, q2, q3, q4, q5⟩ | ⟨q4, q5⟩
  · rw [show t.probe (fun i => (es[i]?.map (·.1)).getD 0) z (stand t.mask z c) = _ from q5]
    dsimp only
    have il : i < L.length := by
      have e1 := (List.getElem?_eq_some_iff.mp q2).1
      have e2 := R.tab.sz
      rw [hs_len] at e2
      rw [Array.length_toList] at e1
      omega
    obtain ⟨p, hp⟩ : ∃ p, L[i]? = some p := ⟨_, List.getElem?_eq_getElem il⟩
    have mp : p ∈ L := List.mem_of_getElem? hp
    have live : t.slot (stand t.mask z (c + q)).j = .live i := slot_live R.tab.ris q2
    have go : wpAny (model P w) A (searchRest a (.ref x) z true f es t (stand t.mask z (c + q)).j i (stand t.mask z (c + (q + 1)))) Q E s := by
      unfold searchRest
      rw [at_of R.li hp]
      dsimp only
      refine wpAny_bind (wpAny_holding ((NK P w).eqBool hu (R.key p mp) hx ?_))
      refine wpAny_bind (wpAny_setState_of (Q := _) o1 o3 fit ?_)
      dsimp only
      by_cases e : p.2 = k
      · refine wp_if_pos (by simp [e]) (wpAny_pure (old ?_))
        exact List.mem_map.mpr ⟨p, mp, e⟩
      · refine wp_if_neg (by simp [e]) ?_
        try refine wpAny_bind (wpAny_pure ?_)
        rw [sameMem]
        dsimp only
        simp only [if_true, live, at_of R.li hp]
        refine wpAny_bind (wpAny_isSame_ref_self (wpAny_bind (wpAny_pure ?_)))
        simp only [if_true]
        refine wp_if_neg (by simp [e]) ?_
        refine ih (c + (q + 1)) _ rfl (by omega) (by omega) fun i2 p2 g2 e2 => ?_
        obtain ⟨c2, l1, l2, l3⟩ := left i2 p2 g2 e2
        refine ⟨c2, Nat.le_of_not_lt fun lt => ?_, l2, l3⟩
        rcases Nat.lt_or_ge c2 (c + q) with y | y
        · refine q4 (c2 - c) i2 (by omega) (by rw [show c + (c2 - c) = c2 by omega]; exact l3) ?_
          rw [hsh i2 p2 g2, e2, hz]
        · have ec : c2 = c + q := by omega
          have l4 := slot_live R.tab.ris l3
          rw [ec, show way t.mask z (c + q) = (stand t.mask z (c + q)).j from rfl, live] at l4
          injection l4 with l4
          rw [← l4, hp] at g2
          cases g2
          exact e e2
    by_cases le : t.led = true
    · refine wp_if_neg (by simp [le]) ?_
      try refine wpAny_bind (wpAny_pure ?_)
      exact go
    · refine wp_if_pos (by simp [le]) (wpAny_bind (unseen hx (fun u hu2 => ?_) ?_))
      · obtain ⟨y, y1, y2⟩ := List.mem_map.mp hu2
        have y1 : y ∈ es.toList := by
          have : y ∈ es ∧ y.1 = z := by simpa using y1
          simpa using this.1
        rw [R.li] at y1
        obtain ⟨r, r1, r2⟩ := List.mem_map.mp y1
        exact ⟨r, by rw [← y2, ← r2], R.key r r1⟩
      · refine wp_if_neg (by decide) ?_
        try refine wpAny_bind (wpAny_pure ?_)
        exact go
  · rw [show t.probe (fun i => (es[i]?.map (·.1)).getD 0) z (stand t.mask z c) = _ from q5]
    dsimp only
    refine wpAny_pure (new fun m => ?_)
    obtain ⟨p, p1, p2⟩ := List.mem_map.mp m
    obtain ⟨i, il, e⟩ := List.getElem_of_mem p1
    have g : L[i]? = some p := by rw [List.getElem?_eq_getElem il, e]
    obtain ⟨c2, l1, l2, l3⟩ := left i p g p2
    refine q4 (c2 - c) i (by omega) (by rw [show c + (c2 - c) = c2 by omega]; exact l3) ?_
    rw [hsh i p g, p2, hz]
theorem seek0 (R : SetN P w s.heap a L es ep t) {x : Addr} {k : NestedKey} (hx : (NK P w).is s.heap k x) (hu : A.units + 8 < cLine) {z : Int} (hz : k.hash w = z) {Q : SetFound → Shared → Prop}
    (old : k ∈ L.map (·.2) → Q (.there none) s)
    (new : ∀ K, k ∉ L.map (·.2) → way t.mask z K ∉ t.place.toList → (∀ c, c < K → way t.mask z c ∈ t.place.toList) → Q (.free (way t.mask z K) false) s) :
    wpAny (model P w) A (setSearch a (.ref x) z true) Q E s := by
  have rm := R.room
  obtain ⟨K, K1, K2, K3⟩ := R.tab.first (by rw [hs_len]; omega) z
  have big : K < 100000 := by
    have : 10 * SetTable.turns t.mask ≤ 1420 := by
      unfold SetTable.turns
      rcases R.tab.mok with e | e | e <;> omega
    omega
  unfold setSearch
  refine seek R hx hu hz K1 K2 K3 old (fun n => new K n K2 K3) 100000 0 none rfl (Nat.zero_le _) (by omega) fun i p g e => ?_
  have g2 : (hs w L)[i]? = some z := (List.getElem?_map ..).trans (by rw [g, ← hz, ← e]; rfl)
  have il : i < t.place.toList.length := by
    have h1 := (List.getElem?_eq_some_iff.mp g).1
    have h2 := R.tab.sz
    rw [hs_len] at h2
    rw [Array.length_toList]
    omega
  have hj := List.getElem?_eq_getElem il
  obtain ⟨c, c1, c2⟩ := R.tab.before K2 g2 hj
  exact ⟨c, Nat.zero_le _, c1, by rw [hj, c2]⟩
end
end St

set_option Elab.async false
set_option linter.all false
set_option maxRecDepth 100000
set_option maxHeartbeats 3200000
/-! St1: things put into such a set; set(xs). -/
namespace St
open PySem PySem.Spec PyProof.Rows L2 Wb
section
variable {P : Program} {w : World} {A : Around} {E : Value → Shared → Prop} {s : Shared} {h : Heap} {a : Addr} {L : List Pt} {es : Array (Int × Value)} {ep : Nat} {t : SetTable}
theorem key_but {h h' : Heap} {k : NestedKey} {b : Addr} {o : Obj} (x : (NK P w).is h k b) (ho : h.get? a = some o) (hd : o.data = .set es ep t) (sb : Heap.SameBut a h h') : (NK P w).is h' k b :=
  ⟨NestedIs.at (fun c oc us m g1 g2 => (sb.2 c fun e => by
    rw [e, ho] at g1
    cases g1
    rw [hd] at g2
    cases g2).trans g1) k _ x.1, x.2⟩
theorem key_up {h h' : Heap} {k : NestedKey} {b : Addr} (x : (NK P w).is h k b) (up : ∀ c o, h.get? c = some o → h'.get? c = some o) : (NK P w).is h' k b :=
  ⟨NestedIs.at (fun c oc us m g1 _ => up c oc g1) k _ x.1, x.2⟩
theorem SetN.up {h h' : Heap} (R : SetN P w h a L es ep t) (ha : ∀ o, h.get? a = some o → h'.get? a = some o) (hk : ∀ p ∈ L, (NK P w).is h' p.2 p.1) : SetN P w h' a L es ep t := by
  obtain ⟨o, o1, o2⟩ := R.ob
  exact ⟨⟨o, ha o o1, o2⟩, R.li, R.tab, R.nd, hk, R.led, R.room, R.few⟩
def putAt {α : Type} (L : List α) (i : Nat) (x : α) : List α := L.take i ++ x :: L.drop i
theorem putAt_perm {α : Type} (L : List α) (i : Nat) (x : α) : (putAt L i x).Perm (x :: L) := by
  have : (L.take i ++ x :: L.drop i).Perm (x :: (L.take i ++ L.drop i)) := List.perm_middle
  rwa [List.take_append_drop] at this
theorem putAt_map {α β : Type} (f : α → β) (L : List α) (i : Nat) (x : α) : (putAt L i x).map f = putAt (L.map f) i (f x) := by
  unfold putAt
  rw [List.map_append, List.map_cons, List.map_take, List.map_drop]
/-- rows taken in another order -/
theorem reordered {es : Array (Int × Value)} (e : es.toList = lines w L) {order : Array Nat} (hp : order.toList.Perm (List.range L.length)) :
    ∃ M, M.Perm L ∧ (order.filterMap (es[·]?)).toList = lines w M ∧ hs w M = order.toList.map fun i => (es.map (·.1)).getD i 0 := by
  have sz := size_of e
  have one : ∀ l : List Nat, (∀ i ∈ l, i < L.length) → l.filterMap (es[·]?) = lines w (l.filterMap (L[·]?)) ∧ hs w (l.filterMap (L[·]?)) = l.map fun i => (es.map (·.1)).getD i 0 := by
    intro l
    induction l with
    | nil => exact fun _ => ⟨rfl, rfl⟩
    | cons i l ih =>
      intro b
      have lt := b i List.mem_cons_self
      obtain ⟨i1, i2⟩ := ih fun j hj => b j (List.mem_cons_of_mem _ hj)
      have g := List.getElem?_eq_getElem lt
      have ge := at_of e g
      refine ⟨?_, ?_⟩
      · rw [List.filterMap_cons_some ge, List.filterMap_cons_some g, i1]
        rfl
      · rw [List.filterMap_cons_some g, List.map_cons, ← i2]
        have : (es.map (·.1)).getD i 0 = (L[i]).2.hash w := by
          rw [Array.getD_eq_getD_getElem?, Array.getElem?_map, ge]
          rfl
        rw [this]
        rfl
  obtain ⟨o1, o2⟩ := one order.toList fun i hi => List.mem_range.mp (hp.mem_iff.mp hi)
  refine ⟨order.toList.filterMap (L[·]?), ?_, by rw [Array.toList_filterMap]; exact o1, o2⟩
  refine (hp.filterMap _).trans ?_
  suffices ∀ n, n ≤ L.length → (List.range n).filterMap (fun i => L[i]?) = L.take n by
    have q := this L.length (Nat.le_refl _)
    rw [List.take_length] at q
    rw [q]
  intro n
  induction n with
  | zero => exact fun _ => rfl
  | succ n ih =>
    intro hn
    have g := List.getElem?_eq_getElem (l := L) (i := n) hn
    rw [List.range_succ, List.filterMap_append, ih (Nat.le_of_lt hn), List.filterMap_cons_some g, List.take_succ, g]
    rfl
/-- the table laid anew, larger -/
theorem relay {o : Obj} (ho : s.heap.get? a = some o) (ox : o.ExactSet) (od : o.data = .set es ep t) (li : es.toList = lines w L) (pz : t.place.size = es.size) (dz : t.dummies = #[]) (mz : es.size ≤ t.mask)
    (nd : (L.map (·.2)).Nodup) (key : ∀ p ∈ L, (NK P w).is s.heap p.2 p.1) (led : w.params.followText "set-order" = true ∨ t.led = true) (few : L.length < 64) {wanted M : Nat}
    (w1 : SetTable.sizeAbove wanted - 1 = M) (w2 : MaskOk M) (w3 : SetTable.sizeAbove wanted ≤ 128) (w4 : L.length * 5 < M * 3) {Q : Unit → Shared → Prop}
    (q : ∀ h' L' es' ep' t', Heap.SameBut a s.heap h' → SetN P w h' a L' es' ep' t' → L'.Perm L → Q () { s with heap := h' }) : wpAny (model P w) A (setRelay a wanted) Q E s := by
  have line := sizeLine_eq
  have sz := size_of li
  obtain ⟨u, order, r1, r2, r3, r4, r5, _, _⟩ := relaid_ok t (hs := es.map (·.1)) (wanted := wanted) w1 w2 (by rw [Array.size_map]; omega)
  rw [Array.size_map, sz] at r2
  obtain ⟨L2, p1, p2, p3⟩ := reordered li r2
  rw [← p3] at r3
  have sz2 : (order.filterMap (es[·]?)).size = es.size := by rw [size_of p2, p1.length_eq, sz]
  rw [setRelay_eq]
  refine wpAny_bind (wpAny_setState_of (Q := _) ho od (fits_of pz dz mz) ?_)
  dsimp only
  refine wp_if_neg (by omega) ?_
  try refine wpAny_bind (wpAny_pure ?_)
  rw [r1]
  dsimp only
  refine wpAny_bind (wp_if_neg (by rw [sz2]; simp) ?_)
  try refine wpAny_bind (wpAny_pure ?_)
  refine wpAny_pure ?_
  dsimp only
  refine wpAny_storeSet_of (Q := Q) ho od ?_ (by rw [sz2]; omega)
  have sb : Heap.SameBut a s.heap (s.heap.update a (Obj.putSet (order.filterMap (es[·]?)) u)) := Heap.SameBut.update ..
  refine q _ L2 _ (ep + 1) u sb ⟨⟨_, store_at ho od, ⟨ox.1, ox.2.1, ox.2.2⟩, rfl⟩, p2, r3, (p1.map (·.2)).nodup_iff.mpr nd, fun p hp => key_but (key p (p1.mem_iff.mp hp)) ho od sb, by rw [r5]; exact led, by rw [p1.length_eq, r4]; exact w4, by rw [p1.length_eq]; exact few⟩ p1
/-- set.add, behind the hash -/
theorem addIn (R : SetN P w s.heap a L es ep t) {x : Addr} {k : NestedKey} (hx : (NK P w).is s.heap k x) (hu : A.units + 8 < cLine) (few : L.length + 1 < 64) {Q : Bool → Shared → Prop}
    (q : ∀ b h' L' es' ep' t', Heap.SameBut a s.heap h' → SetN P w h' a L' es' ep' t' → (k ∈ L.map (·.2) → L' = L) → (k ∉ L.map (·.2) → L'.Perm ((x, k) :: L)) → Q b { s with heap := h' }) :
    wpAny (model P w) A (setAddHashed a (.ref x) (k.hash w)) Q E s := by
  have line := sizeLine_eq
  obtain ⟨o, o1, o2, o3⟩ := R.ob
  have sz := size_of R.li
  have rm := R.room
  generalize hz : k.hash w = z
  unfold setAddHashed
  refine wpAny_holding ?_
  rw [show (100000 : Nat) = 99999 + 1 from rfl, setAddHashedIn_succ]
  refine wpAny_bind (wpAny_setState_of (Q := _) o1 o3 R.fits ?_)
  dsimp only
  refine wp_if_neg (by simp [byScan, Value.scannable]) ?_
  try refine wpAny_bind (wpAny_pure ?_)
  refine wpAny_bind (seek0 R hx hu hz (fun m => ?_) fun K m K2 K3 => ?_)
  · dsimp only
    exact wpAny_pure (q false s.heap L es ep t (Heap.SameBut.refl a s.heap) R (fun _ => rfl) fun n => absurd m n)
  dsimp only
  refine wpAny_bind (wpAny_setState_of (Q := _) o1 o3 R.fits ?_)
  dsimp only
  obtain ⟨u1, u2, u3, u4, u5, -, -, -, u9⟩ := R.tab.put K2 K3
  generalize t.put (way t.mask z K) = pt at u1 u3 u4 u5 u9 ⊢
  obtain ⟨t1, i⟩ := pt
  dsimp only at u1 u3 u4 u5 u9 ⊢
  subst u1
  generalize SetTable.below t.place (way t.mask z K) = i at u2 u3 ⊢
  have pm := putAt_perm L i (x, k)
  have pl : (putAt L i (x, k)).length = L.length + 1 := pm.length_eq
  have li : (SetTable.insertAt es i (z, Value.ref x)).toList = lines w (putAt L i (x, k)) := by
    rw [SetTable.toList_insertAt, R.li]
    unfold lines
    rw [putAt_map, ← hz]
    rfl
  have tb : TabOk t1 (hs w (putAt L i (x, k))) := by
    unfold hs
    rw [putAt_map, hz]
    exact u3
  have nd : ((putAt L i (x, k)).map (·.2)).Nodup := (pm.map (·.2)).nodup_iff.mpr (by rw [List.map_cons]; exact List.nodup_cons.mpr ⟨m, R.nd⟩)
  have sz1 := size_of li
  rw [pl] at sz1
  generalize SetTable.insertAt es i (z, Value.ref x) = es1 at li sz1 ⊢
  generalize putAt L i (x, k) = L1 at pm pl li tb nd
  -- whatever is told of the table's values
  suffices ∀ t2 : SetTable, t2.place = t1.place → t2.dummies = t1.dummies → t2.mask = t1.mask → t2.led = t1.led → t2.tooFull = t1.tooFull →
      wpAny (model P w) A (do
        storeSet a es1 t2
        if !false && t2.tooFull then setRelay a (SetTable.grown (es.size + 1))
        return true) Q E s by
    have both : ∀ b : Bool, wpAny (model P w) A (do
        storeSet a es1 (if b = true then t1 else { t1 with plain := false })
        if !false && (if b = true then t1 else { t1 with plain := false }).tooFull then setRelay a (SetTable.grown (es.size + 1))
        return true) Q E s := fun b => by
      cases b
      · exact this { t1 with plain := false } rfl rfl rfl rfl rfl
      · exact this t1 rfl rfl rfl rfl rfl
    by_cases pn : t1.plain = true
    · first
        | (refine wpAny_bind ?_; refine wp_if_pos pn ?_; exact (small_key k _ 8 _ hx.1 hx.2).2 _ _ _ fun b => both b)
        | exact wp_if_pos pn (wpAny_bind ((small_key k _ 8 _ hx.1 hx.2).2 _ _ _ fun b => both b))
    · first
        | (refine wpAny_bind ?_; refine wp_if_neg pn ?_; exact wpAny_pure (both true))
        | exact wp_if_neg pn (wpAny_bind (wpAny_pure (both true)))
        | exact wp_if_neg pn (both true)
  intro t2 e1 e2 e3 e4 e5
  have tb : TabOk t2 (hs w L1) := ⟨by rw [e1]; exact tb.ris, by rw [e2]; exact tb.dm, by rw [e1]; exact tb.sz, by rw [e3]; exact tb.mok, by rw [e1, e3]; exact tb.bd, by rw [e1, e3]; exact tb.reach⟩
  rw [← e3] at u4
  rw [← e4] at u5
  refine wpAny_bind (wpAny_storeSet_of (Q := _) o1 o3 ?_ (by omega))
  have sb : Heap.SameBut a s.heap (s.heap.update a (Obj.putSet es1 t2)) := Heap.SameBut.update ..
  have ho := store_at (es' := es1) (t' := t2) o1 o3
  generalize s.heap.update a (Obj.putSet es1 t2) = h1 at sb ho ⊢
  have key : ∀ p ∈ L1, (NK P w).is h1 p.2 p.1 := fun p hp => by
    rcases List.mem_cons.mp (pm.mem_iff.mp hp) with rfl | g
    · exact key_but hx o1 o3 sb
    · exact key_but (R.key p g) o1 o3 sb
  have led : w.params.followText "set-order" = true ∨ t2.led = true := by rw [u5]; exact R.led
  have full : t2.tooFull = decide ((L.length + 1) * 5 ≥ t2.mask * 3) := by
    rw [e5]
    unfold SetTable.tooFull
    rw [u9, hs_len, e3]
  by_cases f : t2.tooFull = true
  · have f2 : (L.length + 1) * 5 ≥ t2.mask * 3 := of_decide_eq_true (full ▸ f)
    have two : (t2.mask = 7 ∧ L.length = 4) ∨ (t2.mask = 31 ∧ L.length = 18) := by
      rw [u4] at f2 ⊢
      rcases R.tab.mok with e | e | e <;> rw [e] at rm f2 ⊢ <;> omega
    have go : ∀ M, SetTable.sizeAbove (SetTable.grown (L.length + 1)) - 1 = M → MaskOk M → SetTable.sizeAbove (SetTable.grown (L.length + 1)) ≤ 128 → (L.length + 1) * 5 < M * 3 →
        wpAny (model P w) A (setRelay a (SetTable.grown (L.length + 1))) (fun _ z => wpAny (model P w) A (pure true) Q E z) E { s with heap := h1 } := fun M m1 m2 m3 m4 =>
      relay (s := { s with heap := h1 }) ho ⟨o2.1, o2.2.1, o2.2.2⟩ rfl li (by rw [tb.sz, hs_len, pl, sz1]) tb.dm (by omega) nd key led (by omega) m1 m2 m3 (by rw [pl]; exact m4) fun h2 L2 es2 ep2 t3 sb2 R2 pm2 =>
        wpAny_pure (q true h2 L2 es2 ep2 t3 (sb.trans sb2) R2 (fun c => absurd c m) fun _ => pm2.trans pm)
    have done : wpAny (model P w) A (setRelay a (SetTable.grown (L.length + 1))) (fun _ z => wpAny (model P w) A (pure true) Q E z) E { s with heap := h1 } := by
      rcases two with ⟨_, g⟩ | ⟨_, g⟩
      · exact go 31 (by rw [g, size_20]) (.inr (.inl rfl)) (by rw [g, size_20]; decide) (by omega)
      · exact go 127 (by rw [g, size_76]) (.inr (.inr rfl)) (by rw [g, size_76]; decide) (by omega)
    rw [sz]
    first
      | (refine wpAny_bind ?_; refine wp_if_pos (by simp [f]) ?_; exact done)
      | exact wp_if_pos (by simp [f]) (wpAny_bind done)
  · have f2 : ¬ (L.length + 1) * 5 ≥ t2.mask * 3 := fun c => f (by rw [full]; exact decide_eq_true c)
    have R1 : SetN P w h1 a L1 es1 (ep + 1) t2 := ⟨⟨_, ho, ⟨o2.1, o2.2.1, o2.2.2⟩, rfl⟩, li, tb, nd, key, led, by omega, by omega⟩
    have fin : Q true { s with heap := h1 } := q true h1 L1 es1 (ep + 1) t2 sb R1 (fun c => absurd c m) fun _ => pm
    first
      | exact wp_if_neg (by simp [f]) (wpAny_pure fin)
      | (refine wpAny_bind ?_; refine wp_if_neg (by simp [f]) ?_; exact wpAny_pure (wpAny_pure fin))
end
/-! ### set(xs) -/
/-- what has come of the first i -/
structure Met (ks : List Pt) (i : Nat) (L : List Pt) : Prop where
  sub : ∀ p ∈ L, p ∈ ks.take i
  all : ∀ p ∈ ks.take i, p.2 ∈ L.map (·.2)
  len : L.length ≤ i
theorem Met.old {ks L : List Pt} {i : Nat} {x : Pt} (g : Met ks i L) (hx : ks[i]? = some x) (m : x.2 ∈ L.map (·.2)) : Met ks (i + 1) L := by
  have e := take_next hx
  refine ⟨fun p hp => by rw [e]; exact List.mem_append_left _ (g.sub p hp), fun p hp => ?_, Nat.le_succ_of_le g.len⟩
  rw [e] at hp
  rcases List.mem_append.mp hp with y | y
  · exact g.all p y
  · rw [List.mem_singleton.mp y]; exact m
theorem Met.new {ks L L' : List Pt} {i : Nat} {x : Pt} (g : Met ks i L) (hx : ks[i]? = some x) (pm : L'.Perm (x :: L)) : Met ks (i + 1) L' := by
  have e := take_next hx
  refine ⟨fun p hp => ?_, fun p hp => ?_, by rw [pm.length_eq]; exact Nat.succ_le_succ g.len⟩
  · rw [e]
    rcases List.mem_cons.mp (pm.mem_iff.mp hp) with rfl | y
    · exact List.mem_append_right _ (List.mem_singleton.mpr rfl)
    · exact List.mem_append_left _ (g.sub p y)
  · rw [e] at hp
    refine (pm.map (·.2)).mem_iff.mpr ?_
    rcases List.mem_append.mp hp with y | y
    · exact List.mem_cons_of_mem _ (g.all p y)
    · rw [List.mem_singleton.mp y]; exact List.mem_cons_self
theorem fresh_set {P : Program} {w : World} {h : Heap} {a : Addr} (ho : h.get? a = some { cls := .type "set", dict := none, data := .set #[] 0 (.fresh 0 0 (!w.params.followText "set-order")) }) :
    SetN P w h a [] #[] 0 (.fresh 0 0 (!w.params.followText "set-order")) := by
  refine ⟨⟨_, ho, ⟨rfl, rfl, rfl⟩, rfl⟩, rfl, ⟨List.Pairwise.nil, rfl, rfl, .inl rfl, fun x hx => ?_, fun i z j hi => ?_⟩, List.nodup_nil, fun p hp => absurd hp List.not_mem_nil, ?_, ?_, ?_⟩
  · cases hx
  · simp [hs] at hi
  · show _ ∨ (!w.params.followText "set-order") = true
    cases w.params.followText "set-order"
    · exact .inr rfl
    · exact .inl rfl
  · show 0 * 5 < 7 * 3; decide
  · show 0 < 64; decide
section
variable {P : Program} {w : World} {A : Around} {E : Value → Shared → Prop} {s : Shared}
theorem update_loop {I : Addr} {fp wr : List Addr} {G : Array GenState → Array GenState → Prop} {n : Nat} {Pv : Nat → Value → Prop} {W : Nat → Shared → Prop} {R : Result → Shared → Prop}
    (wk : WalksS P w A.in1 I fp wr G n Pv W) (S : Addr) (Sf : S ∉ fp) (ks : List Pt) (nk : n = ks.length) (few : ks.length < 64) (val : ∀ i v, Pv i v → ∃ p, ks[i]? = some p ∧ v = .ref p.1)
    (h0 : Heap) (key : ∀ p ∈ ks, (NK P w).is h0 p.2 p.1) (S0 : h0.get? S = none) (wr0 : ∀ b ∈ wr, h0.get? b = none) (hu : A.in1.units + 8 < cLine) :
    ∀ (j i : Nat) (s : Shared), i + j = n → W i s → (∀ b o, h0.get? b = some o → s.heap.get? b = some o) → (∃ L es ep t, SetN P w s.heap S L es ep t ∧ Met ks i L) →
      (∀ z L es ep t, Moved (S :: wr) G s z → SetN P w z.heap S L es ep t → Met ks n L → (∀ b o, h0.get? b = some o → z.heap.get? b = some o) → R (.ok (.ret .none)) z) →
      codeAny (model P w) A (.builtin "set.update.loop" ⟨[.ref S, .ref I], []⟩) R s := by
  have Sw : S ∉ wr := fun c => Sf (wk.sub _ c)
  have wider : ∀ b ∈ wr, b ∈ S :: wr := fun b hb => List.mem_cons_of_mem _ hb
  have stay : ∀ {y z : Shared}, Moved wr G y z → (∀ b o, h0.get? b = some o → y.heap.get? b = some o) → ∀ b o, h0.get? b = some o → z.heap.get? b = some o := fun mv g b o e =>
    mv.heap b o (fun c => by rw [wr0 b c] at e; cases e) (g b o e)
  intro j
  induction j with
  | zero =>
    intro i s ij hW up ⟨L, es, ep, t, hS, g⟩ hR
    obtain rfl : i = n := by omega
    refine codeAny_builtin F.entry_set_update_loop ?_
    rw [Around.under_plainId F.plain_set_update_loop _]
    refine wpAny_bind (m := pyNext (.ref I)) (wk.done s _ _ hW fun z mv => ?_)
    have up2 := stay mv up
    exact wpAny_pure (hR z L es ep t (mv.mono wider) (hS.up (fun o e => mv.heap S o Sw e) fun p hp => key_up (key p (List.mem_of_mem_take (g.sub p hp))) up2) g up2)
  | succ j ih =>
    intro i s ij hW up ⟨L, es, ep, t, hS, g⟩ hR
    refine codeAny_builtin F.entry_set_update_loop ?_
    rw [Around.under_plainId F.plain_set_update_loop _]
    refine wpAny_bind (m := pyNext (.ref I)) (wk.item i s _ _ (by omega) hW fun v z hv hW2 mv => ?_)
    obtain ⟨p, hp, rfl⟩ := val i v hv
    have up2 := stay mv up
    have hS2 := hS.up (fun o e => mv.heap S o Sw e) fun r hr => key_up (key r (List.mem_of_mem_take (g.sub r hr))) up2
    have hx : (NK P w).is z.heap p.2 p.1 := key_up (key p (List.mem_of_getElem? hp)) up2
    show wpAny (model P w) A.in1 (holding [Value.ref p.1] (setAdd S (.ref p.1)) >>= _) _ _ z
    refine wpAny_bind (wpAny_holding ?_)
    unfold setAdd
    refine wpAny_holding (wpAny_bind ((NK P w).pyHash hu hx ?_))
    refine addIn (s := { z with toks := z.toks + p.2.draws }) hS2 hx hu (by have := g.len; omega) fun b h' L' es' ep' t' sb R2 c1 c2 => ?_
    have g2 : Met ks (i + 1) L' := by
      by_cases c : p.2 ∈ L.map (·.2)
      · rw [c1 c]; exact g.old hp c
      · exact g.new hp (c2 c)
    have up3 : ∀ b o, h0.get? b = some o → h'.get? b = some o := fun b o e => (sb.2 b fun c => by rw [c, S0] at e; cases e).trans (up2 b o e)
    refine wpAny_pure ⟨plainId_quiet F.plain_set_update_loop _, ih (i + 1) _ (by omega) (wk.frame _ z _ _ hW2 (Nat.le_add_right _ _) fun b hb o e => ?_) up3 ⟨L', es', ep', t', R2, g2⟩ fun y L3 es3 ep3 t3 mv3 R3 g3 up4 => ?_⟩
    · rw [sb.2 b fun c => Sf (c ▸ hb)]; exact e
    · refine hR y L3 es3 ep3 t3 (Moved.trans wk.gtrans ((mv.mono wider).then_heap (Nat.le_add_right _ _) fun b o nb e => ?_) mv3) R3 g3 up4
      rw [sb.2 b fun c => nb (c ▸ List.mem_cons_self)]; exact e
end
end St

set_option Elab.async false
set_option linter.all false
set_option maxRecDepth 100000
set_option maxHeartbeats 4000000
/-! Fm0: forms, their rows and lots, as lists and as data. -/
namespace Fm
open PySem PySem.Spec PyProof.Rows L2 Wb Wv
abbrev Qs := List (Str × Nat)
def encQ (q : Str × Nat) : PyData := .tuple [.str q.1, .int (q.2 : Int)]
def qsD (qs : Qs) : PyData := .tuple (qs.map encQ)
def formR (K : PySem.W.Frag) (C : Addr) (qs : Qs) : Rel := insR C [("questions", dat K (qsD qs))]
instance {K : PySem.W.Frag} {C : Addr} {qs : Qs} : Mo (formR K C qs) := inferInstanceAs (Mo (insR C [("questions", dat K (qsD qs))]))
def lotD (l : List Str) : PyData := .tuple (l.map .str)
def rowD (r : List Int) : PyData := .tuple (r.map .int)
def rowsL (rs : List (List Int)) : PyData := .list (rs.map rowD)
def rowsT (rs : List (List Int)) : PyData := .tuple (rs.map rowD)
def names (qs : Qs) : List Str := qs.map (·.1)
/-- lo, lo + 1, .. n of them -/
def rng (lo : Int) (n : Nat) : List Int := (List.range n).map fun i : Nat => lo + (i : Int)
theorem rng_len {lo : Int} {n : Nat} : (rng lo n).length = n := by simp [rng]
/-- all rows with an item of each list -/
def grow1 {α : Type} (rows : List (List α)) (vals : List α) : List (List α) := rows.flatMap fun r => vals.map fun v => r ++ [v]
def grow {α : Type} (ls : List (List α)) : List (List α) := ls.foldl grow1 [[]]
theorem grow_snoc {α : Type} (ls : List (List α)) (l : List α) : grow (ls ++ [l]) = grow1 (grow ls) l := by
  unfold grow
  rw [List.foldl_append]
  rfl
theorem grow1_len {α : Type} (rows : List (List α)) (vals : List α) : (grow1 rows vals).length = rows.length * vals.length := by
  unfold grow1
  induction rows with
  | nil => simp
  | cons r rows ih =>
    rw [List.flatMap_cons, List.length_append, ih, List.length_map, List.length_cons, Nat.succ_mul, Nat.add_comm]
theorem grow_len {α : Type} {m : Nat} (ls : List (List α)) (h : ∀ l ∈ ls, l.length ≤ m) : (grow ls).length ≤ m ^ ls.length := by
  suffices ∀ (k : Nat), k ≤ ls.length → (grow (ls.take k)).length ≤ m ^ k by
    have := this ls.length (Nat.le_refl _)
    rw [List.take_length] at this
    exact this
  intro k
  induction k with
  | zero =>
    intro _
    rw [List.take_zero, Nat.pow_zero]
    exact Nat.le_refl _
  | succ k ih =>
    intro hk
    have e : ls.take (k + 1) = ls.take k ++ [ls[k]] := by rw [List.take_succ, List.getElem?_eq_getElem (by omega)]; rfl
    rw [e, grow_snoc, grow1_len, Nat.pow_succ]
    exact Nat.mul_le_mul (ih (by omega)) (h _ (List.getElem_mem _))
theorem grow1_mem {α : Type} {rows : List (List α)} {vals : List α} {r : List α} (h : r ∈ grow1 rows vals) : ∃ a ∈ rows, ∃ v ∈ vals, r = a ++ [v] := by
  unfold grow1 at h
  obtain ⟨a, ha, hr⟩ := List.mem_flatMap.mp h
  obtain ⟨v, hv, rfl⟩ := List.mem_map.mp hr
  exact ⟨a, ha, v, hv, rfl⟩
/-- an item of each list, in their order -/
def Picks {α : Type} : List α → List (List α) → Prop
  | [], [] => True
  | v :: r, l :: ls => v ∈ l ∧ Picks r ls
  | _, _ => False
theorem picks_snoc {α : Type} {v : α} {l : List α} (hv : v ∈ l) : ∀ {r : List α} {ls : List (List α)}, Picks r ls → Picks (r ++ [v]) (ls ++ [l])
  | [], [], _ => ⟨hv, trivial⟩
  | _ :: _, _ :: _, ⟨h, t⟩ => ⟨h, picks_snoc hv t⟩
  | [], _ :: _, h => h.elim
  | _ :: _, [], h => h.elim
theorem grow_picks {α : Type} (ls : List (List α)) : ∀ r ∈ grow ls, Picks r ls := by
  suffices ∀ k, k ≤ ls.length → ∀ r ∈ grow (ls.take k), Picks r (ls.take k) by
    have := this ls.length (Nat.le_refl _)
    rw [List.take_length] at this
    exact this
  intro k
  induction k with
  | zero =>
    intro _ r hr
    rw [List.take_zero] at *
    have hr : r ∈ [[]] := hr
    rw [List.mem_singleton.mp hr]
    trivial
  | succ k ih =>
    intro hk r hr
    have e : ls.take (k + 1) = ls.take k ++ [ls[k]] := by rw [List.take_succ, List.getElem?_eq_getElem (by omega)]; rfl
    rw [e, grow_snoc] at hr
    rw [e]
    obtain ⟨a, ha, v, hv, rfl⟩ := grow1_mem hr
    exact picks_snoc hv (ih (by omega) a ha)
theorem picks_len {α : Type} : ∀ {r : List α} {ls : List (List α)}, Picks r ls → r.length = ls.length
  | [], [], _ => rfl
  | _ :: _, _ :: _, ⟨_, t⟩ => by simp [picks_len t]
  | [], _ :: _, h => h.elim
  | _ :: _, [], h => h.elim
theorem grow_row {α : Type} {ls : List (List α)} {r : List α} (h : r ∈ grow ls) : r.length = ls.length := picks_len (grow_picks ls r h)
theorem picks_at {α : Type} : ∀ {r : List α} {ls : List (List α)} {i : Nat} {l : List α}, Picks r ls → ls[i]? = some l → ∃ v, r[i]? = some v ∧ v ∈ l
  | _ :: _, _ :: _, 0, _, ⟨h, _⟩, e => ⟨_, rfl, by cases e; exact h⟩
  | _ :: _, _ :: _, i + 1, _, ⟨_, t⟩, e => picks_at (i := i) t e
  | [], _ :: _, _, _, h, _ => h.elim
  | [], [], _, _, _, e => nomatch e
theorem grow1_map {α : Type} (f : α → α) (rows : List (List α)) (l : List α) : (grow1 rows l).map (List.map f) = grow1 (rows.map (List.map f)) (l.map f) := by
  unfold grow1
  rw [List.map_flatMap, List.flatMap_map]
  congr 1
  funext r
  rw [List.map_map, List.map_map]
  congr 1
  funext v
  simp
theorem grow_map {α : Type} (f : α → α) (ls : List (List α)) : (grow ls).map (List.map f) = grow (ls.map (List.map f)) := by
  unfold grow
  rw [List.foldl_map]
  generalize e : ([[]] : List (List α)) = z
  have e2 : z.map (List.map f) = z := by rw [← e]; rfl
  clear e
  suffices ∀ (rows rows2 : List (List α)), rows.map (List.map f) = rows2 → (ls.foldl grow1 rows).map (List.map f) = ls.foldl (fun x y => grow1 x (y.map f)) rows2 from this z z e2
  induction ls with
  | nil =>
    intro rows rows2 h
    exact h
  | cons l ls ih =>
    intro rows rows2 h
    refine ih _ _ ?_
    rw [grow1_map, h]
/-- all lots within a lot -/
def subs (l : List Str) : List (List Str) := l.foldl (fun f n => f ++ f.map fun a => a ++ [n]) [[]]
theorem subs_snoc (l : List Str) (n : Str) : subs (l ++ [n]) = subs l ++ (subs l).map fun a => a ++ [n] := by
  unfold subs
  rw [List.foldl_append]
  rfl
theorem subs_len (l : List Str) : ∀ k, k ≤ l.length → (subs (l.take k)).length = 2 ^ k := by
  intro k
  induction k with
  | zero =>
    intro _
    rw [List.take_zero]
    rfl
  | succ k ih =>
    intro hk
    have e : l.take (k + 1) = l.take k ++ [l[k]] := by rw [List.take_succ, List.getElem?_eq_getElem (by omega)]; rfl
    rw [e, subs_snoc, List.length_append, List.length_map, ih (by omega), Nat.pow_succ]
    omega
theorem subs_row {l a : List Str} (h : a ∈ subs l) : a.length ≤ l.length := by
  suffices ∀ k, k ≤ l.length → ∀ a ∈ subs (l.take k), a.length ≤ k from this l.length (Nat.le_refl _) a (by rw [List.take_length]; exact h)
  intro k
  induction k with
  | zero =>
    intro _ a ha
    rw [List.take_zero] at ha
    have ha : a ∈ [[]] := ha
    rw [List.mem_singleton.mp ha]
    exact Nat.le_refl _
  | succ k ih =>
    intro hk a ha
    have e : l.take (k + 1) = l.take k ++ [l[k]] := by rw [List.take_succ, List.getElem?_eq_getElem (by omega)]; rfl
    rw [e, subs_snoc] at ha
    rcases List.mem_append.mp ha with ha | ha
    · exact Nat.le_succ_of_le (ih (by omega) a ha)
    · obtain ⟨b, hb, rfl⟩ := List.mem_map.mp ha
      have := ih (by omega) b hb
      simp
      omega
theorem take_snoc {α : Type} {l : List α} {i : Nat} {x : α} (h : l[i]? = some x) : l.take (i + 1) = l.take i ++ [x] := by rw [List.take_succ, h]; rfl
/-- lots of names are alike -/
theorem alike_strs : ∀ a b : List Str, PySem.W.alikeAll (a.map PyData.str) (b.map PyData.str) = true
  | [], _ => by simp [PySem.W.alikeAll]
  | _ :: _, [] => by simp [PySem.W.alikeAll]
  | x :: a, y :: b => by
    simp only [List.map_cons, PySem.W.alikeAll, PySem.W.alike, Bool.true_and]
    exact alike_strs a b
theorem alike_lots (ls : List (List Str)) : PySem.W.AllAlike (ls.map lotD) := by
  intro d hd d' hd'
  obtain ⟨a, _, rfl⟩ := List.mem_map.mp hd
  obtain ⟨b, _, rfl⟩ := List.mem_map.mp hd'
  simp only [lotD, PySem.W.alike]
  exact alike_strs a b
theorem ok_lots (ls : List (List Str)) : PySem.W.SortOk (ls.map lotD) := .inl fun d hd => by
  obtain ⟨a, _, rfl⟩ := List.mem_map.mp hd
  exact ⟨_, rfl⟩
theorem depth_strs (l : List Str) : PyData.depthAll (l.map PyData.str) = 0 := by
  induction l with
  | nil => simp [PyData.depthAll]
  | cons x l ih => simp [PyData.depthAll, PyData.depth, ih]
theorem depth_lots (ls : List (List Str)) : ∀ d ∈ ls.map lotD, d.depth ≤ 60 := fun d hd => by
  obtain ⟨a, _, rfl⟩ := List.mem_map.mp hd
  simp [lotD, PyData.depth, depth_strs]
theorem depth_ints (l : List Int) : PyData.depthAll (l.map PyData.int) = 0 := by
  induction l with
  | nil => simp [PyData.depthAll]
  | cons x l ih => simp [PyData.depthAll, PyData.depth, ih]
/-- what a name's signs are -/
def Nmk (n : Nat) (z : Str) : Prop := z.length ≤ n ∧ ∀ c ∈ z.cps.toList, c < 128
abbrev Nm := Nmk 20
theorem Nmk.mono {m n : Nat} {z : Str} (h : Nmk m z) (l : m ≤ n) : Nmk n z := ⟨Nat.le_trans h.1 l, h.2⟩
theorem Nmk.app {m n : Nat} {x y : Str} (h : Nmk m x) (g : Nmk n y) : Nmk (m + n) (x ++ y) := by
  have e : (x ++ y).cps.toList = x.cps.toList ++ y.cps.toList := Array.toList_append
  refine ⟨?_, fun c hc => ?_⟩
  · have : (x ++ y).length = x.length + y.length := by
      show (x ++ y).cps.size = x.cps.size + y.cps.size
      rw [← Array.length_toList, e, List.length_append]
      rfl
    rw [this]
    exact Nat.add_le_add h.1 g.1
  · rw [e] at hc
    rcases List.mem_append.mp hc with hc | hc
    · exact h.2 c hc
    · exact g.2 c hc
theorem Nmk.cut {n : Nat} {z : Str} {lo hi : Option Int} (h : Nmk n z) : Nmk n (cutS z lo hi) := ⟨Nat.le_trans (cutS_length z lo hi) h.1, fun c hc => h.2 c (cutS_mem hc)⟩
theorem Nmk.one {a : Nat} (h : a < 128) : Nmk 1 ⟨#[a]⟩ := ⟨Nat.le_refl _, fun c hc => by
  have : c = a := by simpa using hc
  omega⟩
theorem Nm.ok {z : Str} (h : Nm z) : PyData.strOk z = true := by
  unfold PyData.strOk
  rw [← Array.all_toList, List.all_eq_true]
  intro c hc
  have := h.2 c hc
  simp only [decide_eq_true_eq]
  omega
theorem lay_strs {l : List Str} (h : ∀ z ∈ l, Nm z) : PyData.canLayAll0 (l.map PyData.str) = true := by
  rw [canLayAll_strs', List.all_eq_true]
  exact fun z hz => (h z hz).ok
theorem lay_ints (l : List Int) : PyData.canLayAll0 (l.map PyData.int) = true := by
  induction l with
  | nil => simp [PyData.canLayAll0]
  | cons x l ih => simp [PyData.canLayAll0, PyData.canLay0, ih]
theorem shaped_str {z : Str} (h : Nm z) : SeqAt.shaped (.str z) = true := by simp [SeqAt.shaped, PyData.canLay0, PyData.depth, h.ok]
theorem shaped_lot {l : List Str} (h : ∀ z ∈ l, Nm z) : SeqAt.shaped (lotD l) = true := by simp [SeqAt.shaped, lotD, PyData.canLay0, PyData.depth, lay_strs h, depth_strs]
theorem shaped_strsL {l : List Str} (h : ∀ z ∈ l, Nm z) : SeqAt.shaped (.list (l.map .str)) = true := by simp [SeqAt.shaped, PyData.canLay0, PyData.depth, lay_strs h, depth_strs]
theorem shaped_row (l : List Int) : SeqAt.shaped (rowD l) = true := by simp [SeqAt.shaped, rowD, PyData.canLay0, PyData.depth, lay_ints, depth_ints]
theorem any_strs (l : List Str) (z : Str) : ((l.map PyData.str).any fun d => PyData.eqv d (.str z)) = decide (z ∈ l) := by
  rw [List.any_map]
  induction l with
  | nil => simp
  | cons x l ih =>
    rw [List.any_cons, ih]
    simp only [Function.comp, PyData.eqv, List.mem_cons, Bool.decide_or, eq_comm (a := z)]
    rfl
theorem join_nm0 {n : Nat} {sep : Str} (hs : Nmk 0 sep) : ∀ {zs : List Str}, (∀ z ∈ zs, Nmk n z) → Nmk (zs.length * n) (Str.join sep zs)
  | [], _ => ⟨Nat.zero_le _, fun c hc => by cases hc⟩
  | [x], h => by
    have := h x List.mem_cons_self
    exact this.mono (by simp)
  | x :: y :: r, h => by
    have a := h x List.mem_cons_self
    have b := join_nm0 hs (zs := y :: r) fun z hz => h z (List.mem_cons_of_mem _ hz)
    show Nmk _ (x ++ sep ++ Str.join sep (y :: r))
    refine ((a.app hs).app b).mono ?_
    simp only [List.length_cons, Nat.succ_mul]
    omega
theorem join_nm {n : Nat} {sep : Str} (hs : Nmk 0 sep) {zs : List Str} (h : ∀ z ∈ zs, Nmk n z) : Nmk (zs.length * n) (Txt.join sep zs) := by
  unfold Txt.join
  rw [StrLaws.glued_eq_join]
  exact join_nm0 hs h
theorem sum_le {n : Nat} : ∀ {zs : List Str}, (∀ z ∈ zs, Nmk n z) → (zs.map (·.length)).sum ≤ zs.length * n
  | [], _ => Nat.zero_le _
  | x :: r, h => by
    have a := (h x List.mem_cons_self).1
    have b := sum_le (zs := r) fun z hz => h z (List.mem_cons_of_mem _ hz)
    simp only [List.map_cons, List.sum_cons, List.length_cons, Nat.succ_mul]
    omega
end Fm

set_option Elab.async false
set_option linter.all false
set_option maxRecDepth 100000
set_option maxHeartbeats 4000000
/-! Fm1: sheets, and what is behind them. -/
namespace Fm
open PySem PySem.Spec PyProof.Rows L2 Wb Wv
/-- the sheet of a lot and a truth -/
def sheetL (ns : List Str) (lot : List Str) (truth : List Int) : List Int := (ns.zip truth).map fun p => if p.1 ∈ lot then -1 else p.2
def lotL (ns : List Str) (sheet : List Int) : List Str := ((ns.zip sheet).filter fun p => decide (p.2 = -1)).map (·.1)
def behindL (qs : Qs) (sheet : List Int) : List (List Int) := grow ((qs.zip sheet).map fun p => if p.2 = -1 then rng 0 p.1.2 else [p.2])
theorem lot_sheet (lot : List Str) : ∀ (ns : List Str) (truth : List Int), ns.length = truth.length → (∀ i ∈ truth, 0 ≤ i) → lotL ns (sheetL ns lot truth) = ns.filter fun z => decide (z ∈ lot)
  | [], _, _, _ => rfl
  | z :: ns, [], h, _ => by simp at h
  | z :: ns, i :: truth, h, n => by
    have ih := lot_sheet lot ns truth (by simpa using h) fun j hj => n j (List.mem_cons_of_mem _ hj)
    have i0 := n i List.mem_cons_self
    unfold lotL sheetL at *
    rw [List.zip_cons_cons, List.map_cons, List.zip_cons_cons, List.filter_cons, List.filter_cons]
    by_cases c : z ∈ lot
    · simp only [c, if_true, decide_true]
      rw [List.map_cons, ih]
    · have e : ¬ i = -1 := by omega
      simp only [c, if_false, e, decide_false]
      simpa using ih
theorem lot_truth : ∀ (ns : List Str) (truth : List Int), (∀ i ∈ truth, 0 ≤ i) → lotL ns truth = []
  | [], _, _ => rfl
  | _ :: _, [], _ => rfl
  | z :: ns, i :: truth, n => by
    have ih := lot_truth ns truth fun j hj => n j (List.mem_cons_of_mem _ hj)
    have i0 := n i List.mem_cons_self
    unfold lotL at *
    rw [List.zip_cons_cons, List.filter_cons]
    have e : ¬ i = -1 := by omega
    simp only [e, decide_false]
    simpa using ih
theorem sheet_len (ns lot : List Str) (truth : List Int) (h : ns.length = truth.length) : (sheetL ns lot truth).length = truth.length := by
  unfold sheetL
  rw [List.length_map, List.length_zip]
  omega
theorem sheet_at {ns lot : List Str} {truth : List Int} {i : Nat} {z : Str} {t : Int} (h : ns[i]? = some z) (g : truth[i]? = some t) : (sheetL ns lot truth)[i]? = some (if z ∈ lot then -1 else t) := by
  unfold sheetL
  rw [List.getElem?_map, List.getElem?_zip_eq_some (z := (z, t)) |>.mpr ⟨h, g⟩]
  rfl
/-- where a row says otherwise than a sheet -/
def bad (due row : List Int) : List Nat := (List.range row.length).filter fun i => !decide (due.getD i 0 = -1) && !decide (due.getD i 0 = row.getD i 0)
theorem bad_snoc {due row : List Int} {x v : Int} (h : due.length = row.length) : bad (due ++ [x]) (row ++ [v]) = bad due row ++ if (!decide (x = -1) && !decide (x = v)) = true then [row.length] else [] := by
  unfold bad
  rw [List.length_append]
  show (List.range (row.length + 1)).filter _ = _
  rw [List.range_succ, List.filter_append]
  congr 1
  · refine List.filter_congr fun i hi => ?_
    have hi := List.mem_range.mp hi
    have e1 : (due ++ [x]).getD i 0 = due.getD i 0 := by
      simp only [List.getD_eq_getElem?_getD]
      rw [List.getElem?_append_left (by omega)]
    have e2 : (row ++ [v]).getD i 0 = row.getD i 0 := by
      simp only [List.getD_eq_getElem?_getD]
      rw [List.getElem?_append_left hi]
    rw [e1, e2]
  · have e1 : (due ++ [x]).getD row.length 0 = x := by
      simp only [List.getD_eq_getElem?_getD]
      rw [← h, List.getElem?_append_right (Nat.le_refl _)]
      simp
    have e2 : (row ++ [v]).getD row.length 0 = v := by
      simp only [List.getD_eq_getElem?_getD]
      rw [List.getElem?_append_right (Nat.le_refl _)]
      simp
    rw [List.filter_cons, e1, e2, List.filter_nil]
def fits (due row : List Int) : Bool := (bad due row).isEmpty
theorem fits_snoc {due row : List Int} {x v : Int} (h : due.length = row.length) : fits (due ++ [x]) (row ++ [v]) = (fits due row && (decide (x = -1) || decide (x = v))) := by
  unfold fits
  rw [bad_snoc h]
  cases c1 : decide (x = -1) <;> cases c2 : decide (x = v) <;> simp
theorem grow1_filter {α : Type} {Q : List α → Bool} {P : List α → Bool} {p : α → Bool} {vals : List α} : ∀ {rows : List (List α)}, (∀ r ∈ rows, ∀ v, Q (r ++ [v]) = (P r && p v)) → (grow1 rows vals).filter Q = grow1 (rows.filter P) (vals.filter p)
  | [], _ => rfl
  | r :: rows, h => by
    have ih := grow1_filter (vals := vals) (rows := rows) fun a ha => h a (List.mem_cons_of_mem _ ha)
    have h0 := h r List.mem_cons_self
    unfold grow1 at *
    rw [List.flatMap_cons, List.filter_append, ih, List.filter_map]
    have e : (Q ∘ fun v => r ++ [v]) = fun v => P r && p v := by
      funext v
      exact h0 v
    rw [e]
    cases c : P r with
    | true =>
      rw [List.filter_cons, c, if_pos rfl, List.flatMap_cons]
      simp
    | false =>
      rw [List.filter_cons, c, if_neg (by decide)]
      simp
theorem rng_succ (n : Nat) : rng 0 (n + 1) = rng 0 n ++ [(n : Int)] := by
  unfold rng
  rw [List.range_succ, List.map_append]
  simp
theorem rng_mem {n : Nat} {x : Int} : x ∈ rng 0 n ↔ 0 ≤ x ∧ x < n := by
  unfold rng
  rw [List.mem_map]
  constructor
  · rintro ⟨i, hi, rfl⟩
    have := List.mem_range.mp hi
    omega
  · rintro ⟨h0, h1⟩
    exact ⟨x.toNat, List.mem_range.mpr (by omega), by omega⟩
theorem rng_only {x : Int} : ∀ {n : Nat}, 0 ≤ x → x < n → (rng 0 n).filter (fun v => decide (x = -1) || decide (x = v)) = [x]
  | 0, h0, h1 => by omega
  | n + 1, h0, h1 => by
    rw [rng_succ, List.filter_append]
    by_cases e : x = n
    · have e1 : (rng 0 n).filter (fun v => decide (x = -1) || decide (x = v)) = [] := by
        rw [List.filter_eq_nil_iff]
        intro v hv
        have := rng_mem.mp hv
        simp
        omega
      rw [e1]
      simp [e]
    · rw [rng_only (n := n) h0 (by omega)]
      have e1 : ¬ x = -1 := by omega
      simp [e, e1]
theorem rng_all {n : Nat} : (rng 0 n).filter (fun v => decide ((-1 : Int) = -1) || decide ((-1 : Int) = v)) = rng 0 n := by
  rw [List.filter_eq_self]
  intro v _
  simp
/-- what is behind a sheet: the rows that say nothing else -/
theorem behind_fits {qs : Qs} {due : List Int} (h : qs.length = due.length) (ok : ∀ (i : Nat) (q : Str × Nat) (x : Int), qs[i]? = some q → due[i]? = some x → x = -1 ∨ (0 ≤ x ∧ x < q.2)) : behindL qs due = (grow (qs.map fun q => rng 0 q.2)).filter (fits due) := by
  unfold behindL
  suffices ∀ k, k ≤ qs.length → grow (((qs.zip due).take k).map fun p => if p.2 = -1 then rng 0 p.1.2 else [p.2]) = (grow ((qs.take k).map fun q => rng 0 q.2)).filter (fits (due.take k)) by
    have t := this qs.length (Nat.le_refl _)
    rw [List.take_length, List.take_of_length_le (by rw [List.length_zip]; omega), List.take_of_length_le (l := due) (by omega)] at t
    exact t
  intro k
  induction k with
  | zero =>
    intro _
    rw [List.take_zero, List.take_zero, List.take_zero]
    rfl
  | succ k ih =>
    intro hk
    obtain ⟨q, hq⟩ : ∃ q, qs[k]? = some q := ⟨_, List.getElem?_eq_getElem (by omega)⟩
    obtain ⟨x, hx⟩ : ∃ x, due[k]? = some x := ⟨_, List.getElem?_eq_getElem (by omega)⟩
    have hz : (qs.zip due)[k]? = some (q, x) := List.getElem?_zip_eq_some.mpr ⟨hq, hx⟩
    rw [take_snoc hz, take_snoc hq, take_snoc hx, List.map_append, List.map_append]
    show grow (_ ++ [_]) = (grow (_ ++ [_])).filter _
    rw [grow_snoc, grow_snoc, ih (by omega), grow1_filter (P := fits (due.take k)) (p := fun v => decide (x = -1) || decide (x = v))]
    · congr 1
      rcases ok k q x hq hx with e | ⟨h0, h1⟩
      · subst e
        rw [rng_all]
        rfl
      · rw [rng_only h0 h1]
        have e : ¬ x = -1 := by omega
        simp [e]
    · intro r hr v
      refine fits_snoc ?_
      rw [grow_row hr, List.length_map, List.length_take, List.length_take]
      omega
theorem fits_own {ns lot : List Str} {truth : List Int} (h : ns.length = truth.length) : fits (sheetL ns lot truth) truth = true := by
  unfold fits bad
  rw [List.isEmpty_iff, List.filter_eq_nil_iff]
  intro i hi
  have hi := List.mem_range.mp hi
  obtain ⟨z, hz⟩ : ∃ z, ns[i]? = some z := ⟨_, List.getElem?_eq_getElem (by omega)⟩
  obtain ⟨t, ht⟩ : ∃ t, truth[i]? = some t := ⟨_, List.getElem?_eq_getElem hi⟩
  have e := sheet_at (lot := lot) hz ht
  simp only [List.getD_eq_getElem?_getD, e, ht, Option.getD_some]
  by_cases c : z ∈ lot <;> simp [c]
end Fm

set_option Elab.async false
set_option linter.all false
set_option maxRecDepth 100000
set_option maxHeartbeats 4000000
/-! Fm2: lists of texts and of lots: how they are sorted, shown, looked at. -/
namespace Fm
open PySem PySem.Spec PyProof.Rows L2 Wb Wv
theorem sortD_strs (zs : List Str) : ∃ ys : List Str, ys.Perm zs ∧ sortD (zs.map .str) = ys.map .str := by
  refine ⟨zs.mergeSort fun a b => dle (.str a) (.str b), List.mergeSort_perm _ _, ?_⟩
  unfold sortD
  rw [List.map_mergeSort (s := dle) (f := PyData.str) (fun a _ b _ => rfl)]
theorem alike_str (zs : List Str) : PySem.W.AllAlike (zs.map .str) := by
  intro d hd d' hd'
  obtain ⟨a, _, rfl⟩ := List.mem_map.mp hd
  obtain ⟨b, _, rfl⟩ := List.mem_map.mp hd'
  simp only [PySem.W.alike]
theorem sortok_str (zs : List Str) : PySem.W.SortOk (zs.map .str) := .inr fun d hd => by
  obtain ⟨a, _, rfl⟩ := List.mem_map.mp hd
  exact ⟨(fun z => nomatch z), (fun _ z => nomatch z)⟩
theorem depth_str (zs : List Str) : ∀ d ∈ zs.map PyData.str, d.depth ≤ 60 := fun d hd => by
  obtain ⟨a, _, rfl⟩ := List.mem_map.mp hd
  simp [PyData.depth]
theorem strs_vals {K : PySem.W.Frag} {B : Hp} : ∀ {zs : List Str} {xs : List V}, AllR ((zs.map PyData.str).map (dat K)) B xs → xs = zs.map V.str
  | [], _, h => h
  | z :: zs, _, h => by
    obtain ⟨v, r, rfl, h1, h2⟩ := h
    rw [dat_str h1, strs_vals h2]
    rfl
theorem strs_dpAll {K : PySem.W.Frag} {H : Hp} : ∀ zs : List Str, DpAll K H (zs.map V.str) (zs.map PyData.str)
  | [] => .nil
  | z :: zs => .cons (.str z) (strs_dpAll zs)
theorem tb_nm {n : Nat} {z : Str} (h : Nmk n z) : Tb 0 n (.str z) := tb_str (fun a ha => Nat.lt_trans (h.2 a ha) (by decide)) h.1
theorem sortD_lots (ls : List (List Str)) : ∃ ys : List (List Str), ys.Perm ls ∧ sortD (ls.map lotD) = ys.map lotD := by
  refine ⟨ls.mergeSort fun a b => dle (lotD a) (lotD b), List.mergeSort_perm _ _, ?_⟩
  unfold sortD
  rw [List.map_mergeSort (s := dle) (f := lotD) (fun a _ b _ => rfl)]
theorem subs_in {l a : List Str} (h : a ∈ subs l) : ∀ z ∈ a, z ∈ l := by
  suffices ∀ k, k ≤ l.length → ∀ a ∈ subs (l.take k), ∀ z ∈ a, z ∈ l from this l.length (Nat.le_refl _) a (by rw [List.take_length]; exact h)
  intro k
  induction k with
  | zero =>
    intro _ a ha z hz
    rw [List.take_zero] at ha
    have ha : a ∈ [[]] := ha
    rw [List.mem_singleton.mp ha] at hz
    cases hz
  | succ k ih =>
    intro hk a ha z hz
    have e : l.take (k + 1) = l.take k ++ [l[k]] := by rw [List.take_succ, List.getElem?_eq_getElem (by omega)]; rfl
    rw [e, subs_snoc] at ha
    rcases List.mem_append.mp ha with ha | ha
    · exact ih (by omega) a ha z hz
    · obtain ⟨b, hb, rfl⟩ := List.mem_map.mp ha
      rcases List.mem_append.mp hz with hz | hz
      · exact ih (by omega) b hb z hz
      · rw [List.mem_singleton.mp hz]
        exact List.getElem_mem _
theorem lay_lots : ∀ ls : List (List Str), (∀ l ∈ ls, ∀ z ∈ l, Nm z) → PyData.canLayAll0 (ls.map lotD) = true
  | [], _ => by simp [PyData.canLayAll0]
  | l :: ls, h => by
    rw [List.map_cons]
    simp only [PyData.canLayAll0, Bool.and_eq_true]
    exact ⟨by simp only [lotD, PyData.canLay0]; exact lay_strs (h l List.mem_cons_self), lay_lots ls fun a ha => h a (List.mem_cons_of_mem _ ha)⟩
theorem lay_rows : ∀ rs : List (List Int), PyData.canLayAll0 (rs.map rowD) = true
  | [] => by simp [PyData.canLayAll0]
  | l :: ls => by
    rw [List.map_cons]
    simp only [PyData.canLayAll0, Bool.and_eq_true]
    exact ⟨by simp only [rowD, PyData.canLay0]; exact lay_ints _, lay_rows ls⟩
theorem depth_rows : ∀ rs : List (List Int), PyData.depthAll (rs.map rowD) ≤ 1
  | [] => by simp [PyData.depthAll]
  | l :: ls => by
    have := depth_rows ls
    simp only [List.map_cons, PyData.depthAll, rowD, PyData.depth, depth_ints]
    omega
theorem shaped_rows (rs : List (List Int)) : SeqAt.shaped (rowsT rs) = true := by
  unfold SeqAt.shaped rowsT
  rw [Bool.and_eq_true]
  refine ⟨by simp only [PyData.canLay0]; exact lay_rows rs, decide_eq_true ?_⟩
  have := depth_rows rs
  simp only [PyData.depth]
  omega
theorem tb_lot {l : List Str} (h : ∀ z ∈ l, Nm z) (few : l.length ≤ 4) : Tb 1 84 (lotD l) := by
  refine ((TbAll.of (n := 0) (W := 20) (es := l.map .str) fun e he => ?_).tuple).more (Nat.le_refl _) ?_
  · obtain ⟨z, hz, rfl⟩ := List.mem_map.mp he
    exact tb_nm (h z hz)
  · rw [List.length_map]
    omega
theorem tb_row {r : List Int} (few : r.length ≤ 4) (h : ∀ i ∈ r, i.natAbs ≤ 100) : Tb 1 4 (rowD r) := by
  refine ((TbAll.of (n := 0) (W := 0) (es := r.map .int) fun e he => ?_).tuple).more (Nat.le_refl _) ?_
  · obtain ⟨i, hi, rfl⟩ := List.mem_map.mp he
    refine tb_int (Nat.lt_of_le_of_lt (h i hi) ?_)
    exact Nat.lt_of_lt_of_le (show 100 < 2 ^ 7 by decide) (Nat.pow_le_pow_right (by decide) (by decide))
  · rw [List.length_map]
    omega
/-- data that are texts -/
theorem strs_of {P : Str → Prop} : ∀ {ds : List PyData}, (∀ y ∈ ds, ∃ z, y = .str z ∧ P z) → ∃ zs : List Str, ds = zs.map .str ∧ ∀ z ∈ zs, P z
  | [], _ => ⟨[], rfl, fun z h => nomatch h⟩
  | d :: ds, h => by
    obtain ⟨z, rfl, hz⟩ := h d List.mem_cons_self
    obtain ⟨zs, rfl, hs⟩ := strs_of fun y hy => h y (List.mem_cons_of_mem _ hy)
    exact ⟨z :: zs, rfl, fun x hx => by
      rcases List.mem_cons.mp hx with rfl | hx
      · exact hz
      · exact hs x hx⟩
theorem each_mem {α : Type} {P : α → PyData → Prop} {as : List α} {ds : List PyData} (h : Each P as ds) : ∀ y ∈ ds, ∃ a ∈ as, P a y := fun y hy => by
  obtain ⟨i, hi, rfl⟩ := List.mem_iff_getElem.mp hy
  have ha : i < as.length := by rw [← h.1]; exact hi
  exact ⟨as[i], List.getElem_mem ha, h.2 i _ _ (List.getElem?_eq_getElem ha) (List.getElem?_eq_getElem hi)⟩
abbrev rJoin (K : PySem.W.Frag) : V → List V → Hp → VK → Prop := fun x xs H Q => ∃ a p, ∃ ys : List Str, x = .str a ∧ xs = [.ref p] ∧ (SqL K H p (ys.map V.str) ∨ SqT K H p (ys.map V.str)) ∧ (ys.map (·.length)).sum + ys.length * a.length ≤ 16777216 ∧ Q (.str (Txt.join a ys)) H
theorem pe_joinK {X : Cx} {K : PySem.W.Frag} {o e : Expr} {to te : TE} {apos pos : Pos} (hK : X.K = K) (ho : PE X o to) (he : PE X e te) (hs : starEach [e] X.env = [(false, eval e X.env)] := by rfl) (hbase : attributeBase o "join" X.env (eval o X.env) = eval o X.env := by rfl) (hline : (apos.endLine == pos.line) = true := by rfl) :
    PE X (.Call (.Attribute o "join" apos) [e] [] pos) (tM1 (rJoin K) to te) := by
  subst hK
  exact pe_join ho he hs hbase hline
section
variable {K : PySem.W.Frag} {σ : L2.St} {d c : Addr} {B : Hp} {te tf : TE} {E : XK} {i : Nat}
theorem Dw.ofTxt {z : Str} (hd : σ[i]? = some (some (.ref d))) (h : De te σ B (dat K (.str z))) (ne : 0 < z.length) (few : z.length ≤ 1000) : Dw (tCall (spOf K) [] E (tCons (tVar i) (tCons te tNil))) σ d c B (datP K fun x => ∃ a, x = .str ⟨#[a]⟩ ∧ a ∈ z.cps.toList) := fun B1 H s L Q k =>
  c_ofS L hd (h.mono s) ne few fun a B' H' ha e => k _ B' H' e ⟨_, ⟨a, rfl, ha⟩, .str _⟩
theorem De.join {sep : Str} {zs : List Str} (h1 : De te σ B (dat K (.str sep))) (h2 : De tf σ B (dat K (.list (zs.map .str)))) (hz : (zs.map (·.length)).sum + zs.length * sep.length ≤ 16777216) :
    De (tM1 (fun x xs H Q => ∃ a p, ∃ ys : List Str, x = .str a ∧ xs = [.ref p] ∧ (SqL K H p (ys.map V.str) ∨ SqT K H p (ys.map V.str)) ∧ (ys.map (·.length)).sum + ys.length * a.length ≤ 16777216 ∧ Q (.str (Txt.join a ys)) H) te tf) σ B (dat K (.str (Txt.join sep zs))) := fun B1 H s1 s2 Q q =>
  h1 B1 H s1 s2 _ fun x B2 H2 e hx => by
    have hx := dat_str hx
    subst hx
    refine ⟨⟨_, rfl⟩, h2 B2 H2 (s1.trans e.bb) e.bh _ fun y B3 H3 e3 hy => ?_⟩
    obtain ⟨p, xs, rfl, hs, hR⟩ := dat_lstR hy
    have ex := strs_vals (zs := zs) hR
    subst ex
    exact ⟨_, p, zs, rfl, rfl, .inl (e3.bh.seq hs), hz, q _ B3 H3 (e.trans e3) (.str _)⟩
end
end Fm

namespace Wf
/-- how a top and a bottom are brought down -/
theorem frac_val (t b : Int) (hb : b ≠ 0) : ∀ c : Int, c = (if b < 0 then -((Nat.gcd t.natAbs b.natAbs : Nat) : Int) else ((Nat.gcd t.natAbs b.natAbs : Nat) : Int)) →
    c ≠ 0 ∧ t.fdiv c = (Rat.divInt t b).num ∧ b.fdiv c = ((Rat.divInt t b).den : Int) := by
  intro c hc
  have gp : 0 < Nat.gcd t.natAbs b.natAbs := Nat.gcd_pos_of_pos_right _ (Int.natAbs_pos.mpr hb)
  generalize hg : Nat.gcd t.natAbs b.natAbs = g at *
  have dt : (g : Int) ∣ t := Int.natAbs_dvd_natAbs.mp (by rw [Int.natAbs_natCast, ← hg]; exact Nat.gcd_dvd_left _ _)
  have db : (g : Int) ∣ b := Int.natAbs_dvd_natAbs.mp (by rw [Int.natAbs_natCast, ← hg]; exact Nat.gcd_dvd_right _ _)
  have e1 : (Rat.divInt t b).num = b.sign * t / g := by
    rw [Rat.num_divInt]
    have : b.gcd t = g := by rw [← hg, Nat.gcd_comm]; rfl
    rw [this]
  have e2 : ((Rat.divInt t b).den : Int) = (b.natAbs : Int) / (g : Int) := by
    rw [Rat.den_divInt, if_neg hb]
    have : b.gcd t = g := by rw [← hg, Nat.gcd_comm]; rfl
    rw [this, Int.natCast_ediv]
  obtain ⟨x, rfl⟩ := dt
  obtain ⟨y, rfl⟩ := db
  have g0 : (g : Int) ≠ 0 := by omega
  rw [e1, e2]
  by_cases neg : (g : Int) * y < 0
  · rw [if_pos neg] at hc
    subst hc
    have s : ((g : Int) * y).sign = -1 := Int.sign_eq_neg_one_of_neg neg
    have n : (((g : Int) * y).natAbs : Int) = (g : Int) * -y := by
      have := Int.ofNat_natAbs_of_nonpos (Int.le_of_lt neg)
      rw [this, Int.mul_neg]
    refine ⟨by omega, ?_, ?_⟩
    · rw [s]
      have : -1 * ((g : Int) * x) = (g : Int) * -x := by rw [Int.mul_neg]; omega
      rw [this, Int.mul_ediv_cancel_left _ g0]
      exact Int.fdiv_eq_of_eq_mul_right (by omega) (by rw [Int.neg_mul_neg])
    · rw [n, Int.mul_ediv_cancel_left _ g0]
      exact Int.fdiv_eq_of_eq_mul_right (by omega) (by rw [Int.neg_mul_neg])
  · rw [if_neg neg] at hc
    subst hc
    have pos : 0 < (g : Int) * y := by omega
    have s : ((g : Int) * y).sign = 1 := Int.sign_eq_one_of_pos pos
    have n : (((g : Int) * y).natAbs : Int) = (g : Int) * y := Int.natAbs_of_nonneg (Int.le_of_lt pos)
    refine ⟨g0, ?_, ?_⟩
    · rw [s, Int.one_mul, Int.mul_ediv_cancel_left _ g0]
      exact Int.fdiv_eq_of_eq_mul_right g0 rfl
    · rw [n, Int.mul_ediv_cancel_left _ g0]
      exact Int.fdiv_eq_of_eq_mul_right g0 rfl
/-- the same for a bottom above 0, by the other division -/
theorem low_val (t b : Int) (hb : 0 < b) : t / ((Nat.gcd t.natAbs b.natAbs : Nat) : Int) = (Rat.divInt t b).num ∧ b / ((Nat.gcd t.natAbs b.natAbs : Nat) : Int) = ((Rat.divInt t b).den : Int) := by
  obtain ⟨_, h1, h2⟩ := frac_val t b (by omega) _ (if_neg (by omega)).symm
  rw [Int.fdiv_eq_ediv_of_nonneg _ (Int.natCast_nonneg _)] at h1 h2
  exact ⟨h1, h2⟩
theorem add_val (p q : Rat) : Rat.divInt (p.num * q.den + q.num * p.den) (p.den * q.den) = p + q := by
  rw [Rat.add_def', ← Rat.divInt_ofNat, Int.natCast_mul]
theorem sub_val (p q : Rat) : Rat.divInt (p.num * q.den - q.num * p.den) (p.den * q.den) = p - q := by
  rw [Rat.sub_def', ← Rat.divInt_ofNat, Int.natCast_mul]
theorem mul_val (p q : Rat) : Rat.divInt (p.num * q.num) (p.den * q.den) = p * q := by
  rw [Rat.mul_def', ← Rat.divInt_ofNat, Int.natCast_mul]
theorem div_val (p q : Rat) : Rat.divInt (p.num * q.den) (p.den * q.num) = p / q := by
  rw [Rat.div_def, Rat.inv_def, ← Rat.divInt_mul_divInt, Rat.num_divInt_den]
theorem neg_divInt (t b : Int) : Rat.divInt (0 - t) (0 - b) = Rat.divInt t b := by
  rw [Int.zero_sub, Int.zero_sub, Rat.neg_divInt_neg]
/-- how long tops and bottoms are -/
structure Sz (k : Nat) (q : Rat) : Prop where
  top : q.num.natAbs < 2 ^ k
  bot : q.den < 2 ^ k
theorem Sz.mono {j k : Nat} {q : Rat} (h : Sz j q) (l : j ≤ k) : Sz k q :=
  ⟨Nat.lt_of_lt_of_le h.top (Nat.pow_le_pow_right (by decide) l), Nat.lt_of_lt_of_le h.bot (Nat.pow_le_pow_right (by decide) l)⟩
theorem sz_divInt {t b : Int} {k : Nat} (hb : b ≠ 0) (h1 : t.natAbs < 2 ^ k) (h2 : b.natAbs < 2 ^ k) : Sz k (Rat.divInt t b) := by
  have gp : 0 < b.gcd t := Int.gcd_pos_of_ne_zero_left _ hb
  constructor
  · rw [Rat.num_divInt]
    have : (b.sign * t / (b.gcd t : Int)).natAbs ≤ (b.sign * t).natAbs := by
      exact Int.natAbs_ediv_le_natAbs _ _
    rw [Int.natAbs_mul, Int.natAbs_sign_of_ne_zero hb, Nat.one_mul] at this
    omega
  · rw [Rat.den_divInt, if_neg hb]
    exact Nat.lt_of_le_of_lt (Nat.div_le_self _ _) h2
theorem lt_mul {a b j k : Nat} (h1 : a < 2 ^ j) (h2 : b < 2 ^ k) : a * b < 2 ^ (j + k) := by
  rw [Nat.pow_add]
  exact Nat.mul_lt_mul'' h1 h2
theorem Sz.add {j k : Nat} {p q : Rat} (h1 : Sz j p) (h2 : Sz k q) : Sz (j + k + 1) (p + q) := by
  rw [← add_val]
  have a := lt_mul h1.top h2.bot
  have b := lt_mul h2.top h1.bot
  have c := lt_mul h1.bot h2.bot
  have e : 2 ^ (j + k + 1) = 2 ^ (j + k) + 2 ^ (j + k) := by rw [Nat.pow_succ]; omega
  rw [Nat.add_comm k j] at b
  have hd : (p.den : Int) * q.den ≠ 0 := by
    have := p.den_pos; have := q.den_pos
    exact Int.mul_ne_zero (by omega) (by omega)
  refine sz_divInt hd ?_ ?_
  · have := Int.natAbs_add_le (p.num * q.den) (q.num * p.den)
    rw [Int.natAbs_mul, Int.natAbs_mul, Int.natAbs_natCast, Int.natAbs_natCast] at this
    omega
  · rw [Int.natAbs_mul, Int.natAbs_natCast, Int.natAbs_natCast]
    omega
theorem Sz.neg {k : Nat} {p : Rat} (h : Sz k p) : Sz k (-p) := ⟨by rw [Rat.neg_num, Int.natAbs_neg]; exact h.top, h.bot⟩
theorem Sz.sub {j k : Nat} {p q : Rat} (h1 : Sz j p) (h2 : Sz k q) : Sz (j + k + 1) (p - q) := by
  rw [Rat.sub_eq_add_neg]
  exact h1.add h2.neg
theorem Sz.mul {j k : Nat} {p q : Rat} (h1 : Sz j p) (h2 : Sz k q) : Sz (j + k) (p * q) := by
  rw [← mul_val]
  have a := lt_mul h1.top h2.top
  have c := lt_mul h1.bot h2.bot
  have hd : (p.den : Int) * q.den ≠ 0 := by
    have := p.den_pos; have := q.den_pos
    exact Int.mul_ne_zero (by omega) (by omega)
  refine sz_divInt hd ?_ ?_
  · rw [Int.natAbs_mul]; exact a
  · rw [Int.natAbs_mul, Int.natAbs_natCast, Int.natAbs_natCast]; exact c
theorem Sz.div {j k : Nat} {p q : Rat} (h1 : Sz j p) (h2 : Sz k q) (h : q ≠ 0) : Sz (j + k) (p / q) := by
  rw [← div_val]
  have a := lt_mul h1.top h2.bot
  have c := lt_mul h1.bot h2.top
  have hd : (p.den : Int) * q.num ≠ 0 := by
    have := p.den_pos
    exact Int.mul_ne_zero (by omega) (fun e => h (Rat.num_eq_zero.mp e))
  refine sz_divInt hd ?_ ?_
  · rw [Int.natAbs_mul, Int.natAbs_natCast]; exact a
  · rw [Int.natAbs_mul, Int.natAbs_natCast]; exact c
/-- 1, 0, -1 -/
def cmpI (x y : Int) : Int := (if x > y then 1 else 0) - (if x < y then 1 else 0)
def cmpR (p q : Rat) : Int := cmpI (p.num * q.den) (q.num * p.den)
theorem cmpR_eq (p q : Rat) : cmpR p q = if q < p then 1 else if p < q then -1 else 0 := by
  unfold cmpR cmpI
  have h1 : (q < p) ↔ p.num * q.den > q.num * p.den := Rat.lt_iff q p
  have h2 : (p < q) ↔ p.num * q.den < q.num * p.den := Rat.lt_iff p q
  by_cases a : q < p
  · have b := h1.mp a
    rw [if_pos a, if_pos b, if_neg (by omega)]
    rfl
  · have b := fun z => a (h1.mpr z)
    rw [if_neg a, if_neg b]
    by_cases c : p < q
    · rw [if_pos c, if_pos (h2.mp c)]; rfl
    · rw [if_neg c, if_neg fun z => c (h2.mpr z)]; rfl
theorem cmp_add (p q r : Rat) : cmpR (p + r) (q + r) = cmpR p q := by
  rw [cmpR_eq, cmpR_eq]
  have h : ∀ x y : Rat, x + r < y + r ↔ x < y := fun x y => by
    constructor <;> intro z <;> grind
  simp only [h]
theorem cmp_sign (r : Rat) : cmpR r 0 = if 0 < r then 1 else if r < 0 then -1 else 0 := cmpR_eq r 0
theorem cmp_mul (p q r : Rat) : cmpR (p * r) (q * r) = cmpR p q * cmpR r 0 := by
  have key : ∀ x y : Rat, 0 < r → (x * r < y * r ↔ x < y) := fun x y h => ⟨fun z => by
    by_cases c : x < y
    · exact c
    · have : 0 ≤ (x - y) * r := Rat.mul_nonneg (by grind) (by grind)
      grind, fun z => by
    have : 0 < (y - x) * r := Rat.mul_pos (by grind) h
    grind⟩
  have key2 : ∀ x y : Rat, r < 0 → (x * r < y * r ↔ y < x) := fun x y h => ⟨fun z => by
    by_cases c : y < x
    · exact c
    · have : 0 ≤ (y - x) * -r := Rat.mul_nonneg (by grind) (by grind)
      grind, fun z => by
    have : 0 < (x - y) * -r := Rat.mul_pos (by grind) (by grind)
    grind⟩
  rw [cmpR_eq, cmpR_eq, cmp_sign]
  by_cases a : 0 < r
  · simp only [key _ _ a, if_pos a, Int.mul_one]
  · by_cases b : r < 0
    · simp only [key2 _ _ b, if_pos b, if_neg a]
      by_cases c : p < q
      · have : ¬ q < p := by grind
        simp [c, this]
      · by_cases d : q < p
        · simp [c, d]
        · simp [c, d]
    · have : r = 0 := by grind
      subst this
      simp
end Wf

namespace Wf
def sumR : List Rat → Rat
  | [] => 0
  | q :: r => q + sumR r
def prodR : List Rat → Rat
  | [] => 1
  | q :: r => q * prodR r
theorem sumR_snoc (q : Rat) : ∀ l : List Rat, sumR (l ++ [q]) = sumR l + q
  | [] => by show q + 0 = 0 + q; rw [Rat.add_comm]
  | x :: l => by
    show x + sumR (l ++ [q]) = x + sumR l + q
    rw [sumR_snoc q l, Rat.add_assoc]
theorem prodR_snoc (q : Rat) : ∀ l : List Rat, prodR (l ++ [q]) = prodR l * q
  | [] => by show q * 1 = 1 * q; rw [Rat.mul_comm]
  | x :: l => by
    show x * prodR (l ++ [q]) = x * prodR l * q
    rw [prodR_snoc q l, Rat.mul_assoc]
theorem den_ne0 (q : Rat) : (q.den : Int) ≠ 0 := by
  have := q.den_pos
  omega
/-- the parts of a common bottom -/
def sumTop (L : Int) : List Rat → Int
  | [] => 0
  | q :: r => q.num * (L / q.den) + sumTop L r
theorem one_part {L : Int} (h : L ≠ 0) {q : Rat} (d : (q.den : Int) ∣ L) : Rat.divInt (q.num * (L / q.den)) L = q := by
  obtain ⟨m, rfl⟩ := d
  have m0 : m ≠ 0 := fun e => h (by rw [e, Int.mul_zero])
  rw [Int.mul_ediv_cancel_left _ (den_ne0 q), Rat.divInt_mul_right m0, Rat.num_divInt_den]
theorem add_parts {L a b : Int} (h : L ≠ 0) : Rat.divInt (a + b) L = Rat.divInt a L + Rat.divInt b L := by
  rw [Rat.divInt_add_divInt _ _ h h, ← Int.add_mul, Rat.divInt_mul_right h]
theorem sum_parts {L : Int} (h : L ≠ 0) : ∀ l : List Rat, (∀ q ∈ l, (q.den : Int) ∣ L) → Rat.divInt (sumTop L l) L = sumR l
  | [], _ => by show Rat.divInt 0 L = 0; exact Rat.zero_divInt _
  | q :: r, d => by
    show Rat.divInt (q.num * (L / q.den) + sumTop L r) L = q + sumR r
    rw [add_parts h, one_part h (d q List.mem_cons_self), sum_parts h r fun x hx => d x (List.mem_cons_of_mem _ hx)]
theorem sumTop_eq (L : Int) : ∀ l : List Rat, sumTop L l = (l.map fun q => q.num * (L / q.den)).sum
  | [] => rfl
  | q :: r => by
    show q.num * (L / q.den) + sumTop L r = _
    rw [sumTop_eq L r]
    simp
/-- a sum, a product kept as a top and a bottom -/
theorem step_sum {t b : Int} (hb : b ≠ 0) (q : Rat) : Rat.divInt (t * q.den + q.num * b) (b * q.den) = Rat.divInt t b + q := by
  have e : q = Rat.divInt q.num q.den := (Rat.num_divInt_den q).symm
  conv => rhs; rw [e]
  rw [Rat.divInt_add_divInt _ _ hb (den_ne0 q)]
theorem step_prod (t b : Int) (q : Rat) : Rat.divInt (t * q.num) (b * q.den) = Rat.divInt t b * q := by
  have e : q = Rat.divInt q.num q.den := (Rat.num_divInt_den q).symm
  conv => rhs; rw [e]
  rw [Rat.divInt_mul_divInt]
theorem one_le_two_pow (k : Nat) : 1 ≤ 2 ^ k := Nat.one_le_two_pow
theorem lcm_step {L : Nat} {q : Rat} {j k : Nat} (l0 : 0 < L) (hl : L < 2 ^ j) (hq : q.den < 2 ^ k) : 0 < Nat.lcm L q.den ∧ Nat.lcm L q.den < 2 ^ (j + k) ∧ q.den ∣ Nat.lcm L q.den ∧ L ∣ Nat.lcm L q.den := by
  refine ⟨Nat.lcm_pos l0 q.den_pos, ?_, Nat.dvd_lcm_right _ _, Nat.dvd_lcm_left _ _⟩
  have : Nat.lcm L q.den ≤ L * q.den := Nat.div_le_self _ _
  rw [Nat.pow_add]
  exact Nat.lt_of_le_of_lt this (Nat.mul_lt_mul'' hl hq)
/-- Euclid's steps -/
structure Euc (A B : Nat) (k i a b : Nat) : Prop where
  g : Nat.gcd a b = Nat.gcd A B
  first : i = 0 → a = A ∧ b = B
  later : 0 < i → b < a ∧ a * b * 2 ^ (i - 1) < 2 ^ (2 * k)
theorem euc_step {A B k i a b : Nat} (e : Euc A B k i a b) (hb : B < 2 ^ k) (b0 : b ≠ 0) : Euc A B k (i + 1) b (a % b) := by
  have bp : 0 < b := Nat.pos_of_ne_zero b0
  refine ⟨?_, fun z => by omega, fun _ => ⟨Nat.mod_lt _ bp, ?_⟩⟩
  · rw [← e.g, Nat.gcd_comm b, ← Nat.gcd_rec, Nat.gcd_comm]
  · by_cases hi : i = 0
    · obtain ⟨rfl, rfl⟩ := e.first hi
      subst hi
      show b * (a % b) * 2 ^ 0 < _
      have h1 : a % b < 2 ^ k := Nat.lt_trans (Nat.mod_lt _ bp) hb
      rw [Nat.pow_zero, Nat.mul_one, Nat.two_mul, Nat.pow_add]
      exact Nat.mul_lt_mul'' hb h1
    · obtain ⟨h1, h2⟩ := e.later (by omega)
      obtain ⟨j, rfl⟩ : ∃ j, i = j + 1 := ⟨i - 1, by omega⟩
      show b * (a % b) * 2 ^ (j + 1) < _
      have h3 : 2 * (a % b) ≤ a := by
        have := Nat.mod_add_div a b
        have q1 : 1 ≤ a / b := (Nat.le_div_iff_mul_le bp).mpr (by omega)
        have q2 : b * 1 ≤ b * (a / b) := Nat.mul_le_mul_left b q1
        have q3 := Nat.mod_lt a bp
        omega
      have h4 : b * (a % b) * 2 ^ (j + 1) ≤ a * b * 2 ^ j := by
        rw [Nat.pow_succ, Nat.mul_comm (2 ^ j) 2, ← Nat.mul_assoc, Nat.mul_comm a b]
        apply Nat.mul_le_mul_right
        rw [Nat.mul_assoc, Nat.mul_comm (a % b) 2]
        exact Nat.mul_le_mul_left b h3
      exact Nat.lt_of_le_of_lt h4 h2
theorem euc_end {A B k i a b : Nat} (e : Euc A B k i a b) (hi : 2 * k + 1 ≤ i) : b = 0 := by
  obtain ⟨h1, h2⟩ := e.later (by omega)
  by_cases z : b = 0
  · exact z
  · exfalso
    have p : 1 ≤ a * b := Nat.mul_pos (by omega) (by omega)
    have q : 2 ^ (2 * k) ≤ 2 ^ (i - 1) := Nat.pow_le_pow_right (by decide) (by omega)
    have r : 1 * 2 ^ (i - 1) ≤ a * b * 2 ^ (i - 1) := Nat.mul_le_mul_right _ p
    omega
theorem euc_done {A B k i a : Nat} (e : Euc A B k i a 0) : a = Nat.gcd A B := by
  rw [← e.g, Nat.gcd_zero_right]
end Wf

set_option Elab.async false
set_option linter.all false
set_option maxRecDepth 100000
set_option maxHeartbeats 4000000
/-! Fq: fractions as data, what is worked out of them. -/
theorem L2.Room.u1 {k : Nat} {A : PySem.Around} (h : L2.Room k A) : A.units + 1 < PySem.cLine := by
  have := h.units
  omega
namespace Fq
open PySem PySem.Spec PyProof.Rows L2 Wb Wv Wf
/-- a fraction as data -/
def frD (q : Rat) : PyData := .tuple [.int q.num, .int (q.den : Int)]
theorem frD_eqv (p q : Rat) : PyData.eqv (frD p) (frD q) = decide (p = q) := by
  unfold frD
  simp only [PyData.eqv, PyData.eqvAll, Bool.and_true]
  by_cases h : p = q
  · subst h
    simp
  · rw [decide_eq_false h]
    by_cases a : p.num = q.num
    · have b : ¬ p.den = q.den := fun z => h (Rat.ext a z)
      have b' : ¬ (p.den : Int) = q.den := fun z => b (by omega)
      simp [a, b']
    · simp [a]
theorem frD_shaped (q : Rat) : SeqAt.shaped (frD q) = true := by
  show (PyData.canLay0 (frD q) && decide (PyData.depth (frD q) ≤ 64)) = true
  unfold frD
  simp [PyData.canLay0, PyData.canLayAll0, PyData.depth, PyData.depthAll]
theorem denA (q : Rat) : ((q.den : Int)).natAbs = q.den := Int.natAbs_natCast _
theorem frD_tb {q : Rat} {n : Nat} (h : Sz n q) (hn : n ≤ 1900) : Tb 1 2 (frD q) := by
  have up : 2 ^ n ≤ 2 ^ 1900 := Nat.pow_le_pow_right (by decide) hn
  have h1 := h.top
  have h2 := h.bot
  have h3 : ((q.den : Int)).natAbs < 2 ^ 1900 := by rw [denA]; omega
  exact (TbAll.cons (tb_int (by omega)) (.cons (tb_int h3) .nil)).tuple
theorem den_ne (q : Rat) : (q.den : Int) ≠ 0 := by
  have := q.den_pos
  omega
theorem dens_ne (p q : Rat) : (p.den : Int) * q.den ≠ 0 := Int.mul_ne_zero (den_ne p) (den_ne q)
theorem den_pos (q : Rat) : (0 : Int) < q.den := by
  have := q.den_pos
  omega
theorem dens_pos (p q : Rat) : (0 : Int) < p.den * q.den := Int.mul_pos (den_pos p) (den_pos q)
theorem lt_mulI {i j : Int} {a b : Nat} (ha : i.natAbs < 2 ^ a) (hb : j.natAbs < 2 ^ b) : (i * j).natAbs < 2 ^ (a + b) := wide_lt ha hb
theorem sz_den {k : Nat} {q : Rat} (h : Sz k q) : ((q.den : Int)).natAbs < 2 ^ k := by
  rw [denA]
  exact h.bot
theorem mulOk {i j : Int} (h1 : i.natAbs < 2 ^ 3000) (h2 : j.natAbs < 2 ^ 3000) : CMulW i j := wide_mul h1 h2 (by decide) (by decide) (by decide)
theorem dens_lt {p q : Rat} (h1 : Sz 3000 p) (h2 : Sz 3000 q) : ((p.den : Int) * q.den).natAbs < 2 ^ 7000 := Nat.lt_of_lt_of_le (lt_mulI (sz_den h1) (sz_den h2)) (Nat.pow_le_pow_right (by decide) (by decide))
theorem tops_lt {p q : Rat} (h1 : Sz 3000 p) (h2 : Sz 3000 q) : (p.num * q.num).natAbs < 2 ^ 7000 := Nat.lt_of_lt_of_le (lt_mulI h1.top h2.top) (Nat.pow_le_pow_right (by decide) (by decide))
theorem cross_lt {p q : Rat} (h1 : Sz 3000 p) (h2 : Sz 3000 q) : (p.num * q.den + q.num * p.den).natAbs < 2 ^ 7000 := by
  have a := lt_mulI h1.top (sz_den h2)
  have b := lt_mulI h2.top (sz_den h1)
  have c : 2 ^ (3000 + 3000) + 2 ^ (3000 + 3000) ≤ 2 ^ 7000 := by
    rw [← Nat.two_mul, ← Nat.pow_succ']
    exact Nat.pow_le_pow_right (by decide) (by decide)
  exact Nat.lt_of_le_of_lt (Int.natAbs_add_le _ _) (Nat.lt_of_lt_of_le (Nat.add_lt_add a b) c)
theorem cross_lt' {p q : Rat} (h1 : Sz 3000 p) (h2 : Sz 3000 q) : (p.num * q.den - q.num * p.den).natAbs < 2 ^ 7000 := by
  have a := lt_mulI h1.top (sz_den h2)
  have b := lt_mulI h2.top (sz_den h1)
  have c : 2 ^ (3000 + 3000) + 2 ^ (3000 + 3000) ≤ 2 ^ 7000 := by
    rw [← Nat.two_mul, ← Nat.pow_succ']
    exact Nat.pow_le_pow_right (by decide) (by decide)
  have d := Int.natAbs_sub_le (p.num * q.den) (q.num * p.den)
  exact Nat.lt_of_le_of_lt d (Nat.lt_of_lt_of_le (Nat.add_lt_add a b) c)
/-! ### promises -/
/-- fraction(top, bottom) -/
def spFracD (K : PySem.W.Frag) (CS : Addr) : Sp := fun vs H Q E => ∃ (B : Hp) (t b : Int), vs = [.int t, .int b] ∧ Same B H ∧ b.natAbs < 2 ^ 7000 ∧ (b ≠ 0 → ∀ v B' H', Ext B H B' H' → dat K (frD (Rat.divInt t b)) B' v → Q v H') ∧
  (b = 0 → ∀ dx, H dx = none → E (.ref CS) (some dx) (upd H dx (.xd [("word", .str "bottom")])))
abbrev spLowD (K : PySem.W.Frag) : Sp := Pf (α := Int × Int) (fun a => [dat K (.int a.1), dat K (.int a.2)]) (fun a => 0 < a.2 ∧ a.2.natAbs < 2 ^ 7000) (fun a => dat K (frD (Rat.divInt a.1 a.2)))
abbrev spGcdD (K : PySem.W.Frag) : Sp := Pf (α := Nat × Nat) (fun a => [dat K (.int a.1), dat K (.int a.2)]) (fun _ => True) (fun a => dat K (.int (Nat.gcd a.1 a.2 : Nat)))
abbrev spWholeD (K : PySem.W.Frag) : Sp := Pf (α := Int) (fun a => [dat K (.int a)]) (fun _ => True) (fun a => dat K (frD (a : Rat)))
abbrev spBinD (K : PySem.W.Frag) (f : Rat → Rat → Rat) : Sp := Pf (α := Rat × Rat) (fun a => [dat K (frD a.1), dat K (frD a.2)]) (fun a => Sz 3000 a.1 ∧ Sz 3000 a.2) (fun a => dat K (frD (f a.1 a.2)))
section
variable {K : PySem.W.Frag} {σ : L2.St} {B B' : Hp} {ta tb te : TE} {p q : Rat} {E : XK} {CS : Addr}
theorem De.num (h : De te σ B (dat K (frD q))) : De (tOp (rIxT K) te (tC (.int 0))) σ B (dat K (.int q.num)) := .op h .int (Rv.ixTD rfl)
theorem De.den (h : De te σ B (dat K (frD q))) : De (tOp (rIxT K) te (tC (.int 1))) σ B (dat K (.int (q.den : Int))) := .op h .int (Rv.ixTD rfl)
theorem De.frac {t b : Int} {tr : TA} (h : Da tr σ B [dat K (.int t), dat K (.int b)]) (b0 : b ≠ 0) (lb : b.natAbs < 2 ^ 7000) : De (tCall (fun vs H Q _ => spFracD K CS vs H Q fun _ _ _ => False) [] E tr) σ B (dat K (frD (Rat.divInt t b))) := fun B1 H s1 s2 Q k =>
  h B1 H s1 s2 _ fun vs B2 H2 e hv => by
    obtain ⟨x, r, rfl, hx, y, r', rfl, hy, hr⟩ := hv
    have hr : r' = [] := hr
    subst hr
    have hx := dat_int hx
    subst hx
    have hy := dat_int hy
    subst hy
    exact ⟨B2, t, b, rfl, e.bh, lb, fun _ v B' H' e' hv => k v B' H' (e.trans e') hv, fun z => absurd z b0⟩
theorem De.low {t b : Int} {tr : TA} (h : Da tr σ B [dat K (.int t), dat K (.int b)]) (b0 : 0 < b) (lb : b.natAbs < 2 ^ 7000) : De (tCall (spLowD K) [] E tr) σ B (dat K (frD (Rat.divInt t b))) := De.call (t, b) h ⟨b0, lb⟩
theorem De.bin {f : Rat → Rat → Rat} {tr : TA} (h : Da tr σ B [dat K (frD p), dat K (frD q)]) (zp : Sz 3000 p) (zq : Sz 3000 q) : De (tCall (spBinD K f) [] E tr) σ B (dat K (frD (f p q))) := De.call (p, q) h ⟨zp, zq⟩
theorem De.tupI {i j : Int} {tr : TA} (h : Da tr σ B [dat K (.int i), dat K (.int j)]) : De (tTup tr) σ B (dat K (.tuple [.int i, .int j])) := De.tupD (ds := [.int i, .int j]) h (by show 2 ≤ sizeLine; decide)
theorem De.cross {ta tb tc td : TE} (ha : De ta σ B (dat K (frD p))) (hb : De tb σ B (dat K (frD q))) (hc : De tc σ B (dat K (frD q))) (hd : De td σ B (dat K (frD p))) (zp : Sz 3000 p) (zq : Sz 3000 q) :
    De (tOp (rI0 fun i j => .int (i + j)) (tOp (rI CMulW fun i j => .int (i * j)) (tOp (rIxT K) ta (tC (.int 0))) (tOp (rIxT K) tb (tC (.int 1)))) (tOp (rI CMulW fun i j => .int (i * j)) (tOp (rIxT K) tc (tC (.int 0))) (tOp (rIxT K) td (tC (.int 1))))) σ B (dat K (.int (p.num * q.den + q.num * p.den))) :=
  .op (.op (De.num ha) (De.den hb) (Rv.I (mulOk zp.top (sz_den zq)))) (.op (De.num hc) (De.den hd) (Rv.I (mulOk zq.top (sz_den zp)))) Rv.I0
theorem De.tops {ta tb : TE} (ha : De ta σ B (dat K (frD p))) (hb : De tb σ B (dat K (frD q))) (zp : Sz 3000 p) (zq : Sz 3000 q) :
    De (tOp (rI CMulW fun i j => .int (i * j)) (tOp (rIxT K) ta (tC (.int 0))) (tOp (rIxT K) tb (tC (.int 0)))) σ B (dat K (.int (p.num * q.num))) := .op (De.num ha) (De.num hb) (Rv.I (mulOk zp.top zq.top))
theorem De.dens {ta tb : TE} (ha : De ta σ B (dat K (frD p))) (hb : De tb σ B (dat K (frD q))) (zp : Sz 3000 p) (zq : Sz 3000 q) :
    De (tOp (rI CMulW fun i j => .int (i * j)) (tOp (rIxT K) ta (tC (.int 1))) (tOp (rIxT K) tb (tC (.int 1)))) σ B (dat K (.int (p.den * q.den))) := .op (De.den ha) (De.den hb) (Rv.I (mulOk (sz_den zp) (sz_den zq)))
theorem den1 (n : Int) : frD (n : Rat) = .tuple [.int n, .int 1] := rfl
theorem De.cstT {a : Addr} {i j : Int} (h : ∀ H, SqT K H a [.int i, .int j]) : De (tC (.ref a)) σ B (dat K (.tuple [.int i, .int j])) := .cst fun B => .tup (h B) (.cons (.int _) (.cons (.int _) .nil))
theorem gcd_pos {t b : Int} (hb : 0 < b) : 0 < Nat.gcd t.natAbs b.natAbs := Nat.gcd_pos_of_pos_right _ (by omega)
theorem dats_ints : ∀ {ns : List Int} {xs : List V}, AllR (ns.map fun n => dat K (.int n)) B xs → xs = ns.map V.int
  | [], xs, h => h
  | n :: ns, xs, ⟨v, u, e, h, t⟩ => by
    rw [e, dat_int h, dats_ints t]
    rfl
theorem rc_sum {ns : List Int} : Rc (rSum K) B [dat K (.list (ns.map .int))] (dat K (.int ns.sum)) := fun vs B1 H _ s2 hv Q q => by
  obtain ⟨v, r, rfl, h, h2⟩ := hv
  have h2 : r = [] := h2
  subst h2
  obtain ⟨a, xs, rfl, hs, hR⟩ := dat_lstR h
  rw [List.map_map] at hR
  have e := dats_ints (K := K) (ns := ns) hR
  subst e
  exact ⟨a, ns, rfl, s2.seq hs, q _ B1 H (.refl s2) (.int _)⟩
theorem De.gcd {t b : Int} {tr : TA} (h : Da tr σ B [dat K (.int t), dat K (.int b)]) : De (tCB rGcd tr) σ B (dat K (.int ((Nat.gcd t.natAbs b.natAbs : Nat) : Int))) := .cb h fun vs B1 H _ s2 hv Q k => by
  obtain ⟨x, r, rfl, hx, y, r', rfl, hy, hr⟩ := hv
  have hr : r' = [] := hr
  subst hr
  exact ⟨t, b, by rw [dat_int hx, dat_int hy], k _ B1 H (.refl s2) (.int _)⟩
theorem De.abs {i : Int} (h : De te σ B (dat K (.int i))) : De (tCB (fun xs H Q => ∃ i, xs = [.int i] ∧ Q (.int (if i < 0 then -i else i)) H) (tCons te tNil)) σ B (dat K (.int (i.natAbs : Nat))) := .cb (.one h) fun vs B1 H _ s2 hv Q k => by
  obtain ⟨x, r, rfl, hx, hr⟩ := hv
  have hr : r = [] := hr
  subst hr
  refine ⟨i, by rw [dat_int hx], k _ B1 H (.refl s2) ?_⟩
  have : (if i < 0 then -i else i) = ((i.natAbs : Nat) : Int) := by split <;> omega
  rw [this]
  exact .int _
theorem kw2s {R R1 : Rel} {vs : List V} (h : AllR [R, R1] B vs) : AllR [R, R1] B (kwV [0, 1] vs) := by
  obtain ⟨x, r, rfl, hx, y, r', rfl, hy, hr⟩ := h
  have hr : r' = [] := hr
  subst hr
  exact ⟨x, _, rfl, hx, y, _, rfl, hy, rfl⟩
theorem low_eq {t b : Int} (hb : 0 < b) : t / ((Nat.gcd t.natAbs b.natAbs : Nat) : Int) = (Rat.divInt t b).num ∧ b / ((Nat.gcd t.natAbs b.natAbs : Nat) : Int) = ((Rat.divInt t b).den : Int) := low_val t b hb
end
end Fq

set_option Elab.async false
set_option linter.all false
set_option maxRecDepth 100000
set_option maxHeartbeats 4000000
/-! Fb: fractions compared, added up. -/
namespace Fq
open PySem PySem.Spec PyProof.Rows L2 Wb Wv Wf
abbrev rInt1 : List V → Hp → VK → Prop := fun xs H Q => (∃ i, xs = [.int i] ∧ Q (.int i) H) ∨ ∃ k, xs = [.bl k] ∧ Q (.int (if k then 1 else 0)) H
abbrev spCmpD (K : PySem.W.Frag) : Sp := Pf (α := (Int × Int) × (Int × Int)) (fun a => [dat K (.tuple [.int a.1.1, .int a.1.2]), dat K (.tuple [.int a.2.1, .int a.2.2])]) (fun a => a.1.1.natAbs < 2 ^ 3000 ∧ a.1.2.natAbs < 2 ^ 3000 ∧ a.2.1.natAbs < 2 ^ 3000 ∧ a.2.2.natAbs < 2 ^ 3000) (fun a => dat K (.int (cmpI (a.1.1 * a.2.2) (a.2.1 * a.1.2))))
abbrev spSignD (K : PySem.W.Frag) : Sp := Pf (α := Int × Int) (fun a => [dat K (.tuple [.int a.1, .int a.2])]) (fun a => a.1.natAbs < 2 ^ 3000 ∧ a.2.natAbs < 2 ^ 3000) (fun a => dat K (.int (cmpI a.1 0)))
abbrev spTotalD (K : PySem.W.Frag) : Sp := Pf (α := List Rat) (fun qs => [dat K (.list (qs.map frD))]) (fun qs => ∃ k, 1 ≤ k ∧ k ≤ 3000 ∧ qs.length * k ≤ 6000 ∧ ∀ q ∈ qs, Sz k q) (fun qs => dat K (frD (sumR qs)))
section
variable {K : PySem.W.Frag} {σ : L2.St} {B B' : Hp} {ta tb te : TE} {p q : Rat} {E : XK}
theorem De.intB {b : Bool} (h : De te σ B (dat K (.bool b))) : De (tCB rInt1 (tCons te tNil)) σ B (dat K (.int (if b then 1 else 0))) := fun B1 H s1 s2 Q q => h B1 H s1 s2 _ fun v B2 H2 e hv => .inr ⟨b, by rw [dat_bl hv], q _ B2 H2 e (.int _)⟩
theorem De.intI {i : Int} (h : De te σ B (dat K (.int i))) : De (tCB rInt1 (tCons te tNil)) σ B (dat K (.int i)) := fun B1 H s1 s2 Q q => h B1 H s1 s2 _ fun v B2 H2 e hv => .inl ⟨i, by rw [dat_int hv], q _ B2 H2 e (.int _)⟩
theorem De.lcm {a b : Nat} {tr : TA} (h : Da tr σ B [dat K (.int a), dat K (.int b)]) (ha : a < 2 ^ 9000) (hb : b < 2 ^ 9000) : De (tCB rLcm tr) σ B (dat K (.int ((Nat.lcm a b : Nat) : Int))) := fun B1 H s1 s2 Q q => h B1 H s1 s2 _ fun vs B2 H2 e hv => by
  obtain ⟨x, r, rfl, hx, y, r', rfl, hy, hr⟩ := hv
  have hr : r' = [] := hr
  subst hr
  have hx := dat_int hx
  have hy := dat_int hy
  subst hx hy
  exact ⟨a, b, rfl, by simpa using ha, by simpa using hb, q _ B2 H2 e (.int _)⟩
theorem De.cmp {a b c d : Int} {tr : TA} (h : Da tr σ B [dat K (.tuple [.int a, .int b]), dat K (.tuple [.int c, .int d])]) (ha : a.natAbs < 2 ^ 3000) (hb : b.natAbs < 2 ^ 3000) (hc : c.natAbs < 2 ^ 3000) (hd : d.natAbs < 2 ^ 3000) : De (tCall (spCmpD K) [] E tr) σ B (dat K (.int (cmpI (a * d) (c * b)))) := De.call (args := fun a : (Int × Int) × (Int × Int) => [dat K (.tuple [.int a.1.1, .int a.1.2]), dat K (.tuple [.int a.2.1, .int a.2.2])]) (res := fun a => dat K (.int (cmpI (a.1.1 * a.2.2) (a.2.1 * a.1.2)))) ((a, b), (c, d)) h ⟨ha, hb, hc, hd⟩
theorem De.sign {a b : Int} (h : De te σ B (dat K (.tuple [.int a, .int b]))) (ha : a.natAbs < 2 ^ 3000) (hb : b.natAbs < 2 ^ 3000) : De (tCall (spSignD K) [] E (tCons te tNil)) σ B (dat K (.int (cmpI a 0))) := De.call (args := fun a : Int × Int => [dat K (.tuple [.int a.1, .int a.2])]) (res := fun a => dat K (.int (cmpI a.1 0))) (a, b) (.cons h .nil) ⟨ha, hb⟩
theorem De.total {qs : List Rat} {k : Nat} (h : De te σ B (dat K (.list (qs.map frD)))) (k1 : 1 ≤ k) (k3 : k ≤ 3000) (hk : qs.length * k ≤ 6000) (sz : ∀ q ∈ qs, Sz k q) : De (tCall (spTotalD K) [] E (tCons te tNil)) σ B (dat K (frD (sumR qs))) := De.call (args := fun qs : List Rat => [dat K (.list (qs.map frD))]) (res := fun qs => dat K (frD (sumR qs))) qs (.cons h .nil) ⟨k, k1, k3, hk, sz⟩
end
end Fq

set_option Elab.async false
set_option linter.all false
set_option maxRecDepth 100000
set_option maxHeartbeats 1000000
/-! Fs0: fractions added up by keys. -/
namespace Fq
open PySem PySem.Spec PyProof.Rows L2 Wb Wv Fm Wf
/-- keys and fractions -/
abbrev KF := NestedKey × Rat
def kfD (p : KF) : PyData := .tuple [p.1.data, frD p.2]
def sumAt (ps : List KF) (k : NestedKey) : Rat := sumR ((ps.filter fun q => decide (q.1 = k)).map (·.2))
def keysOf (ps : List KF) : List NestedKey := (heapsOf (ps.map fun p => (p.1, frD p.2))).map (·.1)
def sortK (ks : List NestedKey) : List NestedKey := ks.mergeSort fun a b => dle a.data b.data
def sumsOf (ps : List KF) : List KF := ((sortK (keysOf ps)).map fun k => (k, sumAt ps k)).filter fun p => decide (p.2 ≠ 0)
structure KFok (ps : List KF) : Prop where
  tup : ∀ p ∈ ps, ∃ ks, p.1 = .tup ks
  dep : ∀ p ∈ ps, p.1.depth ≤ 8
  al : ∀ p ∈ ps, ∀ q ∈ ps, PySem.W.alike p.1.data q.1.data = true
  sz : ∃ k, 1 ≤ k ∧ k ≤ 3000 ∧ ps.length * k ≤ 6000 ∧ ∀ p ∈ ps, Sz k p.2
abbrev spAddedD (K : PySem.W.Frag) : Sp := Pf (α := List KF) (fun ps => [dat K (.list (ps.map kfD))]) KFok (fun ps => dat K (.tuple ((sumsOf ps).map kfD)))
/-! ### by keys of any kind -/
section
variable {α β : Type} [DecidableEq α] [DecidableEq β]
def firsts (l : List α) : List α := l.foldl (fun acc a => if a ∈ acc then acc else acc ++ [a]) []
theorem firsts_map_acc {f : α → β} (inj : ∀ a b, f a = f b → a = b) : ∀ (l acc : List α), (l.map f).foldl (fun acc b => if b ∈ acc then acc else acc ++ [b]) (acc.map f) = (l.foldl (fun acc a => if a ∈ acc then acc else acc ++ [a]) acc).map f
  | [], acc => rfl
  | a :: l, acc => by
    rw [List.map_cons, List.foldl_cons, List.foldl_cons, ← firsts_map_acc inj l]
    congr 1
    have : f a ∈ acc.map f ↔ a ∈ acc := by
      constructor
      · intro h
        obtain ⟨b, hb, e⟩ := List.mem_map.mp h
        rw [← inj _ _ e]
        exact hb
      · exact fun h => List.mem_map.mpr ⟨a, h, rfl⟩
    by_cases h : a ∈ acc
    · rw [if_pos h, if_pos (this.mpr h)]
    · rw [if_neg h, if_neg (fun z => h (this.mp z)), List.map_append]
      rfl
theorem firsts_map {f : α → β} (inj : ∀ a b, f a = f b → a = b) (l : List α) : firsts (l.map f) = (firsts l).map f := firsts_map_acc inj l []
def sumG (ps : List (α × Rat)) (a : α) : Rat := sumR ((ps.filter fun q => decide (q.1 = a)).map (·.2))
def sumsG (dt : α → PyData) (ps : List (α × Rat)) : List (α × Rat) := (((firsts (ps.map (·.1))).mergeSort fun a b => dle (dt a) (dt b)).map fun a => (a, sumG ps a)).filter fun p => decide (p.2 ≠ 0)
theorem firsts_acc : ∀ (l acc : List α), acc.Nodup → (l.foldl (fun acc a => if a ∈ acc then acc else acc ++ [a]) acc).Nodup ∧ ∀ a, a ∈ l.foldl (fun acc a => if a ∈ acc then acc else acc ++ [a]) acc ↔ a ∈ acc ∨ a ∈ l
  | [], acc, nd => ⟨nd, fun a => by simp⟩
  | b :: l, acc, nd => by
    rw [List.foldl_cons]
    by_cases h : b ∈ acc
    · rw [if_pos h]
      obtain ⟨h1, h2⟩ := firsts_acc l acc nd
      refine ⟨h1, fun a => ?_⟩
      rw [h2 a, List.mem_cons]
      constructor
      · rintro (z | z)
        · exact .inl z
        · exact .inr (.inr z)
      · rintro (z | z | z)
        · exact .inl z
        · exact .inl (z ▸ h)
        · exact .inr z
    · rw [if_neg h]
      obtain ⟨h1, h2⟩ := firsts_acc l (acc ++ [b]) (by
        rw [List.nodup_append]
        refine ⟨nd, List.nodup_cons.mpr ⟨List.not_mem_nil, List.nodup_nil⟩, fun a ha c hc => ?_⟩
        rw [List.mem_singleton.mp hc]
        intro z
        exact h (z ▸ ha))
      refine ⟨h1, fun a => ?_⟩
      rw [h2 a, List.mem_append, List.mem_singleton, List.mem_cons, or_assoc]
theorem firsts_nodup (l : List α) : (firsts l).Nodup := (firsts_acc l [] List.nodup_nil).1
theorem firsts_mem (l : List α) (a : α) : a ∈ firsts l ↔ a ∈ l := by
  rw [show a ∈ firsts l ↔ _ from (firsts_acc l [] List.nodup_nil).2 a]
  simp
theorem firsts_len_acc : ∀ (l acc : List α), (l.foldl (fun acc a => if a ∈ acc then acc else acc ++ [a]) acc).length ≤ acc.length + l.length
  | [], acc => Nat.le_refl _
  | b :: l, acc => by
    rw [List.foldl_cons, List.length_cons]
    have := firsts_len_acc l (if b ∈ acc then acc else acc ++ [b])
    have : (if b ∈ acc then acc else acc ++ [b]).length ≤ acc.length + 1 := by
      split
      · omega
      · rw [List.length_append]; exact Nat.le_refl _
    omega
theorem firsts_len (l : List α) : (firsts l).length ≤ l.length := by
  have := firsts_len_acc l []
  rw [List.length_nil] at this
  unfold firsts
  omega
theorem sumsG_len (dt : α → PyData) (ps : List (α × Rat)) : (sumsG dt ps).length ≤ ps.length := by
  unfold sumsG
  refine Nat.le_trans (List.length_filter_le _ _) ?_
  rw [List.length_map, List.length_mergeSort]
  have := firsts_len (ps.map (·.1))
  rw [List.length_map] at this
  exact this
theorem heaps_firsts : ∀ (ps : List (NestedKey × PyData)) (hs : List (NestedKey × List PyData)), (ps.foldl (fun hs p => addAt hs p.1 p.2) hs).map (·.1) = (ps.map (·.1)).foldl (fun acc a => if a ∈ acc then acc else acc ++ [a]) (hs.map (·.1))
  | [], hs => rfl
  | p :: ps, hs => by
    rw [List.foldl_cons, heaps_firsts ps, List.map_cons, List.foldl_cons, addAt_keys]
theorem keysOf_firsts (ps : List KF) : keysOf ps = firsts (ps.map (·.1)) := by
  unfold keysOf heapsOf firsts
  rw [heaps_firsts, List.map_map]
  rfl
theorem sumsOf_G {κ : α → NestedKey} (inj : ∀ a b, κ a = κ b → a = b) (ps : List (α × Rat)) : sumsOf (ps.map fun p => (κ p.1, p.2)) = (sumsG (fun a => (κ a).data) ps).map fun p => (κ p.1, p.2) := by
  have e1 : keysOf (ps.map fun p => (κ p.1, p.2)) = (firsts (ps.map (·.1))).map κ := by
    rw [keysOf_firsts, List.map_map, ← firsts_map inj, List.map_map]
    rfl
  have e2 : ∀ a, sumAt (ps.map fun p => (κ p.1, p.2)) (κ a) = sumG ps a := fun a => by
    unfold sumAt sumG
    rw [List.filter_map, List.map_map]
    congr 1
    have : (ps.filter ((fun q : KF => decide (q.1 = κ a)) ∘ fun p => (κ p.1, p.2))) = ps.filter fun q => decide (q.1 = a) := List.filter_congr fun p _ => by
      show decide (κ p.1 = κ a) = decide (p.1 = a)
      exact decide_eq_decide.mpr ⟨inj _ _, fun h => by rw [h]⟩
    rw [this]
    rfl
  have e3 : sortK ((firsts (ps.map (·.1))).map κ) = ((firsts (ps.map (·.1))).mergeSort fun a b => dle (κ a).data (κ b).data).map κ := by
    unfold sortK
    exact (List.map_mergeSort (s := fun a b => dle a.data b.data) (f := κ) (r := fun a b => dle (κ a).data (κ b).data) (fun a _ b _ => rfl)).symm
  unfold sumsOf sumsG
  rw [e1, e3, List.map_map, List.filter_map, List.filter_map, List.map_map]
  have t2 : ((fun k => (k, sumAt (ps.map fun p => (κ p.1, p.2)) k)) ∘ κ) = fun a => (κ a, sumG ps a) := by
    funext a
    show (κ a, sumAt _ (κ a)) = _
    rw [e2]
  rw [t2]
  rfl
/-- added up, by keys of any kind -/
theorem De.added {K : PySem.W.Frag} {σ : L2.St} {B : Hp} {te : TE} {E : XK} {κ : α → NestedKey} {ps : List (α × Rat)} (inj : ∀ a b, κ a = κ b → a = b) (ok : KFok (ps.map fun p => (κ p.1, p.2))) (h : De te σ B (dat K (.list (ps.map fun p => .tuple [(κ p.1).data, frD p.2])))) :
    De (tCall (spAddedD K) [] E (tCons te tNil)) σ B (dat K (.tuple ((sumsG (fun a => (κ a).data) ps).map fun p => .tuple [(κ p.1).data, frD p.2]))) := by
  have := De.call (E := E) (args := fun ps : List KF => [dat K (.list (ps.map kfD))]) (res := fun ps => dat K (.tuple ((sumsOf ps).map kfD))) (ps.map fun p => (κ p.1, p.2)) (.one (De.eq h (by rw [List.map_map]; rfl))) ok
  refine De.eq this ?_
  rw [sumsOf_G inj, List.map_map]
  rfl
end
/-! ### keys of lots, of rows, of both -/
def lotK (l : List Str) : NestedKey := .tup (l.map .text)
def rowK (r : List Int) : NestedKey := .tup (r.map .num)
abbrev Ky := List Str × List Int
def pairK (k : Ky) : NestedKey := .tup [lotK k.1, rowK k.2]
theorem datas_text (l : List Str) : NestedKey.datas (l.map .text) = l.map .str := by
  induction l with
  | nil => simp [NestedKey.datas]
  | cons a l ih => simp [NestedKey.datas, NestedKey.data, ih]
theorem datas_num (l : List Int) : NestedKey.datas (l.map .num) = l.map .int := by
  induction l with
  | nil => simp [NestedKey.datas]
  | cons a l ih => simp [NestedKey.datas, NestedKey.data, ih]
theorem lotK_data (l : List Str) : (lotK l).data = lotD l := by
  show PyData.tuple (NestedKey.datas (l.map .text)) = _
  rw [datas_text]
  rfl
theorem rowK_data (r : List Int) : (rowK r).data = rowD r := by
  show PyData.tuple (NestedKey.datas (r.map .num)) = _
  rw [datas_num]
  rfl
theorem pairK_data (k : Ky) : (pairK k).data = .tuple [lotD k.1, rowD k.2] := by
  simp only [pairK, NestedKey.data, NestedKey.datas, lotK_data, rowK_data]
theorem lotK_inj (a b : List Str) (h : lotK a = lotK b) : a = b := by
  have h := congrArg NestedKey.data h
  rw [lotK_data, lotK_data] at h
  have h : a.map PyData.str = b.map PyData.str := PyData.tuple.inj h
  exact List.map_inj_right (fun x y e => PyData.str.inj e) |>.mp h
theorem rowK_inj (a b : List Int) (h : rowK a = rowK b) : a = b := by
  have h := congrArg NestedKey.data h
  rw [rowK_data, rowK_data] at h
  have h : a.map PyData.int = b.map PyData.int := PyData.tuple.inj h
  exact List.map_inj_right (fun x y e => PyData.int.inj e) |>.mp h
theorem pairK_inj (a b : Ky) (h : pairK a = pairK b) : a = b := by
  unfold pairK at h
  injection h with h
  injection h with h1 h2
  injection h2 with h2 _
  exact Prod.ext (lotK_inj _ _ h1) (rowK_inj _ _ h2)
theorem dep_texts (l : List Str) : NestedKey.depthAll (l.map .text) = 0 := by
  induction l with
  | nil => simp [NestedKey.depthAll]
  | cons a l ih => simp [NestedKey.depthAll, NestedKey.depth, ih]
theorem dep_nums (l : List Int) : NestedKey.depthAll (l.map .num) = 0 := by
  induction l with
  | nil => simp [NestedKey.depthAll]
  | cons a l ih => simp [NestedKey.depthAll, NestedKey.depth, ih]
theorem lotK_dep (l : List Str) : (lotK l).depth ≤ 8 := by
  simp [lotK, NestedKey.depth, dep_texts]
theorem rowK_dep (l : List Int) : (rowK l).depth ≤ 8 := by
  simp [rowK, NestedKey.depth, dep_nums]
theorem pairK_dep (k : Ky) : (pairK k).depth ≤ 8 := by
  simp [pairK, lotK, rowK, NestedKey.depth, NestedKey.depthAll, dep_texts, dep_nums]
theorem alike_nums : ∀ a b : List Int, PySem.W.alikeAll (a.map .int) (b.map .int) = true
  | [], _ => by simp [PySem.W.alikeAll]
  | _ :: _, [] => by simp [PySem.W.alikeAll]
  | x :: a, y :: b => by
    simp only [List.map_cons, PySem.W.alikeAll, PySem.W.alike, Bool.true_and]
    exact alike_nums a b
theorem alike_lotD (a b : List Str) : PySem.W.alike (lotD a) (lotD b) = true := by
  show PySem.W.alike (.tuple (a.map .str)) (.tuple (b.map .str)) = true
  simp only [PySem.W.alike]
  exact alike_strs a b
theorem alike_rowD (a b : List Int) : PySem.W.alike (rowD a) (rowD b) = true := by
  show PySem.W.alike (.tuple (a.map .int)) (.tuple (b.map .int)) = true
  simp only [PySem.W.alike]
  exact alike_nums a b
theorem alike_pair (a b : Ky) : PySem.W.alike (.tuple [lotD a.1, rowD a.2]) (.tuple [lotD b.1, rowD b.2]) = true := by
  simp only [PySem.W.alike, PySem.W.alikeAll, alike_lotD, alike_rowD, Bool.true_and, Bool.and_self]
abbrev Szs (n : Nat) (qs : List Rat) : Prop := ∃ k, 1 ≤ k ∧ k ≤ 3000 ∧ n * k ≤ 6000 ∧ ∀ q ∈ qs, Sz k q
theorem kf_lot {ps : List (List Str × Rat)} (sz : Szs ps.length (ps.map (·.2))) : KFok (ps.map fun p => (lotK p.1, p.2)) := by
  obtain ⟨k, k1, k2, k3, k4⟩ := sz
  refine ⟨fun p hp => ?_, fun p hp => ?_, fun p hp q hq => ?_, k, k1, k2, by rw [List.length_map]; exact k3, fun p hp => ?_⟩
  all_goals obtain ⟨r, hr, rfl⟩ := List.mem_map.mp hp
  · exact ⟨_, rfl⟩
  · exact lotK_dep _
  · obtain ⟨t, ht, rfl⟩ := List.mem_map.mp hq
    show PySem.W.alike (lotK r.1).data (lotK t.1).data = true
    rw [lotK_data, lotK_data]
    exact alike_lotD _ _
  · exact k4 _ (List.mem_map.mpr ⟨r, hr, rfl⟩)
theorem kf_row {ps : List (List Int × Rat)} (sz : Szs ps.length (ps.map (·.2))) : KFok (ps.map fun p => (rowK p.1, p.2)) := by
  obtain ⟨k, k1, k2, k3, k4⟩ := sz
  refine ⟨fun p hp => ?_, fun p hp => ?_, fun p hp q hq => ?_, k, k1, k2, by rw [List.length_map]; exact k3, fun p hp => ?_⟩
  all_goals obtain ⟨r, hr, rfl⟩ := List.mem_map.mp hp
  · exact ⟨_, rfl⟩
  · exact rowK_dep _
  · obtain ⟨t, ht, rfl⟩ := List.mem_map.mp hq
    show PySem.W.alike (rowK r.1).data (rowK t.1).data = true
    rw [rowK_data, rowK_data]
    exact alike_rowD _ _
  · exact k4 _ (List.mem_map.mpr ⟨r, hr, rfl⟩)
theorem kf_pair {ps : List (Ky × Rat)} (sz : Szs ps.length (ps.map (·.2))) : KFok (ps.map fun p => (pairK p.1, p.2)) := by
  obtain ⟨k, k1, k2, k3, k4⟩ := sz
  refine ⟨fun p hp => ?_, fun p hp => ?_, fun p hp q hq => ?_, k, k1, k2, by rw [List.length_map]; exact k3, fun p hp => ?_⟩
  all_goals obtain ⟨r, hr, rfl⟩ := List.mem_map.mp hp
  · exact ⟨_, rfl⟩
  · exact pairK_dep _
  · obtain ⟨t, ht, rfl⟩ := List.mem_map.mp hq
    show PySem.W.alike (pairK r.1).data (pairK t.1).data = true
    rw [pairK_data, pairK_data]
    exact alike_pair _ _
  · exact k4 _ (List.mem_map.mpr ⟨r, hr, rfl⟩)
end Fq

set_option Elab.async false
set_option linter.all false
set_option maxRecDepth 100000
set_option maxHeartbeats 1000000
/-! Od0: data in their order; sums by keys that ascend. -/
namespace Fq
open PySem PySem.Spec PyProof.Rows L2 Wb Wv Fm Wf
def Asc {α : Type} (dt : α → PyData) (l : List α) : Prop := l.Pairwise fun a b => PySem.W.dataLt (dt a) (dt b) = true
theorem dle_trans {a b c : PyData} (h1 : dle a b = true) (h2 : dle b c = true) : dle a c = true := by
  have h1 : (!PySem.W.dataLt b a) = true := h1
  have h2 : (!PySem.W.dataLt c b) = true := h2
  show (!PySem.W.dataLt c a) = true
  rw [Bool.not_eq_true'] at h1 h2 ⊢
  cases h : PySem.W.dataLt c a with
  | false => rfl
  | true =>
    rcases lex_negTrans (O := itemOrd) _ (PySem.W.keyToks b) _ h with g | g
    · rw [show PySem.W.dataLt c b = true from g] at h2; cases h2
    · rw [show PySem.W.dataLt b a = true from g] at h1; cases h1
theorem lt_asymm {a b : PyData} (h : PySem.W.dataLt a b = true) : PySem.W.dataLt b a = false := by
  cases g : PySem.W.dataLt b a with
  | false => rfl
  | true =>
    have := lex_trans (O := itemOrd) _ _ _ h g
    rw [lex_irrefl] at this
    cases this
theorem dle_total (a b : PyData) : (dle a b || dle b a) = true := by
  show ((!PySem.W.dataLt b a) || (!PySem.W.dataLt a b)) = true
  cases h : PySem.W.dataLt b a with
  | false => rfl
  | true => rw [lt_asymm h]; rfl
section
variable {α : Type} {dt : α → PyData}
theorem asc_nodup {l : List α} (h : Asc dt l) : l.Nodup := h.imp fun {a b} z e => by
  subst e
  rw [PySem.W.dataLt_self] at z
  cases z
theorem asc_le {l : List α} (h : Asc dt l) : l.Pairwise fun a b => dle (dt a) (dt b) = true := h.imp fun {a b} z => by
  show (!PySem.W.dataLt _ _) = true
  rw [lt_asymm z]
  rfl
theorem asc_two {l : List α} (h : Asc dt l) : ∀ {a b}, a ∈ l → b ∈ l → dle (dt a) (dt b) = true → dle (dt b) (dt a) = true → a = b := by
  induction l with
  | nil => exact fun z => absurd z List.not_mem_nil
  | cons x l ih =>
    intro a b ha hb h1 h2
    obtain ⟨hx, hl⟩ := List.pairwise_cons.mp h
    have h1 : (!PySem.W.dataLt (dt b) (dt a)) = true := h1
    have h2 : (!PySem.W.dataLt (dt a) (dt b)) = true := h2
    rcases List.mem_cons.mp ha with rfl | ha' <;> rcases List.mem_cons.mp hb with rfl | hb'
    · rfl
    · rw [hx b hb'] at h2; cases h2
    · rw [hx a ha'] at h1; cases h1
    · exact ih hl ha' hb' h1 h2
theorem asc_sort {l l' : List α} (h : Asc dt l) (p : l'.Perm l) : l'.mergeSort (fun a b => dle (dt a) (dt b)) = l := by
  refine List.Perm.eq_of_pairwise (le := fun a b => dle (dt a) (dt b) = true) (fun a b ha hb h1 h2 => asc_two h ((List.mergeSort_perm _ _).trans p |>.mem_iff.mp ha) hb h1 h2) ?_ (asc_le h) ((List.mergeSort_perm _ _).trans p)
  exact List.pairwise_mergeSort (le := fun a b => dle (dt a) (dt b)) (fun a b c => dle_trans) (fun a b => dle_total _ _) l'
variable [DecidableEq α]
theorem sumsG_eq {ts tt : List (α × Rat)} (asc : Asc dt (ts.map (·.1))) (keys : ∀ a, a ∈ tt.map (·.1) ↔ a ∈ ts.map (·.1)) (sums : ∀ t ∈ ts, sumG tt t.1 = t.2) (nz : ∀ t ∈ ts, t.2 ≠ 0) : sumsG dt tt = ts := by
  unfold sumsG
  rw [asc_sort asc ((List.perm_ext_iff_of_nodup (firsts_nodup _) (asc_nodup asc)).mpr fun a => (firsts_mem _ a).trans (keys a)), List.map_map]
  have e : ts.map ((fun a => (a, sumG tt a)) ∘ fun t => t.1) = ts := by
    refine (List.map_congr_left (g := id) fun t ht => ?_).trans (List.map_id _)
    show (t.1, sumG tt t.1) = t
    rw [sums t ht]
  rw [e]
  exact List.filter_eq_self.mpr fun t ht => decide_eq_true (nz t ht)
theorem sumR_perm {l l' : List Rat} (h : l.Perm l') : sumR l = sumR l' := by
  induction h with
  | nil => rfl
  | cons x _ ih => show x + sumR _ = x + sumR _; rw [ih]
  | swap x y l => show y + (x + sumR l) = x + (y + sumR l); rw [← Rat.add_assoc, ← Rat.add_assoc, Rat.add_comm y x]
  | trans _ _ h1 h2 => exact h1.trans h2
theorem sumR_nz : ∀ l : List (α × Rat), sumR ((l.filter fun p => decide (p.2 ≠ 0)).map (·.2)) = sumR (l.map (·.2))
  | [] => rfl
  | p :: l => by
    by_cases h : p.2 = 0
    · rw [List.filter_cons, if_neg (by simpa using h), sumR_nz l, List.map_cons]
      show _ = p.2 + sumR _
      rw [h, Rat.zero_add]
    · rw [List.filter_cons, if_pos (decide_eq_true h), List.map_cons, List.map_cons]
      show p.2 + sumR _ = p.2 + sumR _
      rw [sumR_nz l]
theorem sumG_cons (p : α × Rat) (ps : List (α × Rat)) (a : α) : sumG (p :: ps) a = (if p.1 = a then p.2 else 0) + sumG ps a := by
  unfold sumG
  by_cases h : p.1 = a
  · rw [List.filter_cons, if_pos (decide_eq_true h), if_pos h]
    rfl
  · rw [List.filter_cons, if_neg (by simpa using h), if_neg h, Rat.zero_add]
theorem sum_ite0 {a : α} (q : Rat) : ∀ {ks : List α}, a ∉ ks → sumR (ks.map fun b => if a = b then q else 0) = 0
  | [], _ => rfl
  | b :: ks, h => by
    rw [List.map_cons]
    show (if a = b then q else 0) + sumR _ = 0
    rw [if_neg (fun e : a = b => h (by rw [e]; exact List.mem_cons_self)), sum_ite0 q (fun z => h (List.mem_cons_of_mem _ z)), Rat.zero_add]
theorem sum_ite {a : α} (q : Rat) : ∀ {ks : List α}, ks.Nodup → a ∈ ks → sumR (ks.map fun b => if a = b then q else 0) = q
  | b :: ks, nd, h => by
    obtain ⟨n1, n2⟩ := List.nodup_cons.mp nd
    rw [List.map_cons]
    show (if a = b then q else 0) + sumR _ = q
    by_cases e : a = b
    · rw [if_pos e, sum_ite0 q (e ▸ n1), Rat.add_zero]
    · rw [if_neg e, sum_ite q n2 ((List.mem_cons.mp h).resolve_left e), Rat.zero_add]
theorem sum_add (f g : α → Rat) : ∀ ks : List α, sumR (ks.map fun a => f a + g a) = sumR (ks.map f) + sumR (ks.map g)
  | [] => by show (0 : Rat) = 0 + 0; rw [Rat.zero_add]
  | a :: ks => by
    rw [List.map_cons, List.map_cons, List.map_cons]
    show f a + g a + sumR _ = (f a + sumR _) + (g a + sumR _)
    rw [sum_add f g ks, Rat.add_assoc, Rat.add_assoc, ← Rat.add_assoc (g a), Rat.add_comm (g a), Rat.add_assoc]
theorem sum_keys {ks : List α} (nd : ks.Nodup) : ∀ {ps : List (α × Rat)}, (∀ p ∈ ps, p.1 ∈ ks) → sumR (ks.map (sumG ps)) = sumR (ps.map (·.2))
  | [], _ => by
    have : ∀ ks : List α, sumR (ks.map (sumG ([] : List (α × Rat)))) = 0 := fun ks => by
      induction ks with
      | nil => rfl
      | cons a ks ih => rw [List.map_cons]; show (0 : Rat) + sumR _ = 0; rw [ih, Rat.zero_add]
    exact this ks
  | p :: ps, h => by
    have : ks.map (sumG (p :: ps)) = ks.map fun a => (if p.1 = a then p.2 else 0) + sumG ps a := List.map_congr_left fun a _ => sumG_cons p ps a
    rw [this, sum_add (fun a => if p.1 = a then p.2 else 0) (sumG ps), sum_ite p.2 nd (h p List.mem_cons_self), sum_keys nd fun q hq => h q (List.mem_cons_of_mem _ hq)]
    rfl
theorem sum_sumsG (dt : α → PyData) (ps : List (α × Rat)) : sumR ((sumsG dt ps).map (·.2)) = sumR (ps.map (·.2)) := by
  unfold sumsG
  rw [sumR_nz, List.map_map]
  have pm : ((firsts (ps.map (·.1))).mergeSort fun a b => dle (dt a) (dt b)).Perm (firsts (ps.map (·.1))) := List.mergeSort_perm _ _
  refine (sumR_perm (pm.map _)).trans ?_
  exact sum_keys (firsts_nodup _) fun p hp => (firsts_mem _ _).mpr (List.mem_map.mpr ⟨p, hp, rfl⟩)
end
end Fq

set_option Elab.async false
set_option linter.all false
set_option maxRecDepth 100000
set_option maxHeartbeats 4000000
/-! Wu1: t.index(x), t a tuple of data of any depth. -/
namespace Wb
open PySem PySem.Spec PyProof.Rows L2
section
variable {X : Cx}
def rIndexT (K : PySem.W.Frag) : V → List V → Hp → VK → Prop := fun x xs H Q => ∃ (a : Addr) (y : V) (d : PyData) (ds : List PyData) (j : Nat) (z : PyData), x = V.ref a ∧ xs = [y] ∧ Dp K H (V.ref a) (.tuple ds) ∧ Dp K H y d ∧
  SeqAt.shaped (.tuple ds) = true ∧ SeqAt.shaped d = true ∧ ds[j]? = some z ∧ PyData.eqv z d = true ∧ (∀ (m : Nat) (z' : PyData), m < j → ds[m]? = some z' → PyData.eqv z' d = false) ∧ Q (.int (j : Nat)) H
theorem mt_indexT (hu : X.A.units + 65 < cLine) : MtR X "tuple.index" (rIndexT X.K) := by
  intro pins s σ H x xs v us Q I rx rxs h
  obtain ⟨a, y, d, ds, j, z, rfl, rfl, hl, hy, sl, sd, hz, hzj, hno, q⟩ := h
  cases rx
  cases rxs with
  | cons ry rt =>
    rename_i uy ut
    cases rt
    obtain ⟨bs, r1⟩ := Dp.reads I d y uy hy ry
    have hxs : PyData.canLayAll0 ds = true := SeqAt.canLay_of_shaped sl
    have hroom : X.A.units + 1 + min (PyData.depthAll ds) d.depth < cLine := room_in_shaped sd hu
    cases hl with
    | tup hs ha =>
      obtain ⟨its, rv, ⟨⟨cls, dd, data, sls⟩, ho, hc, n, hdt⟩, hlen⟩ := I.tuple hs
      simp only at hc hdt
      subst hc hdt
      obtain ⟨as, h4⟩ := Dp.readsAll I ds _ its ha rv
      have hn : its.length = ds.length := SeqAt.ReadsAll.length ds its as h4
      have hmap : its.map (SeqAt.readOf s.heap) = ds := SeqAt.readsAll_map ds its as hxs h4
      obtain ⟨hjd, _⟩ := List.getElem?_eq_some_iff.mp hz
      have hjl : j < its.length := by omega
      have hj : j < its.toArray.size := by simpa using hjl
      have at_ : ∀ (m : Nat) (hm : m < its.toArray.size) (z' : PyData), ds[m]? = some z' → SeqAt.readOf s.heap its.toArray[m] = z' := by
        intro m hm z' hz'
        have hml : m < its.length := by simpa using hm
        rw [← hmap, List.getElem?_map, List.getElem?_eq_getElem hml] at hz'
        have e1 : SeqAt.readOf s.heap its[m] = z' := Option.some.inj (show some (SeqAt.readOf s.heap its[m]) = some z' from hz')
        simpa using e1
      refine call_meets PySem.F.slot_tuple_index ⟨_, ho, rfl⟩ PySem.F.entry_tuple_index (PySem.F.args_tuple_index_2 _ _)
        (TI.tuple_indexAt a its.toArray n dd sls uy (fun u => PyData.eqv (SeqAt.readOf s.heap u) d) j hj ?_ ?_) ⟨ho, SeqAt.items_eqAt (vs := its.toArray) (show ReadsAll s.heap its.toArray.toList ds as from h4) r1 hxs (SeqAt.canLay_of_shaped sd) hroom, ?_⟩
      · show PyData.eqv (SeqAt.readOf s.heap its.toArray[j]) d = true
        rw [at_ j hj z hz]
        exact hzj
      · intro m hm hmj
        have hmd : m < ds.length := by omega
        have hz' : ds[m]? = some ds[m] := List.getElem?_eq_getElem hmd
        show PyData.eqv (SeqAt.readOf s.heap its.toArray[m]) d = false
        rw [at_ m hm _ hz']
        exact hno m _ hmj hz'
      · exact ⟨.int (j : Nat), H, I.tok _, ⟨_, rfl⟩, q⟩
end
end Wb

set_option Elab.async false
set_option linter.all false
set_option maxRecDepth 100000
set_option maxHeartbeats 4000000
/-! Wu2: a tuple that is made of a list and then asked where a thing stands: t = tuple(x), t.index(y). -/
namespace Wb
open PySem PySem.Spec PyProof.Rows L2
/-- the object that tuple(x) makes -/
def tupO (its : List Value) : Obj := { cls := .type "tuple", data := .seq its.toArray }
def rTupF (K : PySem.W.Frag) : List V → Hp → VK → Prop := fun xs H Q => ∃ p ys, xs = [.ref p] ∧ SqL K H p ys ∧ ∀ l its, H l = none → Q (.ref l) (upd H l (.frz (tupO its) (.tup ys)))
section
variable {X : Cx}
theorem call_tupF : CallR X (.type "tuple") (rTupF X.K) := by
  intro pins s σ H xs us Q I r h
  obtain ⟨p, ys, rfl, hq, q⟩ := h
  obtain ⟨u, rfl, rx⟩ := vals1 r
  cases rx
  obtain ⟨its, r', pl, hz⟩ := I.list hq
  have hlen := r'.length
  refine call_tuple_list pl.isList (fun h' kp => ?_) (by simp only [List.size_toArray] <;> omega)
  have I1 : Inv X pins σ H { s with heap := h' } := I.kept (t' := s.toks) kp
  have I2 : Inv X pins σ (upd H h'.objs.size (.frz (tupO its) (.tup ys))) { s with heap := h'.push { cls := .type "tuple", data := .seq its.toArray } } :=
    I1.laid (t' := s.toks) (fun b o e => Heap.get?_push_of_some _ e) (Nat.le_refl _) (show ObjOk X.prog X.w _ _ _ (.frz (tupO its) (.tup ys)) from ⟨Heap.get?_push_size _ rfl, hz, its, r', IsTup.new _ _⟩)
  exact ⟨.ref h'.objs.size, _, I2, rfl, q _ _ (I1.hok.fresh (Nat.le_refl _))⟩
/-- x is a tuple whose object is known -/
def knownT (x : V) (H : Hp) : Prop := ∃ a o u, x = .ref a ∧ H a = some (.frz o u) ∧ o.cls = .type "tuple" ∧ o.dict = none
def tBMT (r : V → List V → Hp → VK → Prop) (to : TE) (t : TA) : TE := fun σ H Q => to σ H fun x H1 => knownT x H1 ∧ t σ H1 fun xs H2 => r x xs H2 Q
variable {o e : Expr} {es : List Expr} {to : TE} {t : TA} {name : Str} {apos cpos : Pos} {id : String} {r : V → List V → Hp → VK → Prop}
theorem pe_bmT (slot : Slot "tuple" name id) (hty : typeOf (.builtin id) = pure (.type "method_descriptor")) (hm : MtR X id r) (ho : PE X o to) (ha : PA X (e :: es) t)
    (hbase : attributeBase o name X.env (eval o X.env) = eval o X.env := by rfl)
    (hfew : ((backTo cpos (starEach (e :: es) X.env)).all (fun x => !x.1) && (backToKw cpos (keywordEach [] X.env)).all (fun x => x.1.isSome)
      && decide ((e :: es).length + ([] : List Keyword).length + (if ([] : List Keyword).isEmpty then 0 else 1) < 30)) = true := by rfl)
    (hline : (apos.endLine == cpos.line) = true := by rfl) (hs : starEach (e :: es) X.env = (false, eval e X.env) :: starEach es X.env := by rfl) (hplain : (backTo cpos (starEach es X.env)).any (·.1) = false := by rfl) :
    PE X (.Call (.Attribute o name apos) (e :: es) [] cpos) (tBMT r to t) := by
  refine ⟨fun pins s σ H Q I h => ?_⟩
  refine wpAny_Call_method_late hbase hfew hline rfl (thn (ho.run pins s σ H _ I h) fun v s1 ⟨x, H1, I1, r1, ty, q1⟩ => ?_)
  obtain ⟨a, ob, u, rfl, hk, hc, hd⟩ := ty
  cases r1
  have eo : s1.heap.get? a = some ob := (show ObjOk X.prog X.w H1 s1.heap a (.frz ob u) from I1.hok a _ hk).1
  refine ⟨"tuple", id, PySem.F.plainAttrs_tuple, slot, hty, ⟨ob, eo, hc⟩, fun b e2 => by cases e2; exact ⟨ob, eo, hd⟩, ?_⟩
  have hA := ha.run cpos pins s1 σ H1 _ I1 q1
  rw [hs] at hA ⊢
  refine Calls.callWith_builtin (by show (false || (backTo cpos (starEach es X.env)).any (·.1)) = false; rw [hplain] <;> rfl) (Calls.evalArgs_plain ?_)
  exact thn hA fun us s2 ⟨vs, H2, I2, r2, q2⟩ => hm pins s2 σ H2 (.ref a) vs _ us Q I2 (by rfl) r2 q2
end
end Wb
namespace Wv
open PySem PySem.Spec PyProof.Rows L2 Wb
/-- a tuple of data, its object known -/
def ktR (K : PySem.W.Frag) (ds : List PyData) : Rel := fun B v => knownT v B ∧ dat K (.tuple ds) B v
instance {K : PySem.W.Frag} {ds : List PyData} : Mo (ktR K ds) := ⟨fun s ⟨⟨a, o, u, e, h, c, d⟩, hd⟩ => ⟨⟨a, o, u, e, s _ _ h, c, d⟩, Mo.mo s hd⟩⟩
section
variable {K : PySem.W.Frag} {σ : L2.St} {B : Hp} {ta tb : TE}
theorem De.tupF {ds : List PyData} (h : De ta σ B (dat K (.list ds))) : De (tCB (rTupF K) (tCons ta tNil)) σ B (ktR K ds) := fun B1 H s1 s2 Q q => h B1 H s1 s2 _ fun v B2 H2 e hv => by
  obtain ⟨a, xs, rfl, hs, hR⟩ := dat_lstR hv
  refine ⟨a, xs, rfl, e.bh.seq hs, fun l its hl => ?_⟩
  have nw : Same B2 (upd B2 l (.frz (tupO its) (.tup xs))) := new_same (e.bh.free hl)
  refine q (.ref l) (upd B2 l (.frz (tupO its) (.tup xs))) _ (e.trans (.new e.bh hl)) ⟨⟨l, _, _, rfl, upd_same, rfl, rfl⟩, .tup (.inl (.inr ⟨_, upd_same⟩)) (dpMonoAll nw _ _ (allR_dp hR))⟩
theorem De.indexF {ds : List PyData} {d z : PyData} {j : Nat} (h : De ta σ B (ktR K ds)) (hb : De tb σ B (dat K d)) (sl : SeqAt.shaped (.tuple ds) = true) (sd : SeqAt.shaped d = true) (hz : ds[j]? = some z) (hj : PyData.eqv z d = true)
    (no : ∀ (m : Nat) (z' : PyData), m < j → ds[m]? = some z' → PyData.eqv z' d = false) : De (tBMT (rIndexT K) ta (tCons tb tNil)) σ B (dat K (.int (j : Nat))) := fun B1 H s1 s2 Q q => h B1 H s1 s2 _ fun x B2 H2 e ⟨kn, hx⟩ => by
  obtain ⟨a, o, u, rfl, ha, hc, hd⟩ := kn
  refine ⟨⟨a, o, u, rfl, e.bh _ _ ha, hc, hd⟩, hb B2 H2 (s1.trans e.bb) e.bh _ fun y B3 H3 e3 hy => ?_⟩
  exact ⟨a, y, d, ds, j, z, rfl, rfl, dpMono (e3.bb.trans e3.bh) _ _ hx, dpMono e3.bh _ _ hy, sl, sd, hz, hj, no, q _ B3 H3 (e.trans e3) (Dp.int _)⟩
end
end Wv

set_option Elab.async false
set_option linter.all false
set_option maxRecDepth 100000
set_option maxHeartbeats 3200000
/-! St2: set(xs), sorted(set(xs)), len(set(xs)), as rules. -/
namespace St
open PySem PySem.Spec PyProof.Rows L2 Wb
section
variable {P : Program} {w : World} {A : Around} {E : Value → Shared → Prop} {s : Shared}
abbrev bare (w : World) : Obj := { cls := .type "set", dict := none, data := .set #[] 0 (.fresh 0 0 (!w.params.followText "set-order")) }
set_option maxHeartbeats 6000000 in
theorem call_set {l : Addr} {items : Array Value} (ks : List Pt) {Q : Value → Shared → Prop} (hh : A.handled = none) (hl : s.heap.IsList l items) (it : items.toList = ks.map fun p => Value.ref p.1)
    (key : ∀ p ∈ ks, (NK P w).is s.heap p.2 p.1) (few : ks.length < 64) (hu : A.units + 16 < cLine)
    (q : ∀ (h' : Heap) (tk : Nat) L es ep t, SetN P w h' s.heap.objs.size L es ep t → Met ks ks.length L → (∀ b o, s.heap.get? b = some o → h'.get? b = some o) → Q (.ref s.heap.objs.size) { s with heap := h', toks := tk }) :
    wpAny (model P w) A (call (.type "set") [.ref l]) Q E s := by
  have isz : items.size = ks.length := by rw [← Array.length_toList, it, List.length_map]
  obtain ⟨_, _, mro⟩ := F.called_set.mro
  have made := F.called_set.made
  have sub := F.called_set.sub
  refine wpAny_call (codeAny_of_tree ?_)
  show wpAny _ _ (callAny (.type "set") _) _ _ _
  refine wpAny_pure ⟨Code.quiet_builtin _ (by decide +kernel), codeAny_builtin F.entry_type_call ?_⟩
  rw [Around.under_plain (weight_type_call_type "set" [.ref l] []) rfl]
  have nt := F.called_set.notType
  have cc := F.called_set.canCreate
  have tc := F.typeCall_set_1 (.ref l)
  repeat (any_goals (first | assumption | wp_step))
  refine codeAny_mono (code_set_led1 (.ref l) (E := E) (Q₁ := fun u z => u = .ref s.heap.objs.size ∧ z = { s with heap := s.heap.push (bare w) }) ⟨rfl, rfl⟩) fun r z hr => ?_
  match r, hr with
  | .error _, hr => exact hr
  | .ok (.ret _), hr =>
    obtain ⟨rfl, rfl⟩ := hr
    have hS : (s.heap.push (bare w)).get? s.heap.objs.size = some (bare w) := Heap.get?_push_size _ rfl
    have hT : Shared.TypeIs { s with heap := s.heap.push (bare w) } (.ref s.heap.objs.size) "set" := ⟨_, hS, rfl⟩
    have il := F.called_set.init.lookup
    have ib := F.called_set.init.bind (.ref s.heap.objs.size)
    repeat (any_goals (first | assumption | wp_step))
    refine codeAny_mono (codeAny_call_builtin (R := wants (fun u z => u = .none ∧ ∃ h' tk L es ep t, z = { s with heap := h', toks := tk } ∧ SetN P w h' s.heap.objs.size L es ep t ∧ Met ks ks.length L ∧
        (∀ b o, s.heap.get? b = some o → h'.get? b = some o)) E) F.called_set.init.plain F.entry_set_init (check_set_init_1 hT ?_)) fun r2 z2 hr2 => ?_
    · obtain ⟨ol, gl, cl, nl, dl⟩ := hl
      obtain ⟨c0, d0, x0, sl0⟩ := ol
      simp only at cl dl
      subst cl dl
      have gl2 : (s.heap.push (bare w)).get? l = some { cls := .type "list", dict := d0, data := .seq items nl, slots := sl0 } := Heap.get?_push_of_some _ gl
      have no1 := F.sub_list_set
      have no2 := F.sub_list_frozenset
      have no3 : (Value.type "list" == Value.type "dict") = false := by decide
      have il2 : (s.heap.push (bare w)).IsList l items := ⟨_, gl2, rfl, nl, rfl⟩
      unfold Builtin.«set.__init__» noKeywords Builtin.Frozenset.updateFrom
      generalize ePI : pyIter = PI
      wp_walk
      subst ePI
      refine wpAny_pyIter_list il2 ?_
      refine wpAny_bind (wpAny_runValue ?_)
      have lt : l < s.heap.objs.size := Heap.lt_size gl
      have z1 : (s.heap.push (bare w)).objs.size = s.heap.objs.size + 1 := Heap.size_push ..
      have h3 : A.in1.in1.in1.handled = none := by simp [hh]
      have ne : l ≠ (s.heap.push (bare w)).objs.size := by rw [z1]; exact Nat.ne_of_lt (Nat.lt_succ_of_lt lt)
      have Sf : s.heap.objs.size ∉ [(s.heap.push (bare w)).objs.size, l] := by
        rw [z1]
        simp only [List.mem_cons, List.not_mem_nil, or_false, not_or]
        exact ⟨Nat.ne_of_lt (Nat.lt_succ_self _), Nat.ne_of_gt lt⟩
      have val : ∀ (i : Nat) (v : Value), items[i]? = some v → ∃ p, ks[i]? = some p ∧ v = .ref p.1 := fun i v hv => by
        rw [← Array.getElem?_toList, it, List.getElem?_map] at hv
        obtain ⟨p, hp, e⟩ := Option.map_eq_some_iff.mp hv
        exact ⟨p, hp, e.symm⟩
      have off : ∀ b, s.heap.objs.size ≤ b → s.heap.get? b = none := fun b hb => by
        cases e : s.heap.get? b with
        | none => rfl
        | some o => exact absurd (Heap.lt_size e) (Nat.not_lt.mpr hb)
      refine update_loop ((Walks.list h3 _ l ne items).toS) s.heap.objs.size Sf ks isz few val s.heap key (off _ (Nat.le_refl _)) (fun b hb => off b (by rw [List.mem_singleton.mp hb]; omega)) (by simp only [Around.in1_units]; omega) items.size 0 _ (Nat.zero_add _)
        ⟨⟨_, Heap.get?_push_size _ rfl, rfl, rfl⟩, il2.push _⟩ (fun b o e => Heap.get?_push_of_some _ (Heap.get?_push_of_some _ e)) ⟨[], #[], 0, _, fresh_set (Heap.get?_push_of_some _ hS), ⟨fun p h => absurd h List.not_mem_nil, fun p h => by simp at h, Nat.le_refl _⟩⟩ ?_
      intro z3 L es ep t mv R g up
      rw [isz] at g
      obtain ⟨h', g', d', tk', os'⟩ := z3
      have e1 : g' = s.gens := mv.gens
      have e2 : d' = s.drawn := mv.drawn
      have e3 : os' = s.os := mv.os
      subst e1 e2 e3
      show wpAny _ _ _ _ _ _
      refine wpAny_pure ?_
      show wpAny _ _ (ret Value.none) _ _ _
      exact wpAny_pure ⟨rfl, h', tk', L, es, ep, t, rfl, R, g, up⟩
    · match r2, hr2 with
      | .error _, hr2 => exact hr2
      | .ok (.ret _), hr2 =>
        obtain ⟨rfl, h', tk, L, es, ep, t, rfl, R, g, up⟩ := hr2
        repeat (any_goals (first | assumption | wp_step))
        exact q _ _ _ _ _ _ R g up
end
/-! ### as a thing of the heap -/
def SetNH (P : Program) (w : World) (a : Addr) (L : List Pt) (h : Heap) : Prop := ∃ (es : Array (Int × Value)) (ep : Nat) (t : SetTable), (∃ o, h.get? a = some o ∧ o.ExactSet ∧ o.data = .set es ep t) ∧ es.toList = lines w L ∧ TabOk t (hs w L) ∧ (L.map (·.2)).Nodup ∧
  (w.params.followText "set-order" = true ∨ t.led = true) ∧ L.length * 5 < t.mask * 3 ∧ L.length < 64
def SetNO (P : Program) (w : World) (a : Addr) (L : List Pt) : HO := .ext (SetNH P w a L)
theorem SetN.hid {P : Program} {w : World} {h : Heap} {a : Addr} {L : List Pt} {es : Array (Int × Value)} {ep : Nat} {t : SetTable} (R : SetN P w h a L es ep t) : SetNH P w a L h := ⟨es, ep, t, R.ob, R.li, R.tab, R.nd, R.led, R.room, R.few⟩
theorem setN_new {P : Program} {w : World} {H : Hp} {h : Heap} {a : Addr} {L : List Pt} (R : SetNH P w a L h) : ObjOk P w H h a (SetNO P w a L) := by
  have ⟨es, ep, t, ⟨o, ho, r⟩, q⟩ := R
  refine ⟨R, ⟨o, ho⟩, fun h1 h2 p k => ?_⟩
  have ⟨es', ep', t', ⟨o', ho', r'⟩, q'⟩ := p
  exact ⟨es', ep', t', ⟨o', k o' ho', r'⟩, q'⟩
def NkAll (K : PySem.W.Frag) (H : Hp) (L : List Pt) : Prop := ∀ p ∈ L, NkAt K H p.2 p.1
/-- set(xs) -/
def rSetN (K : PySem.W.Frag) (P : Program) (w : World) : List V → Hp → VK → Prop := fun xs H Q => ∃ (l : Addr) (ks : List Pt), xs = [V.ref l] ∧ SqL K H l (ks.map fun p => V.ref p.1) ∧ NkAll K H ks ∧ ks.length < 64 ∧
  ∀ a L, H a = none → (∀ p ∈ L, p ∈ ks) → (∀ p ∈ ks, p.2 ∈ L.map (·.2)) → (L.map (·.2)).Nodup → L.length < 64 → Q (.ref a) (upd H a (SetNO P w a L))
/-- sorted(a set) -/
def rSortedS (K : PySem.W.Frag) (P : Program) (w : World) : List V → Hp → VK → Prop := fun xs H Q => ∃ (a : Addr) (L : List Pt), xs = [V.ref a] ∧ H a = some (SetNO P w a L) ∧ NkAll K H L ∧ (∀ p ∈ L, ∃ ks, p.2 = .tup ks) ∧ PySem.W.AllAlike (L.map fun p => p.2.data) ∧
  ∀ (M : List Pt) (p : Addr), M.Perm L → H p = none → Q (.ref p) (upd H p (.lst (sortV (M.map fun e => V.ref e.1) (M.map fun e => e.2.data))))
/-- len(a set) -/
def rLenS (P : Program) (w : World) : List V → Hp → VK → Prop := fun xs H Q => ∃ (a : Addr) (L : List Pt), xs = [V.ref a] ∧ H a = some (SetNO P w a L) ∧ Q (.int L.length) H
theorem vals_pts : ∀ (ks : List Pt), Vals (ks.map fun p => V.ref p.1) (ks.map fun p => Value.ref p.1)
  | [] => .nil
  | _ :: ks => .cons rfl (vals_pts ks)
theorem pts_vals : ∀ {ks : List Pt} {us : List Value}, Vals (ks.map fun p => V.ref p.1) us → us = ks.map fun p => Value.ref p.1
  | [], _, .nil => rfl
  | p :: ks, _, .cons r t => by cases r; rw [pts_vals t]; rfl
theorem dp_pts {K : PySem.W.Frag} {H : Hp} : ∀ {L : List Pt}, NkAll K H L → DpAll K H (L.map fun e => V.ref e.1) (L.map fun e => e.2.data)
  | [], _ => .nil
  | p :: L, h => .cons (h p List.mem_cons_self).1 (dp_pts fun q hq => h q (List.mem_cons_of_mem _ hq))
/-- addresses in another order, and their keys with them -/
theorem perm_pts {L : List Pt} : ∀ {vs : List Value}, vs.Perm (L.map fun p => Value.ref p.1) → ∃ M : List Pt, M.Perm L ∧ vs = M.map fun p => Value.ref p.1 := by
  suffices ∀ {us vs : List Value}, us.Perm vs → ∀ L : List Pt, vs = L.map (fun p => Value.ref p.1) → ∃ M : List Pt, M.Perm L ∧ us = M.map fun p => Value.ref p.1 from fun {vs} h => this h L rfl
  intro us vs h
  induction h with
  | nil => exact fun L e => ⟨[], by rw [List.map_eq_nil_iff.mp e.symm], rfl⟩
  | cons x _ ih =>
    intro L e
    obtain ⟨p, M, rfl, rfl, e2⟩ := List.map_eq_cons_iff.mp e.symm
    obtain ⟨N, n1, n2⟩ := ih M e2.symm
    exact ⟨p :: N, n1.cons p, by rw [n2]; rfl⟩
  | swap x y l =>
    intro L e
    obtain ⟨p, M, rfl, rfl, e2⟩ := List.map_eq_cons_iff.mp e.symm
    obtain ⟨p2, M2, rfl, rfl, rfl⟩ := List.map_eq_cons_iff.mp e2
    exact ⟨p2 :: p :: M2, List.Perm.swap _ _ _, rfl⟩
  | trans _ _ i1 i2 =>
    intro L e
    obtain ⟨M, m1, m2⟩ := i2 L e
    obtain ⟨N, n1, n2⟩ := i1 M m2
    exact ⟨N, n1.trans m1, n2⟩
section
variable {X : Cx}
theorem cr_setN (hc : X.calm = true) (hu : X.A.units + 64 < cLine) : CallR X (.type "set") (rSetN X.K X.prog X.w) := by
  intro pins s σ H xs us Q I r h
  obtain ⟨l, ks, rfl, hl, hk, few, q⟩ := h
  rw [Vals.ref1 r]
  obtain ⟨its, rv, pl, hz⟩ := I.list hl
  refine call_set (P := X.prog) (w := X.w) ks (I.ok.hd hc) pl.isList (by simpa using pts_vals rv) (fun p hp => nk_is I (hk p hp)) few (by omega) fun h' tk L es ep t R g up => ?_
  refine ⟨.ref s.heap.objs.size, upd H s.heap.objs.size (SetNO X.prog X.w s.heap.objs.size L), I.laid (t' := tk) up (Nat.le_refl _) (setN_new R.hid), rfl, q _ L (I.hok.fresh (Nat.le_refl _)) (fun p hp => List.mem_of_mem_take (g.sub p hp)) (fun p hp => g.all p (by rw [List.take_length]; exact hp)) R.nd R.few⟩
theorem cr_sortedS (hc : X.calm = true) (hu : X.A.units + 64 < cLine) : CallR X (.builtin "sorted") (rSortedS X.K X.prog X.w) := by
  intro pins s σ H xs us Q I r h
  obtain ⟨a, L, rfl, ha, hk, tu, al, q⟩ := h
  rw [Vals.ref1 r]
  obtain ⟨es, ep, t, ⟨o, o1, o2, o3⟩, li, tb, nd, led, rm, few⟩ : SetNH X.prog X.w a L s.heap := (I.hok a _ ha).1
  have R : SetN X.prog X.w s.heap a L es ep t := ⟨⟨o, o1, o2, o3⟩, li, tb, nd, fun p hp => nk_is I (hk p hp), led, rm, few⟩
  have sz := size_of li
  refine Calls.call_function_entry kind_sorted plain_sorted entry_sorted (args_sorted1 _) ?_
  unfold Builtin.«sorted»
  refine wpAny_bind (m := checkCount "sorted" 1 1 _) (wpAny_pure ?_)
  refine wpAny_bind (collect_set (A := X.A.in1) (I.ok.hd hc) ⟨o, o1, o2.1, o3⟩ R.fits (by unfold scanBound; omega) tb.ris led fun z vs up zz zg zo pm => ?_)
  have ev : es.toList.map (·.2) = L.map fun p => Value.ref p.1 := by rw [li]; unfold lines; rw [List.map_map]; rfl
  rw [ev] at pm
  obtain ⟨M, pM, rfl⟩ := perm_pts pm
  have mL : M.length = L.length := pM.length_eq
  have I1 : Inv X pins σ H z := I.call' (ch := []) zo (Un.kept up) (I.hok.kept up) (by rw [zg]; exact I.bare) (fun _ c => nomatch c)
  have hkM : NkAll X.K H M := fun p hp => hk p (pM.mem_iff.mp hp)
  have alM : PySem.W.AllAlike (M.map fun p => p.2.data) := fun x hx y hy => al x ((pM.map _).mem_iff.mp hx) y ((pM.map _).mem_iff.mp hy)
  have rv := vals_pts M
  have hdp := dp_pts hkM
  have len := dpAll_len hdp
  have em : ((M.map fun e => V.ref e.1).zip (M.map fun e => e.2.data)).map Prod.snd = M.map fun e => e.2.data := zip_snd len
  have line := sizeLine_eq
  generalize hvs : M.map (fun p => Value.ref p.1) = vs at rv
  have vl : vs.length = M.length := by rw [← hvs, List.length_map]
  refine wpAny_bind (wpAny_newList ?_ (by omega))
  have hoL : (z.heap.push (seqObj "list" vs.toArray 0)).get? z.heap.objs.size = some (seqObj "list" vs.toArray 0) := Heap.get?_push_size _ rfl
  have e := each_pairs I1 rv hdp
  have old : ∀ b u, z.heap.get? b = some u → (PySem.W.sortingHeap (z.heap.push (seqObj "list" vs.toArray 0)) z.heap.objs.size vs).get? b = some u := fun b u hb =>
    PySem.W.sortingHeap_old (Nat.ne_of_lt (Heap.lt_size hb)) (Heap.get?_push_of_some _ hb)
  have er : PySem.W.EachIs (fun (v : Value) (b : V × PyData) => ∃ as, Reads (PySem.W.sortingHeap (z.heap.push (seqObj "list" vs.toArray 0)) z.heap.objs.size vs) v b.2 as) vs ((M.map fun e => V.ref e.1).zip (M.map fun e => e.2.data)) :=
    e.mono fun v b h => by
      obtain ⟨as, rr⟩ := Dp.reads I1 b.2 b.1 v h.2 h.1
      exact ⟨as, PyProof.Rows.Reads.keeps old rr⟩
  have srt : PySem.W.SortsAt X.prog X.w X.A.in1.in1 { z with heap := PySem.W.sortingHeap (z.heap.push (seqObj "list" vs.toArray 0)) z.heap.objs.size vs } (PySem.W.dataKind (PySem.W.sortingHeap (z.heap.push (seqObj "list" vs.toArray 0)) z.heap.objs.size vs) (((M.map fun e => V.ref e.1).zip (M.map fun e => e.2.data)).map Prod.snd)) vs := by
    refine PySem.W.SortsAt.ok (PySem.W.each_map (R := fun v d => ∃ as, Reads (PySem.W.sortingHeap (z.heap.push (seqObj "list" vs.toArray 0)) z.heap.objs.size vs) v d as) Prod.snd er) (by rw [em]; exact alM) (.inl ?_) (PySem.W.bound_map ?_)
    · intro d hd
      rw [em] at hd
      obtain ⟨p, hp, rfl⟩ := List.mem_map.mp hd
      obtain ⟨ks, ek⟩ := tu p (pM.mem_iff.mp hp)
      rw [ek]
      exact ⟨_, rfl⟩
    · intro b hb
      obtain ⟨p, hp, eb⟩ := List.mem_map.mp (List.of_mem_zip hb).2
      have := depth_data p.2
      have := (hkM p hp).2
      rw [← eb]
      show X.A.units + 1 + 1 + (p.2.data).depth < cLine
      omega
  refine wpAny_bind (wpAny_holding (wpAny_call_entry slot_list_sort ⟨_, hoL, rfl⟩ entry_list_sort ?body (args_list_sort _)))
  case body =>
    show wpAny (model X.prog X.w) X.A.in1.in1 (Builtin.«list.sort» ⟨[.ref z.heap.objs.size], []⟩) _ _ _
    refine PySem.W.list_sort_vals (s := { z with heap := z.heap.push (seqObj "list" vs.toArray 0) }) hoL srt (by omega) ⟨_, rfl, wpAny_pure ⟨_, rfl, ?_⟩⟩
    have eo := PySem.W.sortVals_data false e er (by rw [em]; exact alM)
    obtain ⟨o1, o2⟩ := pairs_out eo
    obtain ⟨c, hcc⟩ := PyProof.Rows.sortedHeap_at (vs := vs) (out := (PySem.W.sortVals (PySem.W.dataKind (PySem.W.sortingHeap (z.heap.push (seqObj "list" vs.toArray 0)) z.heap.objs.size vs) (((M.map fun e => V.ref e.1).zip (M.map fun e => e.2.data)).map Prod.snd)) false vs vs).toArray) hoL
    have ln : (sortV (M.map fun e => V.ref e.1) (M.map fun e : Pt => e.2.data)).length ≤ sizeLine := by
      unfold sortV
      rw [List.length_map, List.length_mergeSort, List.length_zip, len, Nat.min_self, List.length_map]
      omega
    have o1 : Vals (sortV (M.map fun e => V.ref e.1) (M.map fun e : Pt => e.2.data)) _ := o1
    refine ⟨.ref z.heap.objs.size, upd H z.heap.objs.size (.lst (sortV (M.map fun e => V.ref e.1) (M.map fun e : Pt => e.2.data))), I1.laid (t' := _) (fun b u g => ?_) (Nat.le_refl _) ⟨ln, _, c, o1, hcc⟩, rfl, q M _ pM (I1.hok.fresh (Nat.le_refl _))⟩
    have hlt := Heap.lt_size g
    rw [PyProof.Rows.sortedHeap_old (Nat.ne_of_lt hlt) (by rw [size_push']; exact Nat.lt_succ_of_lt hlt)]
    exact Heap.get?_push_of_some _ g
theorem cr_lenS : CallR X (.builtin "len") (rLenS X.prog X.w) := by
  intro pins s σ H xs us Q I r h
  obtain ⟨a, L, rfl, ha, q⟩ := h
  rw [Vals.ref1 r]
  obtain ⟨es, ep, t, ⟨o, o1, o2, o3⟩, li, tb, nd, led, rm, few⟩ : SetNH X.prog X.w a L s.heap := (I.hok a _ ha).1
  have h2 := tb.sz
  rw [hs_len] at h2
  have sz := size_of li
  refine call_len_set (Q := EP X pins σ Q) o1 o2 o3 (fits_of (by omega) tb.dm (by omega)) (by omega) ?_
  exact ⟨.int L.length, H, I.tok _, ⟨_, by rw [sz]⟩, q⟩
end
end St

set_option Elab.async false
set_option linter.all false
set_option maxRecDepth 100000
set_option maxHeartbeats 4000000
/-! We7: < and <= of data that are alike. -/
namespace Wv
open PySem PySem.Spec PyProof.Rows L2 Wb
def rLtA (K : PySem.W.Frag) : R2 := fun x y H Q => ∃ d e, Dp K H x d ∧ Dp K H y e ∧ PySem.W.alike d e = true ∧ d ≠ .none ∧ d.depth ≤ 60 ∧ Q (.bl (PySem.W.dataLt d e)) H
def rLeA (K : PySem.W.Frag) : R2 := fun x y H Q => ∃ d e, Dp K H x d ∧ Dp K H y e ∧ PySem.W.alike d e = true ∧ d ≠ .none ∧ d.depth ≤ 60 ∧ Q (.bl (!PySem.W.dataLt e d)) H
section
variable {X : Cx}
theorem op_ltA (hu : X.A.units + 64 < cLine) : OpR X (compareOp .Lt) (rLtA X.K) := by
  intro pins s σ H x y v u Q I rx ry h
  obtain ⟨d, e, hx, hy, al, nn, dep, q⟩ := h
  obtain ⟨as, ra⟩ := Dp.reads I d x v hx rx
  obtain ⟨bs, rb⟩ := Dp.reads I e y u hy ry
  exact PySem.W.lt_data ra rb al nn (by have := Nat.min_le_left d.depth e.depth; omega) ⟨.bl _, H, I, rfl, q⟩
theorem op_leA (hu : X.A.units + 64 < cLine) : OpR X (compareOp .LtE) (rLeA X.K) := by
  intro pins s σ H x y v u Q I rx ry h
  obtain ⟨d, e, hx, hy, al, nn, dep, q⟩ := h
  obtain ⟨as, ra⟩ := Dp.reads I d x v hx rx
  obtain ⟨bs, rb⟩ := Dp.reads I e y u hy ry
  exact PySem.W.le_data ra rb al nn (by have := Nat.min_le_left d.depth e.depth; omega) ⟨.bl _, H, I, rfl, q⟩
end
section
variable {K : PySem.W.Frag} {B : Hp} {d e : PyData}
theorem Rv.ltA (al : PySem.W.alike d e = true) (nn : d ≠ .none) (dep : d.depth ≤ 60) : Rv (rLtA K) B (dat K d) (dat K e) (dat K (.bool (PySem.W.dataLt d e))) := fun x y B1 H _ s2 hx hy Q q =>
  ⟨d, e, dpMono s2 _ _ hx, dpMono s2 _ _ hy, al, nn, dep, q _ B1 H (.refl s2) (Dp.bl _)⟩
theorem Rv.leA (al : PySem.W.alike d e = true) (nn : d ≠ .none) (dep : d.depth ≤ 60) : Rv (rLeA K) B (dat K d) (dat K e) (dat K (.bool (!PySem.W.dataLt e d))) := fun x y B1 H _ s2 hx hy Q q =>
  ⟨d, e, dpMono s2 _ _ hx, dpMono s2 _ _ hy, al, nn, dep, q _ B1 H (.refl s2) (Dp.bl _)⟩
end
end Wv

set_option Elab.async false
set_option linter.all false
set_option maxRecDepth 100000
set_option maxHeartbeats 4000000
/-! As0: tests and worths, as what they are and as data. -/
namespace As
open PySem PySem.Spec PyProof.Rows L2 Wb Wv Fm
inductive Tst where
  | all
  | is (z : Str) (n : Int)
  | blank (z : Str)
  | nt (t : Tst)
  | both (a b : Tst)
  | either (a b : Tst)
inductive Wth where
  | number (n : Int)
  | answer (z : Str)
  | ifT (t : Tst)
  | plus (a b : Wth)
  | times (a b : Wth)
def Tst.enc : Tst → PyData
  | .all => .tuple [.str "all"]
  | .is z n => .tuple [.str "is", .str z, .int n]
  | .blank z => .tuple [.str "blank", .str z]
  | .nt t => .tuple [.str "not", t.enc]
  | .both a b => .tuple [.str "both", a.enc, b.enc]
  | .either a b => .tuple [.str "either", a.enc, b.enc]
def Wth.enc : Wth → PyData
  | .number n => .tuple [.str "number", .int n]
  | .answer z => .tuple [.str "answer", .str z]
  | .ifT t => .tuple [.str "if", t.enc]
  | .plus a b => .tuple [.str "plus", a.enc, b.enc]
  | .times a b => .tuple [.str "times", a.enc, b.enc]
def Tst.dp : Tst → Nat
  | .nt t => t.dp + 1
  | .both a b => max a.dp b.dp + 1
  | .either a b => max a.dp b.dp + 1
  | _ => 1
def Wth.dp : Wth → Nat
  | .ifT t => t.dp + 1
  | .plus a b => max a.dp b.dp + 1
  | .times a b => max a.dp b.dp + 1
  | _ => 1
def Tst.ok (ns : List Str) : Tst → Prop
  | .all => True
  | .is z n => z ∈ ns ∧ n.natAbs ≤ 100
  | .blank z => z ∈ ns
  | .nt t => t.ok ns
  | .both a b => a.ok ns ∧ b.ok ns
  | .either a b => a.ok ns ∧ b.ok ns
def Wth.ok (ns : List Str) : Wth → Prop
  | .number n => n.natAbs ≤ 10 ^ 9
  | .answer z => z ∈ ns
  | .ifT t => t.ok ns
  | .plus a b => a.ok ns ∧ b.ok ns
  | .times a b => a.ok ns ∧ b.ok ns
def Tst.holds (ns lot : List Str) (tr : List Int) : Tst → Bool
  | .all => true
  | .is z n => decide (tr.getD (ns.idxOf z) 0 = n)
  | .blank z => decide (z ∈ lot)
  | .nt t => !t.holds ns lot tr
  | .both a b => a.holds ns lot tr && b.holds ns lot tr
  | .either a b => a.holds ns lot tr || b.holds ns lot tr
def Wth.val (ns lot : List Str) (tr : List Int) : Wth → Int
  | .number n => n
  | .answer z => tr.getD (ns.idxOf z) 0
  | .ifT t => if t.holds ns lot tr then 1 else 0
  | .plus a b => a.val ns lot tr + b.val ns lot tr
  | .times a b => a.val ns lot tr * b.val ns lot tr
theorem Tst.dp_pos (t : Tst) : 1 ≤ t.dp := by cases t <;> simp [Tst.dp]
theorem Wth.dp_pos (t : Wth) : 1 ≤ t.dp := by cases t <;> simp [Wth.dp]
/-- how great a worth can be -/
theorem Wth.val_lt {ns lot : List Str} {tr : List Int} (h : ∀ i ∈ tr, i.natAbs ≤ 100) : ∀ w : Wth, w.ok ns → (w.val ns lot tr).natAbs < 2 ^ (31 * 2 ^ w.dp)
  | .number n, hw => by
    have hw : n.natAbs ≤ 10 ^ 9 := hw
    have : (2 : Nat) ^ 31 ≤ 2 ^ (31 * 2 ^ 1) := Nat.pow_le_pow_right (by decide) (by decide)
    show n.natAbs < 2 ^ (31 * 2 ^ 1)
    omega
  | .answer z, _ => by
    have a : (tr.getD (ns.idxOf z) 0).natAbs ≤ 100 := by
      rw [List.getD_eq_getElem?_getD]
      cases e : tr[ns.idxOf z]? with
      | none => decide
      | some x => exact h x (List.mem_of_getElem? e)
    have : (2 : Nat) ^ 31 ≤ 2 ^ (31 * 2 ^ 1) := Nat.pow_le_pow_right (by decide) (by decide)
    show (tr.getD (ns.idxOf z) 0).natAbs < 2 ^ (31 * 2 ^ 1)
    omega
  | .ifT t, _ => by
    have : (2 : Nat) ^ 1 ≤ 2 ^ (31 * 2 ^ (t.dp + 1)) := Nat.pow_le_pow_right (by decide) (by have := Nat.one_le_two_pow (n := t.dp + 1); omega)
    show (if t.holds ns lot tr then (1 : Int) else 0).natAbs < 2 ^ (31 * 2 ^ (t.dp + 1))
    split <;> omega
  | .plus a b, hw => by
    have ha := Wth.val_lt (lot := lot) h a hw.1
    have hb := Wth.val_lt (lot := lot) h b hw.2
    have la : 2 ^ (31 * 2 ^ a.dp) ≤ 2 ^ (31 * 2 ^ (max a.dp b.dp)) := Nat.pow_le_pow_right (by decide) (Nat.mul_le_mul_left _ (Nat.pow_le_pow_right (by decide) (Nat.le_max_left _ _)))
    have lb : 2 ^ (31 * 2 ^ b.dp) ≤ 2 ^ (31 * 2 ^ (max a.dp b.dp)) := Nat.pow_le_pow_right (by decide) (Nat.mul_le_mul_left _ (Nat.pow_le_pow_right (by decide) (Nat.le_max_right _ _)))
    show (a.val ns lot tr + b.val ns lot tr).natAbs < 2 ^ (31 * 2 ^ (max a.dp b.dp + 1))
    have s := Int.natAbs_add_le (a.val ns lot tr) (b.val ns lot tr)
    have e : 31 * 2 ^ (max a.dp b.dp + 1) = 31 * 2 ^ (max a.dp b.dp) + 31 * 2 ^ (max a.dp b.dp) := by rw [Nat.pow_succ]; omega
    rw [e]
    generalize max a.dp b.dp = m at *
    have p : 2 ^ (31 * 2 ^ m) * 2 ≤ 2 ^ (31 * 2 ^ m + 31 * 2 ^ m) := by
      rw [← Nat.pow_succ]
      exact Nat.pow_le_pow_right (by decide) (by have := Nat.one_le_two_pow (n := m); omega)
    omega
  | .times a b, hw => by
    have ha := Wth.val_lt (lot := lot) h a hw.1
    have hb := Wth.val_lt (lot := lot) h b hw.2
    have la : 2 ^ (31 * 2 ^ a.dp) ≤ 2 ^ (31 * 2 ^ (max a.dp b.dp)) := Nat.pow_le_pow_right (by decide) (Nat.mul_le_mul_left _ (Nat.pow_le_pow_right (by decide) (Nat.le_max_left _ _)))
    have lb : 2 ^ (31 * 2 ^ b.dp) ≤ 2 ^ (31 * 2 ^ (max a.dp b.dp)) := Nat.pow_le_pow_right (by decide) (Nat.mul_le_mul_left _ (Nat.pow_le_pow_right (by decide) (Nat.le_max_right _ _)))
    show (a.val ns lot tr * b.val ns lot tr).natAbs < 2 ^ (31 * 2 ^ (max a.dp b.dp + 1))
    have e : 31 * 2 ^ (max a.dp b.dp + 1) = 31 * 2 ^ (max a.dp b.dp) + 31 * 2 ^ (max a.dp b.dp) := by rw [Nat.pow_succ]; omega
    rw [e]
    exact wide_lt (Nat.lt_of_lt_of_le ha la) (Nat.lt_of_lt_of_le hb lb)
/-! ### phrases: a word, and what follows in it -/
def isTup (d : PyData) : Bool := isD "tuple" d
def Phr : Nat → PyData → Prop
  | 0, _ => False
  | n + 1, d => ∃ w ps, d = .tuple (.str w :: ps) ∧ (ps.length ≤ 2 ∧ Nm w) ∧ ∀ p ∈ ps, isTup p = true → Phr n p
def hasB : Nat → PyData → Bool
  | n + 1, .tuple (.str w :: ps) => decide (w = "blank") || ps.any fun p => isTup p && hasB n p
  | _, _ => false
def plainD : Nat → PyData → PyData
  | n + 1, .tuple (.str w :: ps) => if w = "blank" then .tuple [.str "all"] else .tuple (.str w :: ps.map fun p => if isTup p = true then plainD n p else p)
  | _, d => d
def headsD : Nat → PyData → List Str
  | n + 1, .tuple (.str w :: ps) => w :: ps.flatMap fun p => if isTup p = true then headsD n p else []
  | _, _ => []
theorem isTup_enc (t : Tst) : isTup t.enc = true := by cases t <;> rfl
theorem isTup_encW (t : Wth) : isTup t.enc = true := by cases t <;> rfl
theorem phr_T : ∀ (t : Tst) (n : Nat), t.dp ≤ n → Phr n t.enc
  | t, 0, h => by have := t.dp_pos; omega
  | .all, n + 1, _ => ⟨_, _, rfl, ⟨by decide, by decide +kernel, by decide +kernel⟩, fun p hp => nomatch hp⟩
  | .is z m, n + 1, _ => ⟨_, _, rfl, ⟨by show 2 ≤ 2; decide, by decide +kernel, by decide +kernel⟩, fun p hp q => by
    simp only [List.mem_cons, List.not_mem_nil, or_false] at hp
    rcases hp with rfl | rfl <;> cases q⟩
  | .blank z, n + 1, _ => ⟨_, _, rfl, ⟨by show 1 ≤ 2; decide, by decide +kernel, by decide +kernel⟩, fun p hp q => by
    simp only [List.mem_cons, List.not_mem_nil, or_false] at hp
    rcases hp with rfl
    cases q⟩
  | .nt t, n + 1, h => ⟨_, _, rfl, ⟨by show 1 ≤ 2; decide, by decide +kernel, by decide +kernel⟩, fun p hp q => by
    simp only [List.mem_cons, List.not_mem_nil, or_false] at hp
    rcases hp with rfl
    exact phr_T t n (by simp only [Tst.dp] at h; omega)⟩
  | .both a b, n + 1, h => ⟨_, _, rfl, ⟨by show 2 ≤ 2; decide, by decide +kernel, by decide +kernel⟩, fun p hp q => by
    simp only [List.mem_cons, List.not_mem_nil, or_false] at hp
    simp only [Tst.dp] at h
    rcases hp with rfl | rfl
    · exact phr_T a n (by omega)
    · exact phr_T b n (by omega)⟩
  | .either a b, n + 1, h => ⟨_, _, rfl, ⟨by show 2 ≤ 2; decide, by decide +kernel, by decide +kernel⟩, fun p hp q => by
    simp only [List.mem_cons, List.not_mem_nil, or_false] at hp
    simp only [Tst.dp] at h
    rcases hp with rfl | rfl
    · exact phr_T a n (by omega)
    · exact phr_T b n (by omega)⟩
theorem phr_W : ∀ (t : Wth) (n : Nat), t.dp ≤ n → Phr n t.enc
  | t, 0, h => by have := t.dp_pos; omega
  | .number m, n + 1, _ => ⟨_, _, rfl, ⟨by show 1 ≤ 2; decide, by decide +kernel, by decide +kernel⟩, fun p hp q => by
    simp only [List.mem_cons, List.not_mem_nil, or_false] at hp
    rcases hp with rfl
    cases q⟩
  | .answer z, n + 1, _ => ⟨_, _, rfl, ⟨by show 1 ≤ 2; decide, by decide +kernel, by decide +kernel⟩, fun p hp q => by
    simp only [List.mem_cons, List.not_mem_nil, or_false] at hp
    rcases hp with rfl
    cases q⟩
  | .ifT t, n + 1, h => ⟨_, _, rfl, ⟨by show 1 ≤ 2; decide, by decide +kernel, by decide +kernel⟩, fun p hp q => by
    simp only [List.mem_cons, List.not_mem_nil, or_false] at hp
    rcases hp with rfl
    exact phr_T t n (by simp only [Wth.dp] at h; omega)⟩
  | .plus a b, n + 1, h => ⟨_, _, rfl, ⟨by show 2 ≤ 2; decide, by decide +kernel, by decide +kernel⟩, fun p hp q => by
    simp only [List.mem_cons, List.not_mem_nil, or_false] at hp
    simp only [Wth.dp] at h
    rcases hp with rfl | rfl
    · exact phr_W a n (by omega)
    · exact phr_W b n (by omega)⟩
  | .times a b, n + 1, h => ⟨_, _, rfl, ⟨by show 2 ≤ 2; decide, by decide +kernel, by decide +kernel⟩, fun p hp q => by
    simp only [List.mem_cons, List.not_mem_nil, or_false] at hp
    simp only [Wth.dp] at h
    rcases hp with rfl | rfl
    · exact phr_W a n (by omega)
    · exact phr_W b n (by omega)⟩
/-- heads tell whether a word stands in it -/
theorem heads_has : ∀ (n : Nat) (d : PyData), Phr n d → decide ((Str.ofString "blank") ∈ headsD n d) = hasB n d
  | 0, _, h => h.elim
  | n + 1, d, ⟨w, ps, e, _, hp⟩ => by
    subst e
    show decide ((Str.ofString "blank") ∈ w :: ps.flatMap fun p => if isTup p = true then headsD n p else []) = (decide (w = "blank") || ps.any fun p => isTup p && hasB n p)
    rw [Bool.eq_iff_iff]
    simp only [decide_eq_true_eq, List.mem_cons, List.mem_flatMap, Bool.or_eq_true, List.any_eq_true, Bool.and_eq_true]
    constructor
    · rintro (h | ⟨p, h1, h2⟩)
      · exact .inl h.symm
      · by_cases t : isTup p = true
        · rw [if_pos t] at h2
          exact .inr ⟨p, h1, t, by rw [← heads_has n p (hp p h1 t)]; exact decide_eq_true h2⟩
        · rw [if_neg t] at h2
          cases h2
    · rintro (h | ⟨p, h1, t, h2⟩)
      · exact .inl h.symm
      · refine .inr ⟨p, h1, ?_⟩
        rw [if_pos t]
        rw [← heads_has n p (hp p h1 t)] at h2
        exact of_decide_eq_true h2
theorem heads_nm : ∀ (n : Nat) (d : PyData), Phr n d → ∀ z ∈ headsD n d, Nm z
  | 0, _, h => h.elim
  | n + 1, d, ⟨w, ps, e, ⟨_, hw⟩, hp⟩ => by
    subst e
    intro z hz
    have hz : z ∈ w :: ps.flatMap fun p => if isTup p = true then headsD n p else [] := hz
    rcases List.mem_cons.mp hz with rfl | hz
    · exact hw
    · obtain ⟨p, h1, h2⟩ := List.mem_flatMap.mp hz
      by_cases t : isTup p = true
      · rw [if_pos t] at h2
        exact heads_nm n p (hp p h1 t) z h2
      · rw [if_neg t] at h2
        cases h2
def Tst.plain : Tst → Tst
  | .blank _ => .all
  | .nt t => .nt t.plain
  | .both a b => .both a.plain b.plain
  | .either a b => .either a.plain b.plain
  | t => t
def Wth.plain : Wth → Wth
  | .ifT t => .ifT t.plain
  | .plus a b => .plus a.plain b.plain
  | .times a b => .times a.plain b.plain
  | t => t
theorem plain_T : ∀ (t : Tst) (n : Nat), t.dp ≤ n → plainD n t.enc = t.plain.enc
  | t, 0, h => by have := t.dp_pos; omega
  | .all, n + 1, _ => rfl
  | .is z m, n + 1, _ => rfl
  | .blank z, n + 1, _ => rfl
  | .nt t, n + 1, h => by
    show PyData.tuple [.str "not", if isTup t.enc = true then plainD n t.enc else t.enc] = _
    rw [if_pos (isTup_enc t), plain_T t n (by simp only [Tst.dp] at h; omega)]
    rfl
  | .both a b, n + 1, h => by
    simp only [Tst.dp] at h
    show PyData.tuple [.str "both", if isTup a.enc = true then plainD n a.enc else a.enc, if isTup b.enc = true then plainD n b.enc else b.enc] = _
    rw [if_pos (isTup_enc a), if_pos (isTup_enc b), plain_T a n (by omega), plain_T b n (by omega)]
    rfl
  | .either a b, n + 1, h => by
    simp only [Tst.dp] at h
    show PyData.tuple [.str "either", if isTup a.enc = true then plainD n a.enc else a.enc, if isTup b.enc = true then plainD n b.enc else b.enc] = _
    rw [if_pos (isTup_enc a), if_pos (isTup_enc b), plain_T a n (by omega), plain_T b n (by omega)]
    rfl
theorem plain_W : ∀ (t : Wth) (n : Nat), t.dp ≤ n → plainD n t.enc = t.plain.enc
  | t, 0, h => by have := t.dp_pos; omega
  | .number m, n + 1, _ => rfl
  | .answer z, n + 1, _ => rfl
  | .ifT t, n + 1, h => by
    show PyData.tuple [.str "if", if isTup t.enc = true then plainD n t.enc else t.enc] = _
    rw [if_pos (isTup_enc t), plain_T t n (by simp only [Wth.dp] at h; omega)]
    rfl
  | .plus a b, n + 1, h => by
    simp only [Wth.dp] at h
    show PyData.tuple [.str "plus", if isTup a.enc = true then plainD n a.enc else a.enc, if isTup b.enc = true then plainD n b.enc else b.enc] = _
    rw [if_pos (isTup_encW a), if_pos (isTup_encW b), plain_W a n (by omega), plain_W b n (by omega)]
    rfl
  | .times a b, n + 1, h => by
    simp only [Wth.dp] at h
    show PyData.tuple [.str "times", if isTup a.enc = true then plainD n a.enc else a.enc, if isTup b.enc = true then plainD n b.enc else b.enc] = _
    rw [if_pos (isTup_encW a), if_pos (isTup_encW b), plain_W a n (by omega), plain_W b n (by omega)]
    rfl
theorem plain_ok {ns : List Str} : ∀ t : Tst, t.ok ns → t.plain.ok ns ∧ t.plain.dp ≤ t.dp
  | .all, _ => ⟨trivial, Nat.le_refl _⟩
  | .is _ _, h => ⟨h, Nat.le_refl _⟩
  | .blank _, _ => ⟨trivial, Nat.le_refl _⟩
  | .nt t, h => by
    obtain ⟨a, b⟩ := plain_ok t h
    exact ⟨a, Nat.succ_le_succ b⟩
  | .both a b, h => by
    obtain ⟨a1, a2⟩ := plain_ok a h.1
    obtain ⟨b1, b2⟩ := plain_ok b h.2
    exact ⟨⟨a1, b1⟩, by simp only [Tst.plain, Tst.dp]; omega⟩
  | .either a b, h => by
    obtain ⟨a1, a2⟩ := plain_ok a h.1
    obtain ⟨b1, b2⟩ := plain_ok b h.2
    exact ⟨⟨a1, b1⟩, by simp only [Tst.plain, Tst.dp]; omega⟩
theorem plain_okW {ns : List Str} : ∀ t : Wth, t.ok ns → t.plain.ok ns ∧ t.plain.dp ≤ t.dp
  | .number _, h => ⟨h, Nat.le_refl _⟩
  | .answer _, h => ⟨h, Nat.le_refl _⟩
  | .ifT t, h => by
    obtain ⟨a, b⟩ := plain_ok t h
    exact ⟨a, Nat.succ_le_succ b⟩
  | .plus a b, h => by
    obtain ⟨a1, a2⟩ := plain_okW a h.1
    obtain ⟨b1, b2⟩ := plain_okW b h.2
    exact ⟨⟨a1, b1⟩, by simp only [Wth.plain, Wth.dp]; omega⟩
  | .times a b, h => by
    obtain ⟨a1, a2⟩ := plain_okW a h.1
    obtain ⟨b1, b2⟩ := plain_okW b h.2
    exact ⟨⟨a1, b1⟩, by simp only [Wth.plain, Wth.dp]; omega⟩
/-! ### how they are shown -/
def wt (d : Nat) : Nat := 60 * 2 ^ d - 10
theorem wt_mono {a b : Nat} (h : a ≤ b) : wt a ≤ wt b := by
  have := Nat.pow_le_pow_right (show 0 < 2 by decide) h
  unfold wt
  omega
theorem wt_one (m : Nat) : 6 + 1 + (wt m + 1 + 0) ≤ wt (m + 1) := by
  have := Nat.one_le_two_pow (n := m)
  unfold wt
  rw [Nat.pow_succ]
  omega
theorem wt_two (m : Nat) : 6 + 1 + (wt m + 1 + (wt m + 1 + 0)) ≤ wt (m + 1) := by
  have := Nat.one_le_two_pow (n := m)
  unfold wt
  rw [Nat.pow_succ]
  omega
theorem tb_word {z : Str} (h : ∀ a ∈ z.cps.toList, a < 16 ^ 8 := by decide) (l : z.length ≤ 6 := by decide) : Tb 0 6 (.str z) := tb_str h l
theorem tb_nm1 {z : Str} (h : Nm z) : Tb 0 20 (.str z) := tb_str (fun a ha => Nat.lt_trans (h.2 a ha) (by decide)) h.1
theorem tb_small {n : Int} {b : Nat} (h : n.natAbs ≤ b) (hb : b < 2 ^ 100) : Tb 0 0 (.int n) := tb_int (Nat.lt_of_le_of_lt h (Nat.lt_of_lt_of_le hb (Nat.pow_le_pow_right (by decide) (by decide))))
theorem tb_two {z : Str} {a : PyData} {m : Nat} (hz : Tb 0 6 (.str z)) (ha : Tb m (wt m) a) : Tb (m + 1) (wt (m + 1)) (.tuple [.str z, a]) :=
  (TbAll.cons (hz.more (Nat.zero_le _) (Nat.le_refl _)) (.cons ha (TbAll.nil.more (Nat.zero_le _) (Nat.le_refl _)))).tuple.more (Nat.le_refl _) (wt_one m)
theorem tb_three {z : Str} {a b : PyData} {m n : Nat} (hz : Tb 0 6 (.str z)) (ha : Tb m (wt m) a) (hb : Tb n (wt n) b) : Tb (max m n + 1) (wt (max m n + 1)) (.tuple [.str z, a, b]) :=
  (TbAll.cons (hz.more (Nat.zero_le _) (Nat.le_refl _)) (.cons (ha.more (Nat.le_max_left _ _) (wt_mono (Nat.le_max_left _ _))) (.cons (hb.more (Nat.le_max_right _ _) (wt_mono (Nat.le_max_right _ _))) (TbAll.nil.more (Nat.zero_le _) (Nat.le_refl _))))).tuple.more (Nat.le_refl _) (wt_two _)
theorem tb_T {ns : List Str} (nm : ∀ z ∈ ns, Nm z) : ∀ (t : Tst), t.ok ns → Tb t.dp (wt t.dp) t.enc
  | .all, _ => (TbAll.cons (tb_word (z := "all")) .nil).tuple.more (Nat.le_refl _) (by show 6 + 1 + 0 ≤ 60 * 2 ^ 1 - 10; decide)
  | .is z n, h => (TbAll.cons (tb_word (z := "is")) (.cons (tb_nm1 (nm z h.1)) (.cons (tb_small h.2 (by decide)) .nil))).tuple.more (Nat.le_refl _) (by show 6 + 1 + (20 + 1 + (0 + 1 + 0)) ≤ 60 * 2 ^ 1 - 10; decide)
  | .blank z, h => (TbAll.cons (tb_word (z := "blank")) (.cons (tb_nm1 (nm z h)) .nil)).tuple.more (Nat.le_refl _) (by show 6 + 1 + (20 + 1 + 0) ≤ 60 * 2 ^ 1 - 10; decide)
  | .nt t, h => tb_two (tb_word (z := "not")) (tb_T nm t h)
  | .both x y, h => tb_three (tb_word (z := "both")) (tb_T nm x h.1) (tb_T nm y h.2)
  | .either x y, h => tb_three (tb_word (z := "either")) (tb_T nm x h.1) (tb_T nm y h.2)
theorem tb_W {ns : List Str} (nm : ∀ z ∈ ns, Nm z) : ∀ (t : Wth), t.ok ns → Tb t.dp (wt t.dp) t.enc
  | .number n, h => (TbAll.cons (tb_word (z := "number")) (.cons (tb_small h (by decide)) .nil)).tuple.more (Nat.le_refl _) (by show 6 + 1 + (0 + 1 + 0) ≤ 60 * 2 ^ 1 - 10; decide)
  | .answer z, h => (TbAll.cons (tb_word (z := "answer")) (.cons (tb_nm1 (nm z h)) .nil)).tuple.more (Nat.le_refl _) (by show 6 + 1 + (20 + 1 + 0) ≤ 60 * 2 ^ 1 - 10; decide)
  | .ifT t, h => tb_two (tb_word (z := "if")) (tb_T nm t h)
  | .plus x y, h => tb_three (tb_word (z := "plus")) (tb_W nm x h.1) (tb_W nm y h.2)
  | .times x y, h => tb_three (tb_word (z := "times")) (tb_W nm x h.1) (tb_W nm y h.2)
theorem wt4 {m : Nat} (h : m ≤ 4) : wt m ≤ 950 := Nat.le_trans (wt_mono h) (by decide)
/-! ### keys: a lot and a truth -/
abbrev Ky := List Str × List Int
def keyD (k : Ky) : PyData := .tuple [lotD k.1, rowD k.2]
theorem eqv_strs : ∀ a b : List Str, PyData.eqvAll (a.map PyData.str) (b.map PyData.str) = decide (a = b)
  | [], [] => by simp [PyData.eqvAll]
  | [], y :: b => by simp [PyData.eqvAll]
  | x :: a, [] => by simp [PyData.eqvAll]
  | x :: a, y :: b => by
    simp only [List.map_cons, PyData.eqvAll, eqv_strs a b, PyData.eqv, List.cons.injEq]
    by_cases h : x = y <;> by_cases g : a = b <;> simp [h, g]
theorem eqv_ints : ∀ a b : List Int, PyData.eqvAll (a.map PyData.int) (b.map PyData.int) = decide (a = b)
  | [], [] => by simp [PyData.eqvAll]
  | [], y :: b => by simp [PyData.eqvAll]
  | x :: a, [] => by simp [PyData.eqvAll]
  | x :: a, y :: b => by
    simp only [List.map_cons, PyData.eqvAll, eqv_ints a b, PyData.eqv, List.cons.injEq]
    by_cases h : x = y <;> by_cases g : a = b <;> simp [h, g]
theorem keyD_eqv (a b : Ky) : PyData.eqv (keyD a) (keyD b) = decide (a = b) := by
  obtain ⟨a1, a2⟩ := a
  obtain ⟨b1, b2⟩ := b
  simp only [keyD, lotD, rowD, PyData.eqv, PyData.eqvAll, eqv_strs, eqv_ints, Bool.and_true, Prod.mk.injEq]
  by_cases h : a1 = b1 <;> by_cases g : a2 = b2 <;> simp [h, g]
theorem keys_any (ks : List Ky) (k : Ky) : ((ks.map keyD).any fun z => PyData.eqv z (keyD k)) = decide (k ∈ ks) := by
  induction ks with
  | nil => simp
  | cons a ks ih =>
    rw [List.map_cons, List.any_cons, ih, keyD_eqv]
    by_cases h : a = k
    · simp [h]
    · have h' : ¬ k = a := fun e => h e.symm
      simp [h, h']
theorem lay_key {k : Ky} (h : ∀ z ∈ k.1, Nm z) : PyData.canLay0 (keyD k) = true := by
  simp [keyD, PyData.canLay0, PyData.canLayAll0, lotD, rowD, lay_strs h, lay_ints]
theorem depth_key (k : Ky) : (keyD k).depth = 2 := by
  simp [keyD, PyData.depth, PyData.depthAll, lotD, rowD, depth_strs, depth_ints]
theorem shaped_key {k : Ky} (h : ∀ z ∈ k.1, Nm z) : SeqAt.shaped (keyD k) = true := by
  show (PyData.canLay0 (keyD k) && decide ((keyD k).depth ≤ 64)) = true
  rw [lay_key h, depth_key]
  decide
theorem lay_keys : ∀ {ks : List Ky}, (∀ k ∈ ks, ∀ z ∈ k.1, Nm z) → PyData.canLayAll0 (ks.map keyD) = true
  | [], _ => by simp [PyData.canLayAll0]
  | k :: ks, h => by
    simp only [List.map_cons, PyData.canLayAll0, lay_key (h k List.mem_cons_self), lay_keys fun x hx => h x (List.mem_cons_of_mem _ hx), Bool.and_self]
theorem depth_keys : ∀ ks : List Ky, PyData.depthAll (ks.map keyD) ≤ 2
  | [] => by simp [PyData.depthAll]
  | k :: ks => by
    simp only [List.map_cons, PyData.depthAll, depth_key]
    exact Nat.max_le.mpr ⟨Nat.le_refl _, depth_keys ks⟩
theorem shaped_keys {ks : List Ky} (h : ∀ k ∈ ks, ∀ z ∈ k.1, Nm z) : SeqAt.shaped (.list (ks.map keyD)) = true := by
  show (PyData.canLay0 (.list (ks.map keyD)) && decide ((PyData.list (ks.map keyD)).depth ≤ 64)) = true
  have a := depth_keys ks
  rw [Bool.and_eq_true]
  refine ⟨by simp only [PyData.canLay0]; exact lay_keys h, decide_eq_true ?_⟩
  simp only [PyData.depth]
  omega
end As

set_option Elab.async false
set_option linter.all false
set_option maxRecDepth 100000
set_option maxHeartbeats 4000000
/-! We2: str of what is no list; written lists of drawn things, raw; hidden lists looked at while a deal is drawn from. -/
namespace Wv
open PySem PySem.Spec PyProof.Rows L2 Wb
section
variable {X : Cx}
abbrev rStrA : List V → Hp → VK → Prop := fun xs H Q => (∃ a, xs = [.str a] ∧ Q (.str a) H) ∨ (∃ i, xs = [.int i] ∧ i.natAbs.log2 < 1920 ∧ Q (.str (toString i)) H) ∨ (∃ b : Bool, xs = [.bl b] ∧ Q (.str (if b then "True" else "False")) H) ∨ (xs = [.non] ∧ Q (.str "None") H)
theorem call_strA : CallR X (.type "str") rStrA := by
  intro pins s σ H xs us Q I r h
  rcases h with ⟨a, rfl, q⟩ | ⟨i, rfl, hz, q⟩ | ⟨b, rfl, q⟩ | ⟨rfl, q⟩
  · obtain ⟨u, rfl, t, rfl⟩ := vals1 r
    exact PySem.P.str_of_str ⟨.str a, H, I, ⟨t, rfl⟩, q⟩
  · exact call_str_int pins s σ H _ us Q I r ⟨i, rfl, hz, q⟩
  · obtain ⟨u, rfl, r1⟩ := vals1 r
    cases r1
    exact PySem.P.str_of_bool ⟨.str _, H, I.tok _, ⟨_, rfl⟩, q⟩
  · obtain ⟨u, rfl, r1⟩ := vals1 r
    cases r1
    exact PySem.P.str_of_none ⟨.str _, H, I.tok _, ⟨_, rfl⟩, q⟩
end
section
variable {K : PySem.W.Frag} {σ : L2.St} {d c M : Addr} {B H : Hp} {te tr : TE} {ta : TA} {S : Rel} {E : XK} {i j n : Nat} {Q : VK} {P : PyData → Prop} {xs : List V}
theorem all_ds : ∀ {xs : List V}, (∀ v ∈ xs, datP K P B v) → ∃ ds : List PyData, AllR (ds.map (dat K)) B xs ∧ ds.length = xs.length ∧ ∀ x ∈ ds, P x
  | [], _ => ⟨[], rfl, rfl, fun x h => nomatch h⟩
  | x :: xs, h => by
    obtain ⟨d, hp, hd⟩ := h x List.mem_cons_self
    obtain ⟨ds, h1, h2, h3⟩ := all_ds fun v hv => h v (List.mem_cons_of_mem _ hv)
    refine ⟨d :: ds, ⟨x, xs, rfl, hd, h1⟩, by simp [h2], fun y hy => ?_⟩
    rcases List.mem_cons.mp hy with rfl | hy
    · exact hp
    · exact h3 y hy
theorem ds_all : ∀ {ds : List PyData} {xs : List V}, AllR (ds.map (dat K)) B xs → (∀ x ∈ ds, P x) → ∀ v ∈ xs, datP K P B v
  | [], _, h, _, v, hv => by
    have h : _ = [] := h
    subst h
    cases hv
  | d :: ds, _, ⟨x, r, e, h1, h2⟩, hp, v, hv => by
    subst e
    rcases List.mem_cons.mp hv with rfl | hv
    · exact ⟨d, hp d List.mem_cons_self, h1⟩
    · exact ds_all h2 (fun x hx => hp x (List.mem_cons_of_mem _ hx)) v hv
/-- some of a written list, whose items were evaluated one by one -/
theorem fin_pick {vs : List V} {B1 H1 : Hp} (L : Dl B1 H1 d c) (l0 : 0 < vs.length) (l1 : vs.length ≤ 1000) (hs : ∀ v ∈ vs, S B1 v) (k : ∀ v B' H', ExtD d c B1 H1 B' H' → S B1 v → Q v H') :
    vs.length ≤ sizeLine ∧ ∀ p, H1 p = none → spOf K ([.ref d, .ref p] ++ []) (upd H1 p (.lst vs)) Q E := by
  refine ⟨by rw [sizeLine_eq]; omega, fun p hp => ?_⟩
  have e : ExtD d c B1 H1 (upd B1 p (.lst vs)) (upd H1 p (.lst vs)) := .of L (Ext.new L.bh hp)
  refine ⟨d, c, .ref p, rfl, e.deal, .inl ⟨p, vs, rfl, e.sub.seq (SqL.of upd_same), fun z => by rw [z] at l0; simp at l0, l1, fun v H3 hv D3 S3 => ?_⟩⟩
  exact k v _ H3 (.trans L e (.draw e.dl D3 S3)) (hs v hv)
theorem ixNn {n r : Nat} (h : r < n) : ixN n (r : Int) = some r := by
  unfold ixN
  rw [if_pos (by omega), if_pos (by omega)]
  simp
theorem atIn {xs : List V} {r : Nat} {v : V} (h : xs[r]? = some v) : atI xs (r : Int) = some v := by
  unfold atI
  rw [ixNn (List.getElem?_eq_some_iff.mp h).1]
  exact h
/-- a def of the deal and of an item of a hidden list -/
theorem c_defAt {α : Type} {args : α → List Rel} {pre : α → Prop} {res : α → Rel} {r : Nat} {v : V} (a : α) (L : Dl B H d c) (hd : σ[i]? = some (some (.ref d))) (hm : σ[j]? = some (some (.ref M))) (hn : σ[n]? = some (some (.int (r : Int)))) (m : Ml d c B H M xs) (hx : xs[r]? = some v)
    (ha : AllR (args a) B [v]) (hp : pre a) (k : ∀ u B' H', ExtD d c B H B' H' → res a B' u → Q u H') : tCall (DPf args pre res) [] E (tCons (tVar i) (tCons (tOp (rIxL K) (tVar j) (tVar n)) tNil)) σ H Q :=
  ⟨.ref d, hd, .ref M, hm, .int r, hn, M, xs, r, v, rfl, rfl, SqL.of m.at_, atIn hx, d, c, B, a, [v], rfl, L, ha, hp, k⟩
/-- .. an item of it drawn -/
theorem c_ixAny {xs : List V} (L : Dl B H d c) (hd : σ[i]? = some (some (.ref d))) (hm : σ[j]? = some (some (.ref M))) (m : Ml d c B H M xs) (pos : 0 < xs.length) (few : xs.length ≤ 1000) (k : ∀ (r : Nat) (v : V) H', xs[r]? = some v → ExtD d c B H B H' → Q v H') :
    tOp (rIxL K) (tVar j) (tCall spAny [] E (tCons (tVar i) (tCons (tCB (rLen K) (tCons (tVar j) tNil)) tNil))) σ H Q :=
  ⟨.ref M, hm, c_anyLen (K := K) L hd hm m pos few fun r H' hr e => by
    have m' := m.ext e
    have hx : xs[r]? = some xs[r] := List.getElem?_eq_getElem hr
    exact ⟨M, xs, r, xs[r], rfl, rfl, SqL.of m'.at_, atIn hx, k r _ H' hx e⟩⟩
theorem c_lcL {g : TG} {tt : TT} {vs : List Nat} (h : te σ H fun x H1 => ∃ a, x = .ref a ∧ (∃ xs, SqL K H1 a xs) ∧ tLc (fun _ H R => R (Itl K a) H) g tt tr vs σ H1 Q) : tLc (iList K te) g tt tr vs σ H Q := h
theorem s_ifB {tt : TT} {t rest : TS} {D : Ends} {b : Bool} (Post : L2.St → Hp → Prop) (h : Dt tt σ B b) (hB : Same B H) (k1 : b = true → ∀ B' H', Ext B H B' H' → ∀ Z : L2.St → Hp → Prop, (∀ σ2 H2, Post σ2 H2 → Z σ2 H2) → t { D with nx := Z } σ H')
    (k2 : b = false → ∀ B' H', Ext B H B' H' → Post σ H') (k : ∀ σ2 H2, Post σ2 H2 → rest D σ2 H2) : tSeq (tIfS tt t tNext) rest D σ H := s_ifS h hB (fun t B' H' e => k1 t B' H' e (rest D) k) fun f B' H' e => k _ _ (k2 f B' H' e)
theorem De.strI {m : Int} (h : De te σ B (dat K (.int m))) (b : m.natAbs.log2 < 1920) : De (tCB (fun xs H Q => ∃ i, xs = [.int i] ∧ i.natAbs.log2 < 1920 ∧ Q (.str (toString i)) H) (tCons te tNil)) σ B (dat K (.str (Str.ofString (toString m)))) := fun B1 H s1 s2 Q q => h B1 H s1 s2 _ fun v B2 H2 e hv => by
  have hv := dat_int hv
  subst hv
  exact ⟨m, rfl, b, q _ B2 H2 e (Dp.str _)⟩
theorem Dl.look (L : Dl B H d c) (m : Ml d c B H M xs) : Dl (upd B M (.lst xs)) H d c := ⟨L.deal, fun b o h => by
  by_cases n : b = M
  · subst n
    rw [upd_same] at h
    rw [off_at m.nd m.nc, m.at_]
    exact h
  · rw [upd_ne n] at h
    exact L.sub _ _ h⟩
theorem Ml.lookedD {B2 H2 : Hp} (L : Dl B H d c) (e : ExtD d c (upd B M (.lst xs)) H B2 H2) : ExtD d c B H B H2 := ⟨e.deal, e.oo, Same.refl _, L.sub.trans e.oo, fun _ _ h => h⟩
def leafD (d : PyData) : Bool := match d with
  | .none => true
  | .bool _ => true
  | .int _ => true
  | .str _ => true
  | _ => false
theorem dat_leaf {d : PyData} {B B' : Hp} {v : V} (h : leafD d = true) (hv : dat K d B v) : dat K d B' v := by
  cases hv with
  | non => exact Dp.non
  | bl b => exact Dp.bl b
  | int i => exact Dp.int i
  | str z => exact Dp.str z
  | lst _ _ => cases h
  | tup _ _ => cases h
theorem s_forR {g : TG} {ts rest : TS} {D : Ends} (h : te σ H fun v H1 => ∃ k : Int, [v] = [.int k] ∧ -(2 ^ 62) ≤ k ∧ k < 2 ^ 62 ∧ tSeq (tFor (fun _ H R => R (Itr 0 k.toNat) H) g ts) rest D σ H1) : tSeq (tFor (iRng1 (tCons te tNil)) g ts) rest D σ H := h
theorem c_insW {P : V → Hp → Prop} (L : Dl B H d c) (hd : σ[i]? = some (some (.ref d))) (hm : σ[j]? = some (some (.ref M))) (m : Ml d c B H M xs) (few : xs.length ≤ 1000)
    (h : ∀ (r : Int) H1, 0 ≤ r → r < 1002 → ExtD d c B H B H1 → Ml d c B H1 M xs → te σ H1 fun v H2 => rIns (.ref M) [.int r, v] H2 Q) :
    tBM K "list" rIns (tVar j) (tCons (tCall spAny [] E (tCons (tVar i) (tCons (tOp (rI0 fun i j => V.int (i + j)) (tCB (rLen K) (tCons (tVar j) tNil)) (tC (.int 1))) tNil))) (tCons te tNil)) σ H Q :=
  ⟨.ref M, hm, .inl ⟨rfl, xs, SqL.of m.at_⟩, .ref d, hd, .ref M, hm, .ref M, xs.length, rfl, .inl ⟨xs, SqL.of m.at_, rfl⟩, _, _, rfl, rfl, d, c, (xs.length : Int) + 1, rfl, L.deal, by omega, by omega, fun r H2 r0 r1 D2 S2 => by
    have e : ExtD d c B H B H2 := .draw L D2 S2
    exact h r H2 r0 (by omega) e (m.ext e)⟩
theorem s_un2 {rest : TS} {D : Ends} {R S : Rel} (h : De te σ B (tupR K [R, S])) (hB : Same B H) (k : ∀ x y B' H', Ext B H B' H' → R B' x → S B' y → rest D ((σ.set i (some x)).set j (some y)) H') : tSeq (tAsg te (gTup K 2 (gCons (gName i) (gCons (gName j) gNil)))) rest D σ H :=
  h B H (Same.refl _) hB _ fun v B' H' e hv => by
    obtain ⟨x, y, hx, hy, go⟩ := gTup2 (σ1 := σ) (i := i) (j := j) e.bh hv
    exact go _ (k x y B' H' e hx hy)
theorem s_un2E {D : Ends} {R S : Rel} (h : De te σ B (tupR K [R, S])) (hB : Same B H) (k : ∀ x y B' H', Ext B H B' H' → R B' x → S B' y → D.nx ((σ.set i (some x)).set j (some y)) H') : tAsg te (gTup K 2 (gCons (gName i) (gCons (gName j) gNil))) D σ H :=
  h B H (Same.refl _) hB _ fun v B' H' e hv => by
    obtain ⟨x, y, hx, hy, go⟩ := gTup2 (σ1 := σ) (i := i) (j := j) e.bh hv
    exact go _ (k x y B' H' e hx hy)
theorem s_ifW0 {tt : TT} {t rest : TS} {D : Ends} (Post : L2.St → Hp → Prop) (L : Dl B H d c) (h : Dtw tt σ d c B) (k1 : ∀ B' H', ExtD d c B H B' H' → ∀ Z : L2.St → Hp → Prop, (∀ σ2 H2, Post σ2 H2 → Z σ2 H2) → t { D with nx := Z } σ H')
    (k2 : ∀ B' H', ExtD d c B H B' H' → Post σ H') (k : ∀ σ2 H2, Post σ2 H2 → rest D σ2 H2) : tSeq (tIfS tt t tNext) rest D σ H := s_ifW L h (fun B' H' e => k1 B' H' e (rest D) k) fun B' H' e => k _ _ (k2 B' H' e)
end
end Wv

set_option Elab.async false
set_option linter.all false
set_option maxRecDepth 100000
set_option maxHeartbeats 1000000
/-! Sm0: what is drawn is bounded. -/
namespace Sb
open PySem PySem.Spec PyProof.Rows L2 Wb Wv Fm
/-- data of so many bits, storeys and so much weight -/
inductive Sm (b : Nat) : Nat → Nat → PyData → Prop
  | none {k W : Nat} : Sm b k W .none
  | bool {k W : Nat} (c : Bool) : Sm b k W (.bool c)
  | int {k W : Nat} {i : Int} (h : i.natAbs < 2 ^ b) : Sm b k W (.int i)
  | str {k W : Nat} {z : Str} (h : Nmk W z) : Sm b k W (.str z)
  | list {k W V : Nat} {ds : List PyData} (h : ∀ x ∈ ds, Sm b k W x) (hl : ds.length * (W + 1) ≤ V) : Sm b (k + 1) V (.list ds)
  | tuple {k W V : Nat} {ds : List PyData} (h : ∀ x ∈ ds, Sm b k W x) (hl : ds.length * (W + 1) ≤ V) : Sm b (k + 1) V (.tuple ds)
theorem Sm.mono {b k W : Nat} {d : PyData} (h : Sm b k W d) : ∀ {b' k' W' : Nat}, b ≤ b' → k ≤ k' → W ≤ W' → Sm b' k' W' d := by
  induction h with
  | none => exact fun _ _ _ => .none
  | bool b => exact fun _ _ _ => .bool b
  | int h => exact fun hb _ _ => .int (Nat.lt_of_lt_of_le h (Nat.pow_le_pow_right (by decide) hb))
  | str h => exact fun _ _ hw => .str (h.mono hw)
  | list h hl ih =>
    intro b' k' W' hb hk hw
    obtain ⟨j, rfl⟩ : ∃ j, k' = j + 1 := ⟨k' - 1, by omega⟩
    exact .list (fun x hx => ih x hx hb (by omega) (Nat.le_refl _)) (Nat.le_trans hl hw)
  | tuple h hl ih =>
    intro b' k' W' hb hk hw
    obtain ⟨j, rfl⟩ : ∃ j, k' = j + 1 := ⟨k' - 1, by omega⟩
    exact .tuple (fun x hx => ih x hx hb (by omega) (Nat.le_refl _)) (Nat.le_trans hl hw)
/-- short leaves -/
structure Tc (n W : Nat) (e : PyData) : Prop where
  tb : Tb n W e
  leaf : e.leavesShort 100 = true
theorem leaves_all {L : Nat} : ∀ {ds : List PyData}, (∀ x ∈ ds, x.leavesShort L = true) → PyData.leavesShortAll L ds = true
  | [], _ => by simp [PyData.leavesShortAll]
  | x :: ds, h => by simp only [PyData.leavesShortAll, h x List.mem_cons_self, leaves_all fun y hy => h y (List.mem_cons_of_mem _ hy), Bool.and_self]
theorem Sm.tc {b k W : Nat} {d : PyData} (h : Sm b k W d) (hb : b ≤ 90) : Tc k W d := by
  induction h with
  | none => exact ⟨tb_none.more (Nat.zero_le _) (Nat.zero_le _), by decide +kernel⟩
  | bool c => exact ⟨(tb_bool c).more (Nat.zero_le _) (Nat.zero_le _), by cases c <;> decide +kernel⟩
  | @int k W i h =>
    refine ⟨(tb_int (Nat.lt_of_lt_of_le h (Nat.pow_le_pow_right (by decide) (by omega)))).more (Nat.zero_le _) (Nat.zero_le _), ?_⟩
    simp only [PyData.leavesShort, decide_eq_true_eq]
    have l : i.natAbs.log2 < 90 := log_le (Nat.lt_of_lt_of_le h (Nat.pow_le_pow_right (by decide) hb)) (by decide)
    have := int_text_length_le (a := i) (by decide) l
    show (Str.ofString (toString i)).length ≤ 100
    have e : (Str.ofString (toString i)).length = (toString i).length := by
      rw [Str.ofString_eq_toList]
      simp [Str.length]
      exact String.length_toList
    rw [e]
    omega
  | str h => exact ⟨(tb_str (fun a ha => Nat.lt_of_lt_of_le (h.2 a ha) (by decide)) h.1).more (Nat.zero_le _) (Nat.le_refl _), by
      simp only [PyData.leavesShort, List.all_eq_true, decide_eq_true_eq]
      exact fun a ha => Nat.lt_of_lt_of_le (h.2 a ha) (by decide)⟩
  | list h hl ih => exact ⟨((TbAll.of fun x hx => (ih x hx).tb).list).more (Nat.le_refl _) hl, by simp only [PyData.leavesShort]; exact leaves_all fun x hx => (ih x hx).leaf⟩
  | tuple h hl ih => exact ⟨((TbAll.of fun x hx => (ih x hx).tb).tuple).more (Nat.le_refl _) hl, by simp only [PyData.leavesShort]; exact leaves_all fun x hx => (ih x hx).leaf⟩
theorem Sm.tb {b k W : Nat} {d : PyData} (h : Sm b k W d) (hb : b ≤ 90) : Tb k W d := (h.tc hb).tb
theorem lay_all : ∀ {ds : List PyData}, (∀ x ∈ ds, PyData.canLay0 x = true) → PyData.canLayAll0 ds = true
  | [], _ => rfl
  | x :: ds, h => by simp only [PyData.canLayAll0, h x List.mem_cons_self, lay_all fun y hy => h y (List.mem_cons_of_mem _ hy), Bool.and_self]
theorem strok {W : Nat} {z : Str} (h : Nmk W z) : PyData.strOk z = true := by
  unfold PyData.strOk
  rw [← Array.all_toList, List.all_eq_true]
  intro c hc
  have := h.2 c hc
  simp only [decide_eq_true_eq]
  omega
theorem Sm.lay {b k W : Nat} {d : PyData} (h : Sm b k W d) : PyData.canLay0 d = true := by
  induction h with
  | none => rfl
  | bool b => rfl
  | int h => rfl
  | str h => simp only [PyData.canLay0, strok h]
  | list h hl ih => simp only [PyData.canLay0, lay_all ih]
  | tuple h hl ih => simp only [PyData.canLay0, lay_all ih]
theorem depth_all {k : Nat} : ∀ {ds : List PyData}, (∀ x ∈ ds, x.depth ≤ k) → PyData.depthAll ds ≤ k
  | [], _ => Nat.zero_le _
  | x :: ds, h => by
    simp only [PyData.depthAll]
    exact Nat.max_le.mpr ⟨h x List.mem_cons_self, depth_all fun y hy => h y (List.mem_cons_of_mem _ hy)⟩
theorem Sm.deep {b k W : Nat} {d : PyData} (h : Sm b k W d) : d.depth ≤ k := by
  induction h with
  | none => simp [PyData.depth]
  | bool b => simp [PyData.depth]
  | int h => simp [PyData.depth]
  | str h => simp [PyData.depth]
  | list h hl ih => simp only [PyData.depth]; have := depth_all ih; omega
  | tuple h hl ih => simp only [PyData.depth]; have := depth_all ih; omega
theorem Sm.shaped {b k W : Nat} {d : PyData} (h : Sm b k W d) (hk : k ≤ 60 := by decide) : SeqAt.shaped d = true := by
  unfold SeqAt.shaped
  rw [h.lay, Bool.true_and]
  exact decide_eq_true (Nat.le_trans h.deep (by omega))
theorem Sm.shw {b k W : Nat} {d : PyData} (h : Sm b k W d) (hb : b ≤ 90 := by decide) (hk : k ≤ 60 := by decide) (hw : W ≤ 100000 := by decide) : Shw d := by
  have t := h.tc hb
  refine ⟨t.tb.shows, t.tb.noDict, Nat.le_trans t.tb.deep hk, ?_⟩
  have q := PyData.shown_le_bulk 100 (by decide) d t.leaf
  have l := t.tb.light
  rw [sizeLine_eq]
  omega
theorem Sm.strInv {b k W : Nat} {z : Str} (h : Sm b k W (.str z)) : Nmk W z := by
  cases h with
  | str h => exact h
theorem Sm.intInv {b k W : Nat} {i : Int} (h : Sm b k W (.int i)) : i.natAbs < 2 ^ b := by
  cases h with
  | int h => exact h
theorem Sm.tupInv {b k V : Nat} {ds : List PyData} (h : Sm b k V (.tuple ds)) : ∃ j W, k = j + 1 ∧ (∀ x ∈ ds, Sm b j W x) ∧ ds.length * (W + 1) ≤ V := by
  cases h with
  | tuple h hl => exact ⟨_, _, rfl, h, hl⟩
theorem Sm.elem {b k V : Nat} {ds : List PyData} {x : PyData} (h : Sm b k V (.tuple ds)) (hx : x ∈ ds) : Sm b k V x := by
  obtain ⟨j, W, rfl, h, hl⟩ := h.tupInv
  have p1 : 1 * (W + 1) ≤ ds.length * (W + 1) := Nat.mul_le_mul_right _ (List.length_pos_of_mem hx)
  exact (h x hx).mono (Nat.le_refl _) (by omega) (by omega)
theorem Sm.count {b k V : Nat} {ds : List PyData} (h : Sm b k V (.tuple ds)) : ds.length ≤ V := by
  obtain ⟨j, W, _, _, hl⟩ := h.tupInv
  have : ds.length * 1 ≤ ds.length * (W + 1) := Nat.mul_le_mul_left _ (by omega)
  omega
theorem sm_list {b k W : Nat} {ds : List PyData} (h : ∀ x ∈ ds, Sm b k W x) (n : Nat) (hn : ds.length ≤ n) (V : Nat) (hV : n * (W + 1) ≤ V) : Sm b (k + 1) V (.list ds) := .list h (Nat.le_trans (Nat.mul_le_mul_right _ hn) hV)
theorem sm_tuple {b k W : Nat} {ds : List PyData} (h : ∀ x ∈ ds, Sm b k W x) (n : Nat) (hn : ds.length ≤ n) (V : Nat) (hV : n * (W + 1) ≤ V) : Sm b (k + 1) V (.tuple ds) := .tuple h (Nat.le_trans (Nat.mul_le_mul_right _ hn) hV)
theorem mem1 {α : Type} {P : α → Prop} {a : α} (h : P a) : ∀ x ∈ [a], P x := fun x hx => by
  rw [List.mem_singleton.mp hx]
  exact h
theorem mem2 {α : Type} {P : α → Prop} {a c : α} (h : P a) (h2 : P c) : ∀ x ∈ [a, c], P x := fun x hx => by
  rcases List.mem_cons.mp hx with rfl | hx
  · exact h
  · exact mem1 h2 x hx
theorem mem3 {α : Type} {P : α → Prop} {a c d : α} (h : P a) (h2 : P c) (h3 : P d) : ∀ x ∈ [a, c, d], P x := fun x hx => by
  rcases List.mem_cons.mp hx with rfl | hx
  · exact h
  · exact mem2 h2 h3 x hx
theorem eqv_nil : ∀ ds : List PyData, PyData.eqv (.list ds) (.list []) = decide (ds = []) := by
  intro ds
  cases ds <;> simp [PyData.eqv, PyData.eqvAll]
theorem eqv_nilT : ∀ ds : List PyData, PyData.eqv (.tuple ds) (.tuple []) = decide (ds = []) := by
  intro ds
  cases ds <;> simp [PyData.eqv, PyData.eqvAll]
theorem dat_lst {K : PySem.W.Frag} {B : Hp} {ds : List PyData} {p : Addr} {xs : List V} (hs : SqL K B p xs) (h : AllR (ds.map (dat K)) B xs) : dat K (.list ds) B (.ref p) := lstR_dat ⟨p, xs, rfl, hs, h⟩
theorem bool_or_not {a b : Bool} : (!a || !b) = !(a && b) := by cases a <;> cases b <;> rfl
end Sb

set_option Elab.async false
set_option linter.all false
set_option maxRecDepth 100000
set_option maxHeartbeats 3200000
/-! St3: what a set is worth; least and greatest of data; xs.remove; list(d); >. -/
namespace St
open PySem PySem.Spec PyProof.Rows L2 Wb Wv Fq
/-! ### sets -/
def stR (K : PySem.W.Frag) (P : Program) (w : World) (ks : List NestedKey) : Rel := fun B v => ∃ a L, v = .ref a ∧ B a = some (SetNO P w a L) ∧ NkAll K B L ∧ (L.map (·.2)).Nodup ∧ L.length < 64 ∧ ∀ k, k ∈ L.map (·.2) ↔ k ∈ ks
theorem NkAll.mono {K : PySem.W.Frag} {B B' : Hp} {L : List Pt} (h : NkAll K B L) (s : Same B B') : NkAll K B' L := fun p hp => (h p hp).same s
instance {K : PySem.W.Frag} {P : Program} {w : World} {ks : List NestedKey} : Mo (stR K P w ks) where
  mo := fun s ⟨a, L, e, h, n, r⟩ => ⟨a, L, e, s a _ h, n.mono s, r⟩
/-- data whose things are all such keys -/
theorem pts_of {K : PySem.W.Frag} {B : Hp} : ∀ {ks : List NestedKey} {xs : List V}, DpAll K B xs (ks.map NestedKey.data) → (∀ k ∈ ks, (∃ ls, k = .tup ls) ∧ k.depth ≤ 8) → ∃ L : List Pt, xs = L.map (fun p => V.ref p.1) ∧ L.map (·.2) = ks ∧ NkAll K B L
  | [], _, .nil, _ => ⟨[], rfl, rfl, fun p h => absurd h List.not_mem_nil⟩
  | k :: ks, _, .cons (v := v) h t, hk => by
    obtain ⟨⟨ls, rfl⟩, dep⟩ := hk k List.mem_cons_self
    obtain ⟨L, e1, e2, e3⟩ := pts_of t fun k2 h2 => hk k2 (List.mem_cons_of_mem _ h2)
    have h' := h
    rw [NestedKey.data] at h
    cases h with
    | tup hs hd =>
      refine ⟨(_, .tup ls) :: L, by rw [e1]; rfl, by rw [List.map_cons, e2], fun p hp => ?_⟩
      rcases List.mem_cons.mp hp with rfl | q
      · exact ⟨h', dep⟩
      · exact e3 p q
section
variable {K : PySem.W.Frag} {P : Program} {w : World} {σ : L2.St} {B : Hp} {te ta tb : TE}
theorem De.set {ks : List NestedKey} (h : De te σ B (dat K (.list (ks.map NestedKey.data)))) (hk : ∀ k ∈ ks, (∃ ls, k = .tup ls) ∧ k.depth ≤ 8) (few : ks.length < 64) : De (tCB (rSetN K P w) (tCons te tNil)) σ B (stR K P w ks) :=
  De.cb (.one h) fun vs B1 H s1 s2 hvs Q q => by
    obtain ⟨v, r, rfl, hv, hr⟩ := hvs
    have hr : r = [] := hr
    subst hr
    cases hv with
    | lst hs hd =>
      obtain ⟨L, rfl, e2, e3⟩ := pts_of hd hk
      refine ⟨_, L, rfl, s2.seq hs, e3.mono s2, by rw [← e2, List.length_map] at few; exact few, fun a M ha m1 m2 m3 m4 => ?_⟩
      refine q _ (upd B1 a (SetNO P w a M)) _ (Ext.new s2 ha) ⟨a, M, rfl, upd_same, (fun p hp => (e3 p (m1 p hp)).same (new_same (none_of s2 ha))), m3, m4, fun k => ⟨fun hk => ?_, fun hk => ?_⟩⟩
      · obtain ⟨p, hp, rfl⟩ := List.mem_map.mp hk
        rw [← e2]
        exact List.mem_map.mpr ⟨p, m1 p hp, rfl⟩
      · rw [← e2] at hk
        obtain ⟨p, hp, rfl⟩ := List.mem_map.mp hk
        exact m2 p hp
/-- sorted(set(xs)), as what stands in order with the same things -/
theorem De.sortedS {α : Type} {κ : α → NestedKey} (inj : ∀ a b, κ a = κ b → a = b) {as out : List α} (h : De te σ B (stR K P w (as.map κ))) (tu : ∀ a ∈ as, ∃ ls, κ a = .tup ls) (al : ∀ a ∈ as, ∀ b ∈ as, PySem.W.alike (κ a).data (κ b).data = true)
    (asc : Asc (fun a => (κ a).data) out) (mem : ∀ a, a ∈ out ↔ a ∈ as) : De (tCB (rSortedS K P w) (tCons te tNil)) σ B (dat K (.list (out.map fun a => (κ a).data))) :=
  De.cb (Rs := [stR K P w (as.map κ)]) (Da.cons h Da.nil) fun vs B1 H s1 s2 hvs Q q => by
    obtain ⟨v, r, rfl, ⟨a, L, rfl, hs, hn, nd, few, hm⟩, hr⟩ := hvs
    have hr : r = [] := hr
    subst hr
    have of : ∀ p ∈ L, ∃ x ∈ as, κ x = p.2 := fun p hp => List.mem_map.mp ((hm p.2).mp (List.mem_map.mpr ⟨p, hp, rfl⟩))
    refine ⟨a, L, rfl, s2 a _ hs, hn.mono s2, fun p hp => ?_, fun d hd e he => ?_, fun M p pm hp => ?_⟩
    · obtain ⟨x, hx, e⟩ := of p hp
      rw [← e]
      exact tu x hx
    · obtain ⟨p, hp, rfl⟩ := List.mem_map.mp hd
      obtain ⟨p2, hp2, rfl⟩ := List.mem_map.mp he
      obtain ⟨x, hx, e⟩ := of p hp
      obtain ⟨y, hy, e2⟩ := of p2 hp2
      rw [← e, ← e2]
      exact al x hx y hy
    · have same : (M.map fun e : Pt => e.2.data).mergeSort dle = out.map fun a => (κ a).data := by
        have pk : (M.map (·.2)).Perm (out.map κ) := by
          have n1 : (M.map (·.2)).Nodup := (pm.map (·.2)).nodup_iff.mpr nd
          have n2 : (out.map κ).Nodup := List.pairwise_map.mpr ((asc_nodup asc).imp fun ne e => ne (inj _ _ e))
          refine (List.perm_ext_iff_of_nodup n1 n2).mpr fun k => ?_
          rw [(pm.map (·.2)).mem_iff, hm k, List.mem_map, List.mem_map]
          exact ⟨fun ⟨x, hx, e⟩ => ⟨x, (mem x).mpr hx, e⟩, fun ⟨x, hx, e⟩ => ⟨x, (mem x).mp hx, e⟩⟩
        have asc2 : Asc (fun k : NestedKey => k.data) (out.map κ) := List.pairwise_map.mpr asc
        have so := asc_sort asc2 pk
        have e1 : (M.map fun e : Pt => e.2.data) = (M.map (·.2)).map NestedKey.data := by rw [List.map_map]; rfl
        rw [e1, ← List.map_mergeSort (r := fun a b : NestedKey => dle a.data b.data) (f := NestedKey.data) (fun _ _ _ _ => rfl), so, List.map_map]
        rfl
      have hdp := dp_pts (K := K) (H := B1) (L := M) fun p hp => hn p (pm.mem_iff.mp hp)
      have len := dpAll_len hdp
      have srt : DpAll K B1 (sortV (M.map fun e => V.ref e.1) (M.map fun e : Pt => e.2.data)) (sortD (M.map fun e : Pt => e.2.data)) := by
        unfold sortV sortD
        have hp := pairs_dpAll hdp
        have : (M.map fun e : Pt => e.2.data).mergeSort dle = (((M.map fun e => V.ref e.1).zip (M.map fun e : Pt => e.2.data)).mergeSort fun a b => dle a.2 b.2).map Prod.snd := by
          rw [List.map_mergeSort (s := dle) (f := Prod.snd) (fun _ _ _ _ => rfl), zip_snd len]
        rw [this]
        exact dpAll_pairs fun z hz => hp z ((List.mergeSort_perm _ _).mem_iff.mp hz)
      refine q _ _ _ (Ext.new s2 hp) (.lst (SqL.of upd_same) (dpMonoAll (new_same (none_of s2 hp)) _ _ ?_))
      rw [← same]
      exact srt
theorem De.lenS' {α : Type} {κ : α → NestedKey} (inj : ∀ a b, κ a = κ b → a = b) {as out : List α} (h : De te σ B (stR K P w (as.map κ))) (nd : out.Nodup) (mem : ∀ a, a ∈ out ↔ a ∈ as) : De (tCB (rLenS P w) (tCons te tNil)) σ B (dat K (.int (out.length : Int))) :=
  De.cb (Rs := [stR K P w (as.map κ)]) (Da.cons h Da.nil) fun vs B1 H s1 s2 hvs Q q => by
    obtain ⟨v, r, rfl, ⟨a, L, rfl, hs, hn, n1, few, hm⟩, hr⟩ := hvs
    have hr : r = [] := hr
    subst hr
    have n2 : (out.map κ).Nodup := List.pairwise_map.mpr (nd.imp fun ne e => ne (inj _ _ e))
    have pk : (L.map (·.2)).Perm (out.map κ) := (List.perm_ext_iff_of_nodup n1 n2).mpr fun k => by
      rw [hm k, List.mem_map, List.mem_map]
      exact ⟨fun ⟨x, hx, e⟩ => ⟨x, (mem x).mpr hx, e⟩, fun ⟨x, hx, e⟩ => ⟨x, (mem x).mp hx, e⟩⟩
    have el : L.length = out.length := by
      have := pk.length_eq
      rwa [List.length_map, List.length_map] at this
    exact ⟨a, L, rfl, s2 a _ hs, by rw [el]; exact q _ _ _ (.refl s2) (Dp.int _)⟩
end
/-! ### least, greatest -/
open PySem.W in
def rMinD (K : PySem.W.Frag) : List V → Hp → VK → Prop := fun vs H Q => ∃ (a : Addr) (xs : List V) (d : PyData) (ds : List PyData), vs = [.ref a] ∧ SqL K H a xs ∧ DpAll K H xs (d :: ds) ∧ PySem.W.AlikeAll (d :: ds) ∧ (∀ x ∈ d :: ds, x.depth ≤ 60) ∧
  ∀ (i : Nat) (x : V), xs[i]? = some x → (d :: ds)[i]? = some (PySem.W.minD d ds) → Q x H
def rMaxD (K : PySem.W.Frag) : List V → Hp → VK → Prop := fun vs H Q => ∃ (a : Addr) (xs : List V) (d : PyData) (ds : List PyData), vs = [.ref a] ∧ SqL K H a xs ∧ DpAll K H xs (d :: ds) ∧ PySem.W.AlikeAll (d :: ds) ∧ (∀ x ∈ d :: ds, x.depth ≤ 60) ∧
  ∀ (i : Nat) (x : V), xs[i]? = some x → (d :: ds)[i]? = some (PySem.W.maxD d ds) → Q x H
theorem depth_le {ds : List PyData} {n : Nat} (h : ∀ x ∈ ds, x.depth ≤ n) : PyData.depthAll ds ≤ n := by
  induction ds with
  | nil => exact Nat.zero_le _
  | cons d ds ih =>
    simp only [PyData.depthAll]
    exact Nat.max_le.mpr ⟨h d List.mem_cons_self, ih fun x hx => h x (List.mem_cons_of_mem _ hx)⟩
theorem vals_get : ∀ {xs : List V} {us : List Value}, Vals xs us → ∀ (i : Nat) (u : Value), us[i]? = some u → ∃ x, xs[i]? = some x ∧ RelV x u
  | _, _, .cons r t, 0, u, e => by cases e; exact ⟨_, rfl, r⟩
  | _, _, .cons r t, i + 1, u, e => vals_get t i u e
section
variable {X : Cx}
theorem cr_minD (hc : X.calm = true) (hu : X.A.units + 64 < cLine) : CallR X (.builtin "min") (rMinD X.K) := by
  intro pins s σ H vs us Q I r h
  obtain ⟨a, xs, d, ds, rfl, hs, hd, al, dep, q⟩ := h
  obtain ⟨its, rv, hl, hz⟩ := I.list hs
  rw [Vals.ref1 r]
  obtain ⟨as, hr⟩ := Dp.readsAll I (d :: ds) _ its hd rv
  have len : its.length = ds.length + 1 := by rw [← rv.length, dpAll_len hd]; rfl
  have dp := depth_le dep
  have hr2 : ReadsAll s.heap its.toArray.toList (d :: ds) as := hr
  refine call_min_walkH (PySem.W.iter_listW (A := X.A.in1) (I.ok.hd hc) hl.isList fun s₂ e W st hfp hw hk => ?_)
  refine ⟨_, _, _, _, _, _, _, s.heap, _, rfl, W, st, hfp, by rw [List.size_toArray]; omega, hw, hk, PySem.W.cmpIn_lt (A := X.A.in1) hr2 al (by show X.A.units + 1 + _ < _; omega), fun v z hv m => ?_⟩
  obtain ⟨h', tk, rfl, hk'⟩ := PySem.W.moved_old e rfl m
  rw [List.size_toArray, len, Nat.add_sub_cancel] at hv
  have hv2 : its[argBest (fun i j => PySem.W.dataLt ((d :: ds).getD i .none) ((d :: ds).getD j .none)) ds.length]? = some v := by rw [← List.getElem?_toArray]; exact hv
  obtain ⟨x, hx, rx⟩ := vals_get rv _ _ hv2
  obtain ⟨f1, f2⟩ := PySem.W.argBest_fold PySem.W.dataLt .none d ds ds.length (Nat.le_refl _)
  rw [List.take_length] at f2
  refine ⟨x, H, I.kept hk', rx, q _ x hx ?_⟩
  have lt : argBest (fun i j => PySem.W.dataLt ((d :: ds).getD i .none) ((d :: ds).getD j .none)) ds.length < (d :: ds).length := by rw [List.length_cons]; omega
  rw [List.getElem?_eq_getElem lt]
  rw [List.getD_eq_getElem?_getD, List.getElem?_eq_getElem lt] at f2
  exact congrArg some f2
theorem cr_maxD (hc : X.calm = true) (hu : X.A.units + 64 < cLine) : CallR X (.builtin "max") (rMaxD X.K) := by
  intro pins s σ H vs us Q I r h
  obtain ⟨a, xs, d, ds, rfl, hs, hd, al, dep, q⟩ := h
  obtain ⟨its, rv, hl, hz⟩ := I.list hs
  rw [Vals.ref1 r]
  obtain ⟨as, hr⟩ := Dp.readsAll I (d :: ds) _ its hd rv
  have len : its.length = ds.length + 1 := by rw [← rv.length, dpAll_len hd]; rfl
  have dp := depth_le dep
  have hr2 : ReadsAll s.heap its.toArray.toList (d :: ds) as := hr
  refine call_max_walkH (PySem.W.iter_listW (A := X.A.in1) (I.ok.hd hc) hl.isList fun s₂ e W st hfp hw hk => ?_)
  refine ⟨_, _, _, _, _, _, _, s.heap, _, rfl, W, st, hfp, by rw [List.size_toArray]; omega, hw, hk, PySem.W.cmpIn_gt (A := X.A.in1) hr2 al (by show X.A.units + 1 + _ < _; omega), fun v z hv m => ?_⟩
  obtain ⟨h', tk, rfl, hk'⟩ := PySem.W.moved_old e rfl m
  rw [List.size_toArray, len, Nat.add_sub_cancel] at hv
  have hv2 : its[argBest (fun i j => PySem.W.dataLt ((d :: ds).getD j .none) ((d :: ds).getD i .none)) ds.length]? = some v := by rw [← List.getElem?_toArray]; exact hv
  obtain ⟨x, hx, rx⟩ := vals_get rv _ _ hv2
  obtain ⟨f1, f2⟩ := PySem.W.argBest_fold (fun u v => PySem.W.dataLt v u) .none d ds ds.length (Nat.le_refl _)
  rw [List.take_length] at f2
  refine ⟨x, H, I.kept hk', rx, q _ x hx ?_⟩
  have lt : argBest (fun i j => PySem.W.dataLt ((d :: ds).getD j .none) ((d :: ds).getD i .none)) ds.length < (d :: ds).length := by rw [List.length_cons]; omega
  rw [List.getElem?_eq_getElem lt]
  rw [List.getD_eq_getElem?_getD, List.getElem?_eq_getElem lt] at f2
  exact congrArg some f2
def rGtA (K : PySem.W.Frag) : R2 := fun x y H Q => ∃ d e, Dp K H x d ∧ Dp K H y e ∧ PySem.W.alike d e = true ∧ d ≠ .none ∧ d.depth ≤ 60 ∧ Q (.bl (PySem.W.dataLt e d)) H
theorem op_gtA (hu : X.A.units + 64 < cLine) : OpR X (compareOp .Gt) (rGtA X.K) := by
  intro pins s σ H x y v u Q I rx ry h
  obtain ⟨d, e, hx, hy, al, nn, dep, q⟩ := h
  obtain ⟨as, ra⟩ := Dp.reads I d x v hx rx
  obtain ⟨bs, rb⟩ := Dp.reads I e y u hy ry
  exact PySem.W.gt_data ra rb al nn (by have := Nat.min_le_left d.depth e.depth; omega) ⟨.bl _, H, I, rfl, q⟩
/-- xs.remove(y), of data -/
def rRemD (K : PySem.W.Frag) : V → List V → Hp → VK → Prop := fun x vs H Q => ∃ (l : Addr) (xs : List V) (ds : List PyData) (y : V) (d z : PyData) (j : Nat), x = .ref l ∧ vs = [y] ∧ H l = some (.lst xs) ∧ DpAll K H xs ds ∧ Dp K H y d ∧ SeqAt.shaped (.list ds) = true ∧ SeqAt.shaped d = true ∧
  ds[j]? = some z ∧ PyData.eqv z d = true ∧ (∀ m z', m < j → ds[m]? = some z' → PyData.eqv z' d = false) ∧ Q .non (upd H l (.lst (xs.eraseIdx j)))
theorem mt_removeD (hu : X.A.units + 65 < cLine) : MtM X "list.remove" (rRemD X.K) := by
  intro pins s σ H x vs v us Q I rx rvs h
  obtain ⟨l, xs, ds, y, d, z, j, rfl, rfl, hH, hd, hy, sl, sd, hz, hzj, hno, q⟩ := h
  cases rx
  obtain ⟨u, rfl, ru⟩ := rvs.one
  obtain ⟨bs, rb⟩ := Dp.reads I d y u hy ru
  obtain ⟨zz, its, n, r, hl, e⟩ := I.lstM hH
  obtain ⟨as, hr⟩ := Dp.readsAll I ds _ its hd r
  have lay : PyData.canLayAll0 ds = true := SeqAt.canLay_of_shaped sl
  have line := sizeLine_eq
  have room : X.A.units + 1 + min (PyData.depthAll ds) d.depth < cLine := room_in_shaped sd hu
  have mp : its.map (SeqAt.readOf s.heap) = ds := SeqAt.readsAll_map ds its as lay hr
  have ln : its.length = ds.length := by rw [← mp, List.length_map]
  have xl : xs.length = ds.length := dpAll_len hd
  obtain ⟨jd, _⟩ := List.getElem?_eq_some_iff.mp hz
  have jl : j < its.toArray.size := by rw [List.size_toArray]; omega
  have at_ : ∀ (m : Nat) (hm : m < its.toArray.size) (w : PyData), ds[m]? = some w → SeqAt.readOf s.heap its.toArray[m] = w := fun m hm w hw => by
    rw [List.size_toArray] at hm
    rw [← mp, List.getElem?_map, List.getElem?_eq_getElem hm] at hw
    have e1 := Option.some.inj (show some (SeqAt.readOf s.heap its[m]) = some w from hw)
    simpa using e1
  refine call_meets PySem.F.slot_list_remove ⟨_, e, rfl⟩ PySem.F.entry_list_remove (PySem.F.args_list_remove_2 _ _)
    (SeqAt.list_removeAt l its.toArray n none #[] u (fun v => PyData.eqv (SeqAt.readOf s.heap v) d) j jl ?_ ?_ (by rw [List.size_toArray]; omega)) ⟨e, SeqAt.items_eqAt (vs := its.toArray) (show ReadsAll s.heap its.toArray.toList ds as from hr) rb lay (SeqAt.canLay_of_shaped sd) room, ?_⟩
  · show PyData.eqv (SeqAt.readOf s.heap its.toArray[j]) d = true
    rw [at_ j jl z hz]
    exact hzj
  · intro m hm hmj
    have md : m < ds.length := by omega
    have hw := List.getElem?_eq_getElem md
    show PyData.eqv (SeqAt.readOf s.heap its.toArray[m]) d = false
    rw [at_ m hm _ hw]
    exact hno m _ hmj hw
  · refine ⟨.non, _, I.lset (its' := its.eraseIdx j) (t' := s.toks) hH e ?_ (r.eraseIdx j) ?_, rfl, q⟩
    · show its.toArray.eraseIdxIfInBounds j = (its.eraseIdx j).toArray
      rw [List.eraseIdxIfInBounds_toArray]
    · have := List.length_eraseIdx_le xs j
      omega
/-- list(d), d a dict with such keys -/
def rListN (P : Program) (w : World) : List V → Hp → VK → Prop := fun vs H Q => ∃ (d : Addr) (kvs : List Nen), vs = [.ref d] ∧ H d = some (NdiO P w d kvs) ∧ ∀ p, H p = none → Q (.ref p) (upd H p (.lst (kvs.map fun e => V.ref e.2.1)))
theorem cr_listN (hc : X.calm = true) : CallR X (.type "list") (rListN X.prog X.w) := by
  intro pins s σ H vs us Q I r h
  obtain ⟨d, kvs, rfl, hd, q⟩ := h
  rw [Vals.ref1 r]
  obtain ⟨z, hs, ks, pr, o, es, ep, ho, hx, hdt, he, hn⟩ := (I.hok d _ hd).1
  have l1 : es.size = ks.length := size_of_entries he
  have l2 : kvs.length = ks.length := Paired.length pr
  refine PySem.W.kdl_call (kdl_raw hs hx hdt) (I.ok.hd hc) ho (by omega) fun h' tk acc c' kp hD it => ?_
  have ea : acc.toList = ks.map fun x => Value.ref x.2.1 := by
    have hl : acc.toList.length = ks.length := by rw [Array.length_toList, it.1]; exact l1
    apply List.ext_getElem?
    intro j
    rw [List.getElem?_map]
    cases hj : acc.toList[j]? with
    | none =>
      rw [List.getElem?_eq_none (by have := List.getElem?_eq_none_iff.mp hj; omega)]
      rfl
    | some v =>
      obtain ⟨en, hen, hv⟩ := it.2 j v (by rw [← Array.getElem?_toList]; exact hj)
      have qe := entry_at he j
      rw [hen] at qe
      cases hb : ks[j]? with
      | none =>
        rw [hb] at qe
        exact nomatch (show some en = none from qe)
      | some b =>
        rw [hb] at qe
        rw [hv, show en = entryOfKey (NK X.prog X.w) b from Option.some.inj qe]
        rfl
  have ik := nv_addrs pr
  have rv : Vals (kvs.map fun e => V.ref e.2.1) acc.toList := by
    rw [ea, show (ks.map fun x => Value.ref x.2.1) = (ks.map fun x => x.2.1).map Value.ref by rw [List.map_map]; rfl, ik, show (kvs.map fun e => V.ref e.2.1) = (kvs.map fun e => e.2.1).map V.ref by rw [List.map_map]; rfl]
    exact vals_refs _
  exact ⟨.ref s.heap.objs.size, upd H s.heap.objs.size (.lst (kvs.map fun e => V.ref e.2.1)), I.laid (t' := tk) kp (Nat.le_refl _) (show ObjOk X.prog X.w _ _ _ (.lst (kvs.map fun e => V.ref e.2.1)) from ⟨by rw [List.length_map]; omega, acc.toList, c', rv, by rw [Array.toArray_toList]; exact hD⟩), rfl, q _ (I.hok.fresh (Nat.le_refl _))⟩
end
end St

set_option Elab.async false
set_option linter.all false
set_option maxRecDepth 100000
set_option maxHeartbeats 1000000
/-! Fs1: fractions added up by keys, out of a list or a tuple. -/
namespace Fq
open PySem PySem.Spec PyProof.Rows L2 Wb Wv Fm Wf
def seqD : Bool → List PyData → PyData
  | true, ds => .tuple ds
  | false, ds => .list ds
theorem Di.seqM {α : Type} {K : PySem.W.Frag} {σ : L2.St} {B : Hp} {tl : TE} {way : Bool} {as : List α} {f : α → PyData} (h : De tl σ B (dat K (seqD way (as.map f)))) : Di (iSeq K tl) σ B (as.map fun a => dat K (f a)) := by
  cases way with
  | true =>
    have := Di.seqT (K := K) (σ := σ) (tl := tl) (show De tl σ B (dat K (.tuple (as.map f))) from h)
    rw [List.map_map] at this
    exact this
  | false =>
    have := Di.seqL (K := K) (σ := σ) (tl := tl) (show De tl σ B (dat K (.list (as.map f))) from h)
    rw [List.map_map] at this
    exact this
abbrev spAddedQ (K : PySem.W.Frag) : Sp := Pf (α := List KF × Bool) (fun a => [dat K (seqD a.2 (a.1.map kfD))]) (fun a => KFok a.1) (fun a => dat K (.tuple ((sumsOf a.1).map kfD)))
section
variable {α : Type} [DecidableEq α]
theorem De.addedQ {K : PySem.W.Frag} {σ : L2.St} {B : Hp} {te : TE} {E : XK} {κ : α → NestedKey} {ps : List (α × Rat)} (way : Bool) (inj : ∀ a b, κ a = κ b → a = b) (ok : KFok (ps.map fun p => (κ p.1, p.2))) (h : De te σ B (dat K (seqD way (ps.map fun p => .tuple [(κ p.1).data, frD p.2])))) :
    De (tCall (spAddedQ K) [] E (tCons te tNil)) σ B (dat K (.tuple ((sumsG (fun a => (κ a).data) ps).map fun p => .tuple [(κ p.1).data, frD p.2]))) := by
  have := De.call (E := E) (pre := fun a : List KF × Bool => KFok a.1) (args := fun a : List KF × Bool => [dat K (seqD a.2 (a.1.map kfD))]) (res := fun a => dat K (.tuple ((sumsOf a.1).map kfD))) ((ps.map fun p => (κ p.1, p.2)), way) (.one (De.eq h (by rw [List.map_map]; rfl))) ok
  refine De.eq this ?_
  show PyData.tuple ((sumsOf (ps.map fun p => (κ p.1, p.2))).map kfD) = _
  rw [sumsOf_G inj, List.map_map]
  rfl
end
end Fq

set_option Elab.async false
set_option linter.all false
set_option maxRecDepth 100000
set_option maxHeartbeats 4000000
/-! Fm3: names: small letters alone, so many of them; their order. -/
namespace Fm
open PySem PySem.Spec PyProof.Rows L2 Wb Wv
def NmL (m n : Nat) (z : Str) : Prop := m ≤ z.length ∧ z.length ≤ n ∧ ∀ c ∈ z.cps.toList, 97 ≤ c ∧ c ≤ 122
theorem app_cps (x y : Str) : (x ++ y).cps.toList = x.cps.toList ++ y.cps.toList := Array.toList_append
theorem app_len (x y : Str) : (x ++ y).length = x.length + y.length := by
  show (x ++ y).cps.size = x.cps.size + y.cps.size
  rw [← Array.length_toList, app_cps, List.length_append]
  rfl
theorem NmL.mono {m n m' n' : Nat} {z : Str} (h : NmL m n z) (h1 : m' ≤ m) (h2 : n ≤ n') : NmL m' n' z := ⟨Nat.le_trans h1 h.1, Nat.le_trans h.2.1 h2, h.2.2⟩
theorem NmL.nmk {m n : Nat} {z : Str} (h : NmL m n z) : Nmk n z := ⟨h.2.1, fun c hc => by have := h.2.2 c hc; omega⟩
theorem NmL.app {m n m' n' : Nat} {x y : Str} (h : NmL m n x) (g : NmL m' n' y) : NmL (m + m') (n + n') (x ++ y) := by
  refine ⟨by rw [app_len]; exact Nat.add_le_add h.1 g.1, by rw [app_len]; exact Nat.add_le_add h.2.1 g.2.1, fun c hc => ?_⟩
  rw [app_cps] at hc
  exact (List.mem_append.mp hc).elim (h.2.2 c) (g.2.2 c)
theorem NmL.one {a : Nat} (h : 97 ≤ a ∧ a ≤ 122) : NmL 1 1 ⟨#[a]⟩ := ⟨Nat.le_refl _, Nat.le_refl _, fun c hc => by
  have : c = a := by simpa using hc
  omega⟩
theorem cutS_len (z : Str) (lo hi : Option Int) : (cutS z lo hi).length = min (HT.sIx z.length z.length hi - HT.sIx z.length 0 lo) (z.length - HT.sIx z.length 0 lo) := by
  unfold cutS
  show (List.toArray _).size = _
  rw [List.size_toArray, List.length_take, List.length_drop]
  rfl
/-- a stem with another sign at a place, or behind it -/
theorem NmL.stem {z : Str} {a : Nat} {r : Int} (hz : NmL 1 8 z) (ha : 97 ≤ a ∧ a ≤ 122) (r0 : 0 ≤ r) (r8 : r < 8) : NmL 1 8 (cutS z none (some r) ++ ⟨#[a]⟩ ++ cutS z (some (r + 1)) none) := by
  obtain ⟨n, rfl⟩ := Int.eq_ofNat_of_zero_le r0
  have l1 : (cutS z none (some (n : Int))).length = min n z.length := by
    rw [cutS_len, HT.sIx_nat, HT.sIx_none]
    omega
  have l2 : (cutS z (some ((n : Int) + 1)) none).length = z.length - min (n + 1) z.length := by
    rw [cutS_len, show ((n : Int) + 1) = ((n + 1 : Nat) : Int) from rfl, HT.sIx_nat, HT.sIx_none]
    omega
  have one : (⟨#[a]⟩ : Str).length = 1 := rfl
  have h8 := hz.2.1
  have h1 := hz.1
  refine ⟨by rw [app_len, app_len, one]; omega, by rw [app_len, app_len, one, l1, l2]; omega, fun c hc => ?_⟩
  rw [app_cps, app_cps] at hc
  rcases List.mem_append.mp hc with hc | hc
  · rcases List.mem_append.mp hc with hc | hc
    · exact hz.2.2 c (cutS_mem hc)
    · exact (NmL.one ha).2.2 c hc
  · exact hz.2.2 c (cutS_mem hc)
theorem join_nmL0 {sep : Str} (hs : sep.length = 0) : ∀ {zs : List Str}, (∀ z ∈ zs, NmL 1 1 z) → NmL zs.length zs.length (Str.join sep zs)
  | [], _ => ⟨Nat.zero_le _, Nat.zero_le _, fun c hc => by cases hc⟩
  | [x], h => h x List.mem_cons_self
  | x :: y :: r, h => by
    have a := h x List.mem_cons_self
    have b := join_nmL0 hs (zs := y :: r) fun z hz => h z (List.mem_cons_of_mem _ hz)
    have s0 : NmL 0 0 sep := ⟨Nat.zero_le _, by omega, fun c hc => by
      have : sep.cps.toList = [] := List.eq_nil_of_length_eq_zero (by rw [Array.length_toList]; exact hs)
      rw [this] at hc
      cases hc⟩
    show NmL _ _ (x ++ sep ++ Str.join sep (y :: r))
    refine ((a.app s0).app b).mono ?_ ?_
    all_goals
      simp only [List.length_cons]
      omega
theorem join_nmL {sep : Str} (hs : sep.length = 0) {zs : List Str} (h : ∀ z ∈ zs, NmL 1 1 z) : NmL zs.length zs.length (Txt.join sep zs) := by
  unfold Txt.join
  rw [StrLaws.glued_eq_join]
  exact join_nmL0 hs h
/-! ### what is asked of a name -/
theorem letters_are : ∀ c, 97 ≤ c → c ≤ 122 → Unicode.isAlpha c = true ∧ Unicode.isLower c = true ∧ Unicode.isUpper c = false ∧ Unicode.isTitle c = false := by
  intro c h1 h2
  have : ∀ c ∈ (List.range 26).map (· + 97), Unicode.isAlpha c = true ∧ Unicode.isLower c = true ∧ Unicode.isUpper c = false ∧ Unicode.isTitle c = false := by decide +kernel
  exact this c (List.mem_map.mpr ⟨c - 97, List.mem_range.mpr (by omega), by omega⟩)
theorem NmL.ascii {m n : Nat} {z : Str} (h : NmL m n z) : Txt.isascii z = true := by
  unfold Txt.isascii
  rw [← Array.all_toList, List.all_eq_true]
  intro c hc
  have := h.2.2 c hc
  exact decide_eq_true (by omega)
theorem NmL.alpha {m n : Nat} {z : Str} (h : NmL m n z) (m1 : 1 ≤ m) : Txt.isalpha z = true := by
  unfold Txt.isalpha
  rw [Bool.and_eq_true]
  refine ⟨decide_eq_true (Nat.lt_of_lt_of_le m1 h.1), ?_⟩
  rw [← Array.all_toList, List.all_eq_true]
  intro c hc
  have := h.2.2 c hc
  exact (letters_are c this.1 this.2).1
theorem NmL.lower {m n : Nat} {z : Str} (h : NmL m n z) (m1 : 1 ≤ m) : Txt.islower z = true := by
  unfold Txt.islower
  have len : 0 < z.cps.toList.length := by
    rw [Array.length_toList]
    exact Nat.lt_of_lt_of_le m1 h.1
  have h0 : z.cps.toList[0] ∈ z.cps.toList := List.getElem_mem len
  rw [Bool.and_eq_true]
  constructor
  · rw [← Array.any_toList, List.any_eq_true]
    have := h.2.2 _ h0
    exact ⟨_, h0, (letters_are _ this.1 this.2).2.1⟩
  · rw [Bool.not_eq_true', ← Array.any_toList, List.any_eq_false]
    intro c hc
    have := h.2.2 c hc
    obtain ⟨_, _, a, b⟩ := letters_are c this.1 this.2
    rw [a, b]
    decide
/-! ### the order of names -/
def Sl (a b : Str) : Prop := a.cps.toList < b.cps.toList
theorem dle_str (a b : Str) : dle (.str a) (.str b) = decide (a.cps.toList ≤ b.cps.toList) := by
  unfold dle PySem.W.dataLe PySem.W.sortLe
  simp only [PySem.W.keyToks, cond_false]
  show (!PyProof.Rows.lexLt PyProof.Rows.itemOrd [.inr b.cps.toList] [.inr a.cps.toList]) = _
  unfold PyProof.Rows.lexLt
  show (!(decide (b.cps.toList < a.cps.toList) || (!decide (a.cps.toList < b.cps.toList) && PyProof.Rows.lexLt PyProof.Rows.itemOrd [] []))) = _
  unfold PyProof.Rows.lexLt
  rw [Bool.and_false, Bool.or_false]
  by_cases h : b.cps.toList < a.cps.toList
  · rw [decide_eq_true h]
    exact (decide_eq_false (fun z => List.not_lt.mpr z h)).symm
  · rw [decide_eq_false h]
    exact (decide_eq_true (List.not_lt.mp h)).symm
theorem str_ext {a b : Str} (h : a.cps.toList = b.cps.toList) : a = b := by
  cases a
  cases b
  simpa using h
theorem sorted_strs {zs : List Str} (nd : zs.Nodup) : ∃ ys : List Str, ys.Perm zs ∧ sortD (zs.map .str) = ys.map .str ∧ ys.Pairwise Sl := by
  refine ⟨zs.mergeSort fun a b => dle (.str a) (.str b), List.mergeSort_perm _ _, ?_, ?_⟩
  · unfold sortD
    rw [List.map_mergeSort (s := dle) (f := PyData.str) (fun a _ b _ => rfl)]
  · have p := List.pairwise_mergeSort (le := fun a b : Str => dle (.str a) (.str b)) (fun a b c h1 h2 => by
      simp only [dle_str, decide_eq_true_eq] at *
      exact List.le_trans h1 h2) (fun a b => by
      simp only [dle_str, Bool.or_eq_true, decide_eq_true_eq]
      exact List.le_total _ _) zs
    have n : (zs.mergeSort fun a b => dle (.str a) (.str b)).Nodup := (List.mergeSort_perm _ _).nodup_iff.mpr nd
    refine (List.Pairwise.and p n).imp fun {a b} ⟨h1, h2⟩ => ?_
    rw [dle_str, decide_eq_true_eq] at h1
    unfold Sl
    by_cases h : a.cps.toList < b.cps.toList
    · exact h
    · exact absurd (str_ext (List.le_antisymm h1 (List.not_lt.mp h))) h2
end Fm

set_option Elab.async false
set_option linter.all false
set_option maxRecDepth 100000
set_option maxHeartbeats 1000000
/-! Ch0: nodes, arrows and bows as data; their order; what leads where. -/
namespace Ch
open PySem PySem.Spec PyProof.Rows L2 Wb Wv Fm Fq Sb St
abbrev Nd := Bool × Str
def ndW (b : Bool) : Str := if b then "b" else "a"
def ndD (z : Nd) : PyData := .tuple [.str (ndW z.1), .str z.2]
def ndK (z : Nd) : NestedKey := .tup [.text (ndW z.1), .text z.2]
def nodesL (ns : List Str) : List Nd := ns.map (fun z => (false, z)) ++ ns.map fun z => (true, z)
abbrev Ar := Nd × Nd
def arD (a : Ar) : PyData := .tuple [ndD a.1, ndD a.2]
def arK (a : Ar) : NestedKey := .tup [ndK a.1, ndK a.2]
/-- data that are keys, in an order -/
structure Kd {α : Type} (dt : α → PyData) (κ : α → NestedKey) : Prop where
  dat : ∀ a, (κ a).data = dt a
  inj : ∀ a b, κ a = κ b → a = b
  tup : ∀ a, ∃ ls, κ a = .tup ls
  dep : ∀ a, (κ a).depth ≤ 8
  al : ∀ a b, PySem.W.alike (dt a) (dt b) = true
  eqv : ∀ a b : α, PyData.eqv (dt a) (dt b) = true ↔ a = b
  deep : ∀ a, (dt a).depth ≤ 8
theorem nd_dat (a : Nd) : (ndK a).data = ndD a := by simp [ndK, ndD, NestedKey.data, NestedKey.datas]
theorem ndW_inj {a b : Bool} (h : ndW a = ndW b) : a = b := by
  have ne : Str.ofString "a" ≠ Str.ofString "b" := by decide +kernel
  cases a <;> cases b <;> simp [ndW, ne, ne.symm] at h ⊢
theorem ndK_inj {a b : Nd} (h : ndK a = ndK b) : a = b := by
  obtain ⟨x, y⟩ := a
  obtain ⟨u, v⟩ := b
  simp only [ndK, NestedKey.tup.injEq, List.cons.injEq, NestedKey.text.injEq, and_true] at h
  rw [ndW_inj h.1, h.2]
theorem nd_eqv (a b : Nd) : PyData.eqv (ndD a) (ndD b) = true ↔ a = b := by
  obtain ⟨x, y⟩ := a
  obtain ⟨u, v⟩ := b
  simp only [ndD, PyData.eqv, PyData.eqvAll, Bool.and_true, Bool.and_eq_true, beq_iff_eq, Prod.mk.injEq]
  exact ⟨fun ⟨h1, h2⟩ => ⟨ndW_inj h1, h2⟩, fun ⟨h1, h2⟩ => ⟨by rw [h1], h2⟩⟩
theorem ndD_eqv (a b : Nd) [Decidable (a = b)] : PyData.eqv (ndD a) (ndD b) = decide (a = b) := by
  by_cases h : a = b
  · rw [decide_eq_true h]; exact (nd_eqv a b).mpr h
  · rw [decide_eq_false h]
    cases e : PyData.eqv (ndD a) (ndD b) with
    | false => rfl
    | true => exact absurd ((nd_eqv a b).mp e) h
theorem ndKd : Kd ndD ndK where
  dat := nd_dat
  inj := fun _ _ => ndK_inj
  tup := fun _ => ⟨_, rfl⟩
  dep := fun _ => by simp [ndK, NestedKey.depth, NestedKey.depthAll]
  al := fun _ _ => by simp [ndD, PySem.W.alike, PySem.W.alikeAll]
  eqv := nd_eqv
  deep := fun _ => by simp [ndD, PyData.depth, PyData.depthAll]
theorem arD_eqv (a b : Ar) [Decidable (a = b)] : PyData.eqv (arD a) (arD b) = decide (a = b) := by
  obtain ⟨x, y⟩ := a
  obtain ⟨u, v⟩ := b
  simp only [arD, PyData.eqv, PyData.eqvAll, ndD_eqv, Bool.and_true]
  rw [Bool.eq_iff_iff]
  simp
theorem arKd : Kd arD arK where
  dat := fun a => by simp [arK, arD, NestedKey.data, NestedKey.datas, nd_dat]
  inj := fun a b h => by
    simp only [arK, NestedKey.tup.injEq, List.cons.injEq, and_true] at h
    exact Prod.ext (ndK_inj h.1) (ndK_inj h.2)
  tup := fun _ => ⟨_, rfl⟩
  dep := fun _ => by simp [arK, ndK, NestedKey.depth, NestedKey.depthAll]
  al := fun a b => by
    have := ndKd.al
    simp [arD, PySem.W.alike, PySem.W.alikeAll, this]
  eqv := fun a b => by rw [arD_eqv, decide_eq_true_eq]
  deep := fun _ => by simp [arD, ndD, PyData.depth, PyData.depthAll]
section
variable {α : Type} {dt : α → PyData} {κ : α → NestedKey}
theorem Kd.eqvD (k : Kd dt κ) (a b : α) [Decidable (a = b)] : PyData.eqv (dt a) (dt b) = decide (a = b) := by
  by_cases h : a = b
  · rw [decide_eq_true h]; exact (k.eqv a b).mpr h
  · rw [decide_eq_false h]
    cases e : PyData.eqv (dt a) (dt b) with
    | false => rfl
    | true => exact absurd ((k.eqv a b).mp e) h
theorem Kd.tot (k : Kd dt κ) {a b : α} (ne : a ≠ b) : PySem.W.dataLt (dt a) (dt b) = true ∨ PySem.W.dataLt (dt b) (dt a) = true := by
  cases h1 : PySem.W.dataLt (dt a) (dt b) with
  | true => exact .inl rfl
  | false =>
    cases h2 : PySem.W.dataLt (dt b) (dt a) with
    | true => exact .inr rfl
    | false =>
      have te := lex_total (O := itemOrd) _ _ h1 h2
      have no : PyData.eqv (dt a) (dt b) = false := by
        cases e : PyData.eqv (dt a) (dt b) with
        | false => rfl
        | true => exact absurd ((k.eqv a b).mp e) ne
      have := (PySem.W.toks_eqv (dt a) (dt b) (k.al a b)).2 no [] [.inl 0]
      rw [← te, PySem.W.lex_pre, lex_irrefl] at this
      cases this
theorem Kd.ne_of_lt (k : Kd dt κ) {a b : α} (h : PySem.W.dataLt (dt a) (dt b) = true) : a ≠ b := fun e => by
  rw [e, PySem.W.dataLt_self] at h
  cases h
theorem lt_trans' {a b c : PyData} (h1 : PySem.W.dataLt a b = true) (h2 : PySem.W.dataLt b c = true) : PySem.W.dataLt a c = true := lex_trans (O := itemOrd) _ _ _ h1 h2
theorem Kd.alike (k : Kd dt κ) (l : List α) : PySem.W.AllAlike (l.map dt) := fun x hx y hy => by
  obtain ⟨a, _, rfl⟩ := List.mem_map.mp hx
  obtain ⟨b, _, rfl⟩ := List.mem_map.mp hy
  exact k.al a b
theorem Kd.tupD (k : Kd dt κ) (a : α) : ∃ xs, dt a = .tuple xs := by
  obtain ⟨ls, e⟩ := k.tup a
  rw [← k.dat, e]
  exact ⟨_, rfl⟩
theorem Kd.sok (k : Kd dt κ) (l : List α) : PySem.W.SortOk (l.map dt) := .inl fun d hd => by
  obtain ⟨a, _, rfl⟩ := List.mem_map.mp hd
  exact k.tupD a
theorem Kd.depths (k : Kd dt κ) (l : List α) : ∀ d ∈ l.map dt, d.depth ≤ 60 := fun d hd => by
  obtain ⟨a, _, rfl⟩ := List.mem_map.mp hd
  exact Nat.le_trans (k.deep a) (by decide)
/-- sorted, as things -/
def srt (dt : α → PyData) (l : List α) : List α := l.mergeSort fun a b => dle (dt a) (dt b)
theorem srt_perm (dt : α → PyData) (l : List α) : (srt dt l).Perm l := List.mergeSort_perm _ _
theorem srt_map (dt : α → PyData) (l : List α) : sortD (l.map dt) = (srt dt l).map dt := by
  unfold sortD srt
  rw [← List.map_mergeSort (r := fun a b => dle (dt a) (dt b)) (f := dt) (fun _ _ _ _ => rfl)]
theorem srt_le (dt : α → PyData) (l : List α) : (srt dt l).Pairwise fun a b => dle (dt a) (dt b) = true := List.pairwise_mergeSort (le := fun a b => dle (dt a) (dt b)) (fun _ _ _ => dle_trans) (fun _ _ => dle_total _ _) l
theorem srt_asc (k : Kd dt κ) {l : List α} (nd : l.Nodup) : Asc dt (srt dt l) := by
  have n2 : (srt dt l).Nodup := (srt_perm dt l).nodup_iff.mpr nd
  refine ((srt_le dt l).and n2).imp fun {a b} ⟨h, ne⟩ => ?_
  rcases k.tot ne with z | z
  · exact z
  · have h : (!PySem.W.dataLt (dt b) (dt a)) = true := h
    rw [z] at h
    cases h
theorem srt_eq (k : Kd dt κ) {l m : List α} (p : l.Perm m) : srt dt l = srt dt m := by
  have anti : ∀ a b : α, dle (dt a) (dt b) = true → dle (dt b) (dt a) = true → a = b := fun a b h1 h2 => by
    apply Classical.byContradiction
    intro ne
    have h1 : (!PySem.W.dataLt (dt b) (dt a)) = true := h1
    have h2 : (!PySem.W.dataLt (dt a) (dt b)) = true := h2
    rcases k.tot ne with z | z
    · rw [z] at h2; cases h2
    · rw [z] at h1; cases h1
  exact List.Perm.eq_of_pairwise (le := fun a b => dle (dt a) (dt b) = true) (fun a b _ _ => anti a b) (srt_le dt l) (srt_le dt m) (((srt_perm dt l).trans p).trans (srt_perm dt m).symm)
theorem srt_id {l : List α} (h : Asc dt l) : srt dt l = l := asc_sort h (List.Perm.refl _)
theorem asc_ext {l m : List α} (h1 : Asc dt l) (h2 : Asc dt m) (mem : ∀ a, a ∈ l ↔ a ∈ m) : l = m := by
  have p : l.Perm m := (List.perm_ext_iff_of_nodup (asc_nodup h1) (asc_nodup h2)).mpr mem
  have e := asc_sort h2 p
  rw [← e]
  exact (asc_sort h1 (List.Perm.refl _)).symm
/-- what a set of them is, in order -/
def setO [DecidableEq α] (dt : α → PyData) (l : List α) : List α := srt dt (firsts l)
theorem setO_asc [DecidableEq α] (k : Kd dt κ) (l : List α) : Asc dt (setO dt l) := srt_asc k (firsts_nodup l)
theorem setO_mem [DecidableEq α] (dt : α → PyData) (l : List α) (a : α) : a ∈ setO dt l ↔ a ∈ l := by rw [setO, (srt_perm dt _).mem_iff, firsts_mem]
theorem setO_id [DecidableEq α] (k : Kd dt κ) {l : List α} (h : Asc dt l) : setO dt l = l := asc_ext (setO_asc k l) h fun a => setO_mem dt l a
theorem mem_eqv (k : Kd dt κ) (l : List α) (a : α) [Decidable (a ∈ l)] : ((l.map dt).any fun z => PyData.eqv z (dt a)) = decide (a ∈ l) := by
  rw [List.any_map, Bool.eq_iff_iff, List.any_eq_true, decide_eq_true_eq]
  constructor
  · rintro ⟨b, hb, e⟩
    rw [← (k.eqv b a).mp e]
    exact hb
  · exact fun h => ⟨a, h, (k.eqv a a).mpr rfl⟩
end
/-! ### the order of nodes -/
theorem nd_ab (z y : Str) : PySem.W.dataLt (ndD (false, z)) (ndD (true, y)) = true := by
  have ne : (Sum.inr (ndW false).cps.toList : Int ⊕ List Nat) ≠ Sum.inr (ndW true).cps.toList := by decide +kernel
  unfold PySem.W.dataLt ndD
  simp only [PySem.W.keyToks, PySem.W.keyToksAll, List.cons_append, List.nil_append]
  rw [lex_self (O := itemOrd), lex_diff (O := itemOrd) ne]
  decide +kernel
theorem nd_bb (b : Bool) {z y : Str} (h : Sl z y) : PySem.W.dataLt (ndD (b, z)) (ndD (b, y)) = true := by
  have ne : (Sum.inr z.cps.toList : Int ⊕ List Nat) ≠ Sum.inr y.cps.toList := fun e => by
    have h : z.cps.toList < y.cps.toList := h
    rw [Sum.inr.inj e] at h
    exact List.lt_irrefl _ h
  unfold PySem.W.dataLt ndD
  simp only [PySem.W.keyToks, PySem.W.keyToksAll, List.cons_append, List.nil_append]
  rw [lex_self (O := itemOrd), lex_self (O := itemOrd), lex_self (O := itemOrd), lex_diff (O := itemOrd) ne]
  show decide (z.cps.toList < y.cps.toList) = true
  exact decide_eq_true h
theorem nodes_asc {ns : List Str} (h : ns.Pairwise Sl) : Asc ndD (nodesL ns) := by
  unfold nodesL
  refine List.pairwise_append.mpr ⟨List.pairwise_map.mpr (h.imp fun g => nd_bb false g), List.pairwise_map.mpr (h.imp fun g => nd_bb true g), fun a ha b hb => ?_⟩
  obtain ⟨z, _, rfl⟩ := List.mem_map.mp ha
  obtain ⟨y, _, rfl⟩ := List.mem_map.mp hb
  exact nd_ab z y
theorem nodes_mem {ns : List Str} {a : Nd} : a ∈ nodesL ns ↔ a.2 ∈ ns := by
  obtain ⟨b, z⟩ := a
  unfold nodesL
  rw [List.mem_append, List.mem_map, List.mem_map]
  constructor
  · rintro (⟨y, hy, e⟩ | ⟨y, hy, e⟩) <;> (cases e; exact hy)
  · intro h
    cases b
    · exact .inl ⟨z, h, rfl⟩
    · exact .inr ⟨z, h, rfl⟩
theorem nodes_len (ns : List Str) : (nodesL ns).length = 2 * ns.length := by
  unfold nodesL
  rw [List.length_append, List.length_map, List.length_map]
  omega
/-! ### what leads where -/
inductive Lead (as : List Ar) : Nd → Nd → Prop where
  | refl (x : Nd) : Lead as x x
  | snoc {x y z : Nd} : Lead as x y → (y, z) ∈ as → Lead as x z
def Led (as : List Ar) (st : List Nd) (t : Nd) : Prop := ∃ s ∈ st, Lead as s t
theorem Led.cands {as : List Ar} {st : List Nd} {t : Nd} (h : Led as st t) : t ∈ st ++ as.map (·.2) := by
  obtain ⟨s, hs, l⟩ := h
  cases l with
  | refl => exact List.mem_append_left _ hs
  | snoc _ h2 => exact List.mem_append_right _ (List.mem_map.mpr ⟨_, h2, rfl⟩)
open Classical in
noncomputable def ledL (as : List Ar) (st : List Nd) : List Nd := setO ndD ((st ++ as.map (·.2)).filter fun t => decide (Led as st t))
theorem ledL_asc (as : List Ar) (st : List Nd) : Asc ndD (ledL as st) := setO_asc ndKd _
theorem ledL_mem {as : List Ar} {st : List Nd} {t : Nd} : t ∈ ledL as st ↔ Led as st t := by
  unfold ledL
  rw [setO_mem, List.mem_filter]
  simp only [decide_eq_true_eq]
  exact ⟨fun h => h.2, fun h => ⟨h.cands, h⟩⟩
theorem ledL_eq {as : List Ar} {st l : List Nd} (h : Asc ndD l) (mem : ∀ t, t ∈ l ↔ Led as st t) : l = ledL as st := asc_ext h (ledL_asc as st) fun a => (mem a).trans ledL_mem.symm
/-- what holds the starts, is closed, and has nothing else -/
theorem led_closed {as : List Ar} {st l : List Nd} (h0 : ∀ s ∈ st, s ∈ l) (h1 : ∀ a ∈ as, a.1 ∈ l → a.2 ∈ l) (h2 : ∀ t ∈ l, Led as st t) (t : Nd) : t ∈ l ↔ Led as st t := by
  have key : ∀ {s t : Nd}, Lead as s t → s ∈ l → t ∈ l := fun le hs => by
    induction le with
    | refl => exact hs
    | snoc _ m ih => exact h1 _ m ih
  exact ⟨h2 t, fun ⟨s, hs, le⟩ => key le (h0 s hs)⟩
theorem led_congr {as bs : List Ar} {st su : List Nd} (h : ∀ a, a ∈ as ↔ a ∈ bs) (g : ∀ s, s ∈ st ↔ s ∈ su) (t : Nd) : Led as st t ↔ Led bs su t := by
  have one : ∀ {as bs : List Ar} {s t : Nd}, (∀ a, a ∈ as ↔ a ∈ bs) → Lead as s t → Lead bs s t := fun h l => by
    induction l with
    | refl => exact .refl _
    | snoc _ m ih => exact .snoc ih ((h _).mp m)
  exact ⟨fun ⟨s, hs, l⟩ => ⟨s, (g s).mp hs, one h l⟩, fun ⟨s, hs, l⟩ => ⟨s, (g s).mpr hs, one (fun a => (h a).symm) l⟩⟩
theorem Lead.rank {as : List Ar} {rk : Nd → Nat} (h : ∀ a ∈ as, rk a.1 < rk a.2) {s t : Nd} (l : Lead as s t) : s = t ∨ rk s < rk t := by
  induction l with
  | refl => exact .inl rfl
  | snoc _ m ih =>
    have := h _ m
    rcases ih with rfl | i
    · exact .inr this
    · exact .inr (Nat.lt_trans i this)
theorem Lead.trans {as : List Ar} {x y z : Nd} (h : Lead as x y) (g : Lead as y z) : Lead as x z := by
  induction g with
  | refl => exact h
  | snoc _ m ih => exact .snoc ih m
theorem Lead.cons {as : List Ar} {x y z : Nd} (m : (x, y) ∈ as) (g : Lead as y z) : Lead as x z := (Lead.snoc (.refl x) m).trans g
/-! ### bounds -/
theorem nd_sm {nd : Nd} (h : Nm nd.2) : Sm 8 1 42 (ndD nd) := by
  refine sm_tuple (ds := [.str (ndW nd.1), .str nd.2]) (W := 20) (mem2 (.str ?_) (.str h)) 2 (Nat.le_refl 2) 42 (by decide)
  cases nd.1 <;> exact ⟨by decide +kernel, by decide +kernel⟩
theorem ar_sm {a : Ar} (h1 : Nm a.1.2) (h2 : Nm a.2.2) : Sm 8 2 86 (arD a) := sm_tuple (ds := [ndD a.1, ndD a.2]) (W := 42) (mem2 (nd_sm h1) (nd_sm h2)) 2 (Nat.le_refl 2) 86 (by decide)
theorem nds_sm {l : List Nd} (h : ∀ z ∈ l, Nm z.2) (few : l.length ≤ 100) : Sm 8 2 4300 (.tuple (l.map ndD)) := sm_tuple (W := 42) (fun x hx => by
  obtain ⟨z, hz, rfl⟩ := List.mem_map.mp hx
  exact nd_sm (h z hz)) 100 (by rw [List.length_map]; exact few) 4300 (by decide)
theorem ndsL_sm {l : List Nd} (h : ∀ z ∈ l, Nm z.2) (few : l.length ≤ 100) : Sm 8 2 4300 (.list (l.map ndD)) := sm_list (W := 42) (fun x hx => by
  obtain ⟨z, hz, rfl⟩ := List.mem_map.mp hx
  exact nd_sm (h z hz)) 100 (by rw [List.length_map]; exact few) 4300 (by decide)
theorem ars_sm {l : List Ar} (h : ∀ a ∈ l, Nm a.1.2 ∧ Nm a.2.2) (few : l.length ≤ 100) : Sm 8 3 8700 (.tuple (l.map arD)) := sm_tuple (W := 86) (fun x hx => by
  obtain ⟨z, hz, rfl⟩ := List.mem_map.mp hx
  exact ar_sm (h z hz).1 (h z hz).2) 100 (by rw [List.length_map]; exact few) 8700 (by decide)
theorem arsL_sm {l : List Ar} (h : ∀ a ∈ l, Nm a.1.2 ∧ Nm a.2.2) (few : l.length ≤ 100) : Sm 8 3 8700 (.list (l.map arD)) := sm_list (W := 86) (fun x hx => by
  obtain ⟨z, hz, rfl⟩ := List.mem_map.mp hx
  exact ar_sm (h z hz).1 (h z hz).2) 100 (by rw [List.length_map]; exact few) 8700 (by decide)
/-! ### charts -/
def arsR (K : PySem.W.Frag) (as : List Ar) : Rel := dat K (.tuple (as.map arD))
abbrev Cht := Qs × List Ar × List Ar
def chartR (K : PySem.W.Frag) (CF CC : Addr) (c : Cht) : Rel := insR CC [("form", formR K CF c.1), ("arrows", dat K (.tuple (c.2.1.map arD))), ("bows", dat K (.tuple (c.2.2.map arD)))]
instance {K : PySem.W.Frag} {CF CC : Addr} {c : Cht} : Mo (chartR K CF CC c) := by unfold chartR; infer_instance
/-- forms as they are drawn here -/
structure FmOk (qs : Qs) : Prop where
  few : qs.length ≤ 8
  two : ∀ q ∈ qs, 2 ≤ q.2 ∧ q.2 ≤ 9
  nm : ∀ z ∈ names qs, NmL 1 8 z
  asc : (names qs).Pairwise Sl
theorem NmL.nm {m : Nat} {z : Str} (h : NmL m 8 z) : Nm z := h.nmk.mono (by decide)
theorem names_len (qs : Qs) : (names qs).length = qs.length := List.length_map _
theorem FmOk.nd {qs : Qs} (h : FmOk qs) {x : Nd} (hx : x ∈ nodesL (names qs)) : Nm x.2 := NmL.nm (h.nm _ (nodes_mem.mp hx))
theorem FmOk.nlen {qs : Qs} (h : FmOk qs) : (nodesL (names qs)).length ≤ 16 := by
  have := h.few
  rw [nodes_len, names_len]
  omega
def turn (as : List Ar) : List Ar := as.map fun a => (a.2, a.1)
/-- what is drawn as arrows and bows -/
structure LnOk (ns : List Str) (as bs : List Ar) : Prop where
  aasc : Asc arD as
  basc : Asc arD bs
  amem : ∀ a ∈ as, a.1 ∈ nodesL ns ∧ a.2 ∈ nodesL ns
  bmem : ∀ a ∈ bs, a.1 ∈ nodesL ns ∧ a.2 ∈ nodesL ns
  afw : ∀ a ∈ as, a.1.1 = true → a.2.1 = true
  rank : ∃ rk : Nd → Nat, ∀ a ∈ as, rk a.1 < rk a.2
  blt : ∀ a ∈ bs, PySem.W.dataLt (ndD a.1) (ndD a.2) = true
section
variable {P : Program} {w : World} {K : PySem.W.Frag} {mg : Str → Option Value} {base : Heap} {C_Form C_Chart : Addr} {σ : L2.St} {B : Hp} {te : TE} {c : Cht}
theorem fldFm (k : CalC P w K mg base "Chart" C_Chart ["form", "arrows", "bows"]) (h : De te σ B (chartR K C_Form C_Chart c)) : De (tFld K te "form") σ B (formR K C_Form c.1) := De.fld h k.c (k.na "form" (by simp)) rfl
theorem fldAr (k : CalC P w K mg base "Chart" C_Chart ["form", "arrows", "bows"]) (h : De te σ B (chartR K C_Form C_Chart c)) : De (tFld K te "arrows") σ B (dat K (.tuple (c.2.1.map arD))) := De.fld h k.c (k.na "arrows" (by simp)) rfl
theorem fldBw (k : CalC P w K mg base "Chart" C_Chart ["form", "arrows", "bows"]) (h : De te σ B (chartR K C_Form C_Chart c)) : De (tFld K te "bows") σ B (dat K (.tuple (c.2.2.map arD))) := De.fld h k.c (k.na "bows" (by simp)) rfl
/-- sorted(set(xs)) of such things -/
theorem De.setO {α : Type} [DecidableEq α] {dt : α → PyData} {κ : α → NestedKey} (k : Kd dt κ) {l : List α} (h : De te σ B (dat K (.list (l.map dt)))) (few : l.length < 64) :
    De (tCB (rSortedS K P w) (tCons (tCB (rSetN K P w) (tCons te tNil)) tNil)) σ B (dat K (.list ((Ch.setO dt l).map dt))) := by
  have e : ∀ l : List α, (l.map fun a => (κ a).data) = l.map dt := fun l => List.map_congr_left fun a _ => k.dat a
  refine De.eq (De.sortedS (κ := κ) (as := l) (out := Ch.setO dt l) k.inj (De.set (De.eq h (by rw [List.map_map]; exact congrArg PyData.list (e l).symm)) (fun x hx => ?_) (by rw [List.length_map]; exact few)) (fun a _ => k.tup a) (fun a _ b _ => by rw [k.dat, k.dat]; exact k.al a b) ?_ (fun a => setO_mem dt l a)) (congrArg PyData.list (e _))
  · obtain ⟨a, _, rfl⟩ := List.mem_map.mp hx
    exact ⟨k.tup a, k.dep a⟩
  · have : (fun a => (κ a).data) = dt := funext k.dat
    rw [this]
    exact setO_asc k l
end
end Ch

set_option Elab.async false
set_option linter.all false
set_option maxRecDepth 100000
set_option maxHeartbeats 4000000
/-! Wn5: sorted(d.keys()), d a dict whose keys are tuples of any depth. -/
namespace Wb
open PySem PySem.Spec PyProof.Rows L2
section
variable {X : Cx} {pins : List (Addr × Obj)} {σ : L2.St} {H : Hp} {s : Shared}
theorem meets_keysT {prog : Program} {w : World} (d : Addr) (hd : (d == sysModules) = false) :
    MeetsIn prog w (Builtin.«dict.keys» ⟨[.ref d], []⟩) (fun _ R s => s.TypeIs (.ref d) "dict" ∧
      R (.ok (.ret (.ref s.heap.objs.size))) { s with heap := s.heap.push { cls := .type "dict_keys", data := .fields #[.ref d] } }) :=
  .of_wp fun A R s ⟨ht, h⟩ => by
    refine wpAny_bind ?_
    unfold Builtin.Dict.noArgs
    refine wpAny_bind (wpAny_notOrdered_dict ht ?_)
    show wpAny _ _ (pure d) _ _ s
    refine wpAny_pure ?_
    show wpAny _ _ (Builtin.Dict.showsAll d >>= _) _ _ s
    unfold Builtin.Dict.showsAll
    rw [if_neg (by rw [hd]; exact Bool.false_ne_true)]
    refine wpAny_bind (wpAny_pure ?_)
    exact wpAny_bind (wpAny_newObj_type (wpAny_pure ⟨_, rfl, h⟩))
theorem sorted_keysN {d r : Addr} {kvs : List Nen} {Q : VK} (hc : X.calm = true) (hu : X.A.units + 64 < cLine) (I : Inv X pins σ H s) (hd : H d = some (NdiO X.prog X.w d kvs)) (hka : NksAt X.K H kvs) (htu : ∀ e ∈ kvs, ∃ ks, e.1 = .tup ks) (hal : PySem.W.AllAlike (kvs.map fun kv => kv.1.data))
    (hv : PySem.W.KdlKeysView s.heap r d) (q : ∀ p, H p = none → Q (.ref p) (upd H p (.lst (sortV (kvs.map fun e => V.ref e.2.1) (kvs.map fun kv => kv.1.data))))) :
    wpAny (model X.prog X.w) X.A (call (.builtin "sorted") [.ref r]) (EP X pins σ Q) X.xe s := by
  obtain ⟨z, hs, ks, pr, o, es, ep, ho, hx, hdt, he, hn⟩ := (I.hok d _ hd).1
  have l1 : es.size = ks.length := size_of_entries he
  have l2 : kvs.length = ks.length := Paired.length pr
  refine PySem.W.sorted_src (PySem.KdlSrc.rawKeys (r := r) (d := d) (es := es) (ep := ep)) (I.ok.hd hc) ⟨hv, o, ho, hx, hdt⟩ (by omega) fun h' tk acc kp it => ?_
  have ea : acc.toList = ks.map fun x => Value.ref x.2.1 := by
    have hl : acc.toList.length = ks.length := by rw [Array.length_toList, it.1]; exact l1
    apply List.ext_getElem?
    intro j
    rw [List.getElem?_map]
    cases hj : acc.toList[j]? with
    | none =>
      have h1 := List.getElem?_eq_none_iff.mp hj
      rw [List.getElem?_eq_none (by omega)]
      all_goals rfl
    | some v =>
      obtain ⟨hi, hv⟩ := it.2 j v (by rw [← Array.getElem?_toList]; exact hj)
      have hen : es[j]? = some es[j] := Array.getElem?_eq_getElem hi
      generalize es[j] = en at hen hv
      have qe := entry_at he j
      rw [hen] at qe
      cases hb : ks[j]? with
      | none =>
        rw [hb] at qe
        exact nomatch (show some en = none from qe)
      | some b =>
        rw [hb] at qe
        have e2 : en = entryOfKey (NK X.prog X.w) b := Option.some.inj qe
        rw [hv, e2]
        all_goals rfl
  have eb : acc.toList = (ks.map fun x => x.2.1).map Value.ref := by rw [ea, List.map_map]; all_goals rfl
  have rv : Vals ((ks.map fun x => x.2.1).map V.ref) acc.toList := by rw [eb]; exact vals_refs _
  have ik : ks.map (fun x => x.2.1) = kvs.map fun e => e.2.1 := nv_addrs pr
  rw [ik] at eb rv
  generalize hbs : kvs.map (fun e => e.2.1) = bs at eb rv
  have hbs' : bs.map V.ref = kvs.map fun e => V.ref e.2.1 := by rw [← hbs, List.map_map]; rfl
  have hdp : DpAll X.K H (bs.map V.ref) (kvs.map fun kv => kv.1.data) := by rw [hbs']; exact dp_nens hka
  have len := dpAll_len hdp
  have em : ((bs.map V.ref).zip (kvs.map fun kv => kv.1.data)).map Prod.snd = kvs.map fun kv => kv.1.data := zip_snd len
  have I1 : Inv X pins σ H { s with heap := h', toks := tk } := I.kept kp
  have e := each_pairs I1 rv hdp
  have hoL : (h'.push (seqObj "list" acc.toList.toArray 0)).get? h'.objs.size = some (seqObj "list" acc.toList.toArray 0) := Heap.get?_push_size _ rfl
  have old : ∀ b u, h'.get? b = some u → (PySem.W.sortingHeap (h'.push (seqObj "list" acc.toList.toArray 0)) h'.objs.size acc.toList).get? b = some u := fun b u hb =>
    PySem.W.sortingHeap_old (Nat.ne_of_lt (Heap.lt_size hb)) (Heap.get?_push_of_some _ hb)
  have er : PySem.W.EachIs (fun (v : Value) (b : V × PyData) => ∃ as, Reads (PySem.W.sortingHeap (h'.push (seqObj "list" acc.toList.toArray 0)) h'.objs.size acc.toList) v b.2 as) acc.toList ((bs.map V.ref).zip (kvs.map fun kv => kv.1.data)) :=
    e.mono fun v b h => by
      obtain ⟨as, rr⟩ := Dp.reads I1 b.2 b.1 v h.2 h.1
      exact ⟨as, PyProof.Rows.Reads.keeps old rr⟩
  refine ⟨((bs.map V.ref).zip (kvs.map fun kv => kv.1.data)).map Prod.snd, PySem.W.SortsAt.ok (PySem.W.each_map (R := fun v d => ∃ as, Reads (PySem.W.sortingHeap (h'.push (seqObj "list" acc.toList.toArray 0)) h'.objs.size acc.toList) v d as) Prod.snd er) (by rw [em]; exact hal) (.inl ?_) (PySem.W.bound_map ?_), ?_⟩
  · intro d hd
    rw [em] at hd
    obtain ⟨kv, hm, rfl⟩ := List.mem_map.mp hd
    obtain ⟨ks, ek⟩ := htu kv hm
    rw [ek]
    exact ⟨_, rfl⟩
  · intro b hb
    have hb := (List.of_mem_zip hb).2
    obtain ⟨kv, hm, e⟩ := List.mem_map.mp hb
    have := depth_data kv.1
    have := (hka kv hm).2
    rw [← e]
    show X.A.units + 1 + 1 + (kv.1.data).depth < cLine
    omega
  · have eo := PySem.W.sortVals_data false e er (by rw [em]; exact hal)
    obtain ⟨o1, o2⟩ := pairs_out eo
    obtain ⟨c, hcc⟩ := PyProof.Rows.sortedHeap_at (vs := acc.toList) (out := (PySem.W.sortVals (PySem.W.dataKind (PySem.W.sortingHeap (h'.push (seqObj "list" acc.toList.toArray 0)) h'.objs.size acc.toList) (((bs.map V.ref).zip (kvs.map fun kv => kv.1.data)).map Prod.snd)) false acc.toList acc.toList).toArray) hoL
    have ln : (sortV (bs.map V.ref) (kvs.map fun kv : Nen => kv.1.data)).length ≤ sizeLine := by
      unfold sortV
      rw [List.length_map, List.length_mergeSort, List.length_zip, len, Nat.min_self, List.length_map]
      omega
    have o1 : Vals (sortV (bs.map V.ref) (kvs.map fun kv : Nen => kv.1.data)) _ := o1
    refine ⟨.ref h'.objs.size, upd H h'.objs.size (.lst (sortV (bs.map V.ref) (kvs.map fun kv : Nen => kv.1.data))), I1.laid (t' := tk) (fun b u e => ?_) (Nat.le_refl _) ⟨ln, _, c, o1, hcc⟩, rfl, hbs' ▸ q _ (I1.hok.fresh (Nat.le_refl _))⟩
    have hlt := Heap.lt_size e
    rw [PyProof.Rows.sortedHeap_old (Nat.ne_of_lt hlt) (by rw [size_push']; exact Nat.lt_succ_of_lt hlt)]
    exact Heap.get?_push_of_some _ e
theorem pe_sortedK {x : Str} {o : Expr} {p cpos pos apos : Pos} {td : TE} (hc : X.calm = true) (hu : X.A.units + 64 < cLine) (hg : Gl X x) (hm : X.mg x = none) (hv : bootBuiltins x = some (.builtin "sorted")) (ho : PE X o td) (hn : x ≠ "__name__" := by decide) (hdb : (x == ("__debug__" : Str)) = false := by decide)
    (hbase : attributeBase o "keys" X.env (eval o X.env) = eval o X.env := by rfl) (hline : (apos.endLine == cpos.line) = true := by rfl)
    (he : starEach [.Call (.Attribute o "keys" apos) [] [] cpos] X.env = (false, eval (.Call (.Attribute o "keys" apos) [] [] cpos) X.env) :: starEach [] X.env := by rfl) (hpl : (backTo pos (starEach [] X.env)).any (·.1) = false := by rfl) :
    PE X (.Call (.Name x p) [.Call (.Attribute o "keys" apos) [] [] cpos] [] pos) (tCB (rSortedN X.K X.prog X.w) (tCons td tNil)) := by
  refine ⟨fun pins s σ H Q I h => ?_⟩
  refine wpAny_Call_Name_kw (ld_blt I hg hm hv ?_ hn hdb)
  refine PyProof.Rows.callWith_builtin1 ?_ he hpl
  rw [he]
  show wpAny _ _ (spliced ((false, eval _ X.env) :: backTo pos (starEach [] X.env))) _ _ s
  refine Calls.spliced_cons ?_
  refine wpAny_Call_method (T := "dict") (id := "dict.keys") hbase rfl hline F.plainAttrs_dict F.slot_dict_keys F.type_dict_keys (thn (ho.run pins s σ H _ I h) fun u s1 ⟨v, H1, I1, rx, d, kvs, ev, hd, hka, htu, hal, q⟩ => ?_)
  obtain rfl : v = V.ref d := by injection ev
  obtain rfl : u = Value.ref d := rx
  obtain ⟨t1, t2, t3⟩ := n_isD I1 hd
  refine ⟨t1, t2, ?_⟩
  have I2 : Inv X pins σ H1 { s1 with heap := s1.heap.push { cls := .type "dict_keys", data := .fields #[.ref d] } } := I1.kept (t' := s1.toks) fun b ob q => Heap.get?_push_of_some _ q
  show wpAny _ _ (callWith cpos (.builtin "dict.keys") [.ref d] [] []) _ X.xe s1
  exact method_meetsIn F.slot_dict_keys F.entry_dict_keys rfl (PySem.evalArgs_none ⟨rfl, t1, F.args_dict_keys_1 _, _, meets_keysT d t3, t1, Calls.spliced_nil (sorted_keysN hc hu I2 hd hka htu hal ⟨_, Heap.get?_push_size _ rfl, rfl, rfl⟩ q)⟩)
end
end Wb

set_option Elab.async false
set_option linter.all false
set_option maxRecDepth 100000
set_option maxHeartbeats 1000000
/-! Od1: sums of sums; fractions over one bottom. -/
namespace Fq
open PySem PySem.Spec PyProof.Rows L2 Wb Wv Fm Wf
theorem eqv_of_two {x y : PyData} (al : PySem.W.alike x y = true) (h1 : PySem.W.dataLt x y = false) (h2 : PySem.W.dataLt y x = false) : PyData.eqv x y = true := by
  cases h : PyData.eqv x y with
  | true => rfl
  | false =>
    have t := lex_total (O := itemOrd) _ _ h1 h2
    have := (PySem.W.toks_eqv x y al).2 h [] [.inl 0]
    rw [t, PySem.W.lex_pre, lex_irrefl] at this
    cases this
theorem asc_of_sort {α : Type} {dt : α → PyData} (al : ∀ a b, PySem.W.alike (dt a) (dt b) = true) (inj : ∀ a b, PyData.eqv (dt a) (dt b) = true → a = b) {l : List α} (nd : l.Nodup) : Asc dt (l.mergeSort fun a b => dle (dt a) (dt b)) := by
  have p := List.pairwise_mergeSort (le := fun a b => dle (dt a) (dt b)) (fun a b c => dle_trans) (fun a b => dle_total _ _) l
  have n : (l.mergeSort fun a b => dle (dt a) (dt b)).Nodup := (List.mergeSort_perm _ _).nodup_iff.mpr nd
  refine (List.Pairwise.and p n).imp fun {a b} ⟨h1, h2⟩ => ?_
  cases h : PySem.W.dataLt (dt a) (dt b) with
  | true => rfl
  | false =>
    have h1 : (!PySem.W.dataLt (dt b) (dt a)) = true := h1
    exact absurd (inj a b (eqv_of_two (al a b) h (by simpa using h1))) h2
theorem sumR_app : ∀ a b : List Rat, sumR (a ++ b) = sumR a + sumR b
  | [], b => by show sumR b = 0 + sumR b; rw [Rat.zero_add]
  | x :: a, b => by show x + sumR (a ++ b) = x + sumR a + sumR b; rw [sumR_app a b, Rat.add_assoc]
theorem div_add {a b S : Int} (h : S ≠ 0) : Rat.divInt a S + Rat.divInt b S = Rat.divInt (a + b) S := by
  rw [Rat.divInt_add_divInt _ _ h h, ← Int.add_mul, Rat.divInt_mul_right h]
/-- a fraction over one bottom -/
def Dv (D : Int) (q : Rat) : Prop := ∃ n : Int, q = Rat.divInt n D
theorem Dv.add {D : Int} (h : D ≠ 0) {p q : Rat} (a : Dv D p) (b : Dv D q) : Dv D (p + q) := by
  obtain ⟨n, rfl⟩ := a
  obtain ⟨m, rfl⟩ := b
  exact ⟨n + m, div_add h⟩
theorem Dv.zero (D : Int) : Dv D 0 := ⟨0, (Rat.zero_divInt _).symm⟩
theorem Dv.sum {D : Int} (h : D ≠ 0) : ∀ {l : List Rat}, (∀ q ∈ l, Dv D q) → Dv D (sumR l)
  | [], _ => Dv.zero D
  | q :: l, hl => Dv.add h (hl q List.mem_cons_self) (Dv.sum h fun r hr => hl r (List.mem_cons_of_mem _ hr))
theorem Dv.mul {D D' : Int} {p q : Rat} (a : Dv D p) (b : Dv D' q) : Dv (D * D') (p * q) := by
  obtain ⟨n, rfl⟩ := a
  obtain ⟨m, rfl⟩ := b
  exact ⟨n * m, Rat.divInt_mul_divInt _ _⟩
theorem Dv.more {D D' : Int} (h : D' ≠ 0) {p : Rat} (a : Dv D p) : Dv (D * D') p := by
  obtain ⟨n, rfl⟩ := a
  exact ⟨n * D', (Rat.divInt_mul_right h).symm⟩
theorem Dv.more' {D D' : Int} (h : D' ≠ 0) {p : Rat} (a : Dv D p) : Dv (D' * D) p := by
  rw [Int.mul_comm]
  exact a.more h
theorem Dv.sub {D : Int} (h : D ≠ 0) {p q : Rat} (a : Dv D p) (b : Dv D q) : Dv D (p - q) := by
  obtain ⟨n, rfl⟩ := a
  obtain ⟨m, rfl⟩ := b
  refine ⟨n - m, ?_⟩
  have e : Rat.divInt n D = Rat.divInt (n - m) D + Rat.divInt m D := by
    rw [div_add h]
    congr 1
    omega
  rw [e]
  grind
theorem Dv.sz {D : Int} {k : Nat} {q : Rat} (h : Dv D q) (D0 : 0 < D) (Dk : D.natAbs < 2 ^ k) (q0 : 0 ≤ q) (q1 : q ≤ 1) : Sz k q := by
  obtain ⟨n, rfl⟩ := h
  have n0 : 0 ≤ n := (Rat.divInt_nonneg_iff_of_pos_right D0).mp q0
  have n1 : n ≤ D := by
    have e : Rat.divInt D D = 1 := by
      have := Rat.divInt_mul_right (n := 1) (d := 1) (show D ≠ 0 by omega)
      rw [Int.one_mul] at this
      rw [this]
      rfl
    have a := div_add (a := n) (b := D - n) (S := D) (by omega)
    rw [show n + (D - n) = D by omega, e] at a
    have : 0 ≤ Rat.divInt (D - n) D := by grind
    have := (Rat.divInt_nonneg_iff_of_pos_right D0).mp this
    omega
  exact sz_divInt (by omega) (by omega) Dk
section
variable {α β : Type} {dt : α → PyData} {dt2 : β → PyData}
theorem asc_ext {l l' : List α} (h : Asc dt l) (h' : Asc dt l') (m : ∀ a, a ∈ l ↔ a ∈ l') : l = l' := by
  have p : l.Perm l' := (List.perm_ext_iff_of_nodup (asc_nodup h) (asc_nodup h')).mpr m
  exact List.Perm.eq_of_pairwise (le := fun a b => dle (dt a) (dt b) = true) (fun a b ha hb h1 h2 => asc_two h ha ((m b).mpr hb) h1 h2) (asc_le h) (asc_le h') p
variable [DecidableEq α] [DecidableEq β]
theorem sumG_out {ps : List (α × Rat)} {a : α} (h : a ∉ ps.map (·.1)) : sumG ps a = 0 := by
  unfold sumG
  rw [List.filter_eq_nil_iff.mpr fun p hp => by simpa using fun e : p.1 = a => h (List.mem_map.mpr ⟨p, hp, e⟩)]
  rfl
theorem sumsG_val {ps : List (α × Rat)} {p : α × Rat} (h : p ∈ sumsG dt ps) : p.2 = sumG ps p.1 ∧ p.2 ≠ 0 ∧ p.1 ∈ ps.map (·.1) := by
  unfold sumsG at h
  obtain ⟨h1, h2⟩ := List.mem_filter.mp h
  obtain ⟨a, ha, rfl⟩ := List.mem_map.mp h1
  exact ⟨rfl, of_decide_eq_true h2, (firsts_mem _ _).mp ((List.mergeSort_perm _ _).mem_iff.mp ha)⟩
theorem sumsG_mem {ps : List (α × Rat)} {a : α} : a ∈ (sumsG dt ps).map (·.1) ↔ sumG ps a ≠ 0 := by
  constructor
  · intro h
    obtain ⟨p, hp, rfl⟩ := List.mem_map.mp h
    obtain ⟨e, n, _⟩ := sumsG_val hp
    rw [← e]
    exact n
  · intro h
    have k : a ∈ ps.map (·.1) := Classical.byContradiction fun z => h (sumG_out z)
    refine List.mem_map.mpr ⟨(a, sumG ps a), ?_, rfl⟩
    unfold sumsG
    exact List.mem_filter.mpr ⟨List.mem_map.mpr ⟨a, (List.mergeSort_perm _ _).mem_iff.mpr ((firsts_mem _ _).mpr k), rfl⟩, decide_eq_true h⟩
theorem sumsG_asc (al : ∀ a b, PySem.W.alike (dt a) (dt b) = true) (inj : ∀ a b, PyData.eqv (dt a) (dt b) = true → a = b) (ps : List (α × Rat)) : Asc dt ((sumsG dt ps).map (·.1)) := by
  have := asc_of_sort (dt := dt) al inj (firsts_nodup (ps.map (·.1)))
  refine List.Pairwise.sublist ?_ this
  unfold sumsG
  have e : (((firsts (ps.map (·.1))).mergeSort fun a b => dle (dt a) (dt b)).map fun a => (a, sumG ps a)).map (·.1) = (firsts (ps.map (·.1))).mergeSort fun a b => dle (dt a) (dt b) := by
    rw [List.map_map]
    exact List.map_id _
  have s := (List.filter_sublist (p := fun p : α × Rat => decide (p.2 ≠ 0)) (l := ((firsts (ps.map (·.1))).mergeSort fun a b => dle (dt a) (dt b)).map fun a => (a, sumG ps a))).map (·.1)
  rw [e] at s
  exact s
theorem sumsG_form (ps : List (α × Rat)) : sumsG dt ps = ((sumsG dt ps).map (·.1)).map fun a => (a, sumG ps a) := by
  rw [List.map_map]
  exact (List.map_id _).symm.trans (List.map_congr_left fun p hp => Prod.ext rfl (sumsG_val hp).1)
theorem sumsG_ext (al : ∀ a b, PySem.W.alike (dt a) (dt b) = true) (inj : ∀ a b, PyData.eqv (dt a) (dt b) = true → a = b) {ps qs : List (α × Rat)} (h : ∀ a, sumG ps a = sumG qs a) : sumsG dt ps = sumsG dt qs := by
  rw [sumsG_form ps, sumsG_form qs, asc_ext (sumsG_asc al inj ps) (sumsG_asc al inj qs) fun a => by rw [sumsG_mem, sumsG_mem, h a]]
  exact List.map_congr_left fun a _ => by rw [h a]
theorem sumG_app (a b : List (α × Rat)) (k : α) : sumG (a ++ b) k = sumG a k + sumG b k := by
  unfold sumG
  rw [List.filter_append, List.map_append, sumR_app]
theorem sumG_perm {a b : List (α × Rat)} (h : a.Perm b) (k : α) : sumG a k = sumG b k := sumR_perm ((h.filter _).map _)
theorem sumG_mulW (w : α → Rat) (a : α) : ∀ ps : List (α × Rat), sumG (ps.map fun p => (p.1, w p.1 * p.2)) a = w a * sumG ps a
  | [] => by show (0 : Rat) = w a * 0; rw [Rat.mul_zero]
  | p :: ps => by
    rw [List.map_cons, sumG_cons, sumG_cons, sumG_mulW w a ps]
    show (if p.1 = a then w p.1 * p.2 else 0) + _ = _
    by_cases e : p.1 = a
    · rw [if_pos e, if_pos e, e, Rat.mul_add]
    · rw [if_neg e, if_neg e, Rat.mul_add, Rat.mul_zero]
theorem sumG_scale (r : Rat) (ps : List (α × Rat)) (a : α) : sumG (ps.map fun p => (p.1, p.2 * r)) a = sumG ps a * r := by
  have e : (ps.map fun p => (p.1, p.2 * r)) = ps.map fun p => (p.1, (fun _ => r) p.1 * p.2) := List.map_congr_left fun p _ => by rw [Rat.mul_comm]
  rw [e]
  exact (sumG_mulW (fun _ => r) a ps).trans (Rat.mul_comm _ _)
/-- weighed sums of what is summed by keys -/
theorem sum_w (w : α → Rat) (ps : List (α × Rat)) : sumR ((sumsG dt ps).map fun p => w p.1 * p.2) = sumR (ps.map fun p => w p.1 * p.2) := by
  have nz : ∀ l : List (α × Rat), sumR ((l.filter fun p => decide (p.2 ≠ 0)).map fun p => w p.1 * p.2) = sumR (l.map fun p => w p.1 * p.2) := fun l => by
    induction l with
    | nil => rfl
    | cons p l ih =>
      rw [List.map_cons]
      show _ = w p.1 * p.2 + sumR _
      rw [← ih]
      by_cases e : p.2 = 0
      · rw [List.filter_cons, if_neg (by simpa using e), e, Rat.mul_zero, Rat.zero_add]
      · rw [List.filter_cons, if_pos (decide_eq_true e)]
        rfl
  have pm : ((firsts (ps.map (·.1))).mergeSort fun a b => dle (dt a) (dt b)).Perm (firsts (ps.map (·.1))) := List.mergeSort_perm _ _
  unfold sumsG
  rw [nz, List.map_map]
  refine (sumR_perm (pm.map _)).trans ?_
  have e1 : (firsts (ps.map (·.1))).map ((fun p : α × Rat => w p.1 * p.2) ∘ fun a => (a, sumG ps a)) = (firsts (ps.map (·.1))).map (sumG (ps.map fun p => (p.1, w p.1 * p.2))) := List.map_congr_left fun a _ => (sumG_mulW w a ps).symm
  rw [e1]
  have := sum_keys (firsts_nodup (ps.map (·.1))) (ps := ps.map fun p => (p.1, w p.1 * p.2)) fun p hp => by
    obtain ⟨q, hq, rfl⟩ := List.mem_map.mp hp
    exact (firsts_mem _ _).mpr (List.mem_map.mpr ⟨q, hq, rfl⟩)
  rw [this, List.map_map]
  rfl
theorem sumG_w (f : α → β) (b : β) : ∀ ps : List (α × Rat), sumG (ps.map fun p => (f p.1, p.2)) b = sumR (ps.map fun p => (if f p.1 = b then (1 : Rat) else 0) * p.2)
  | [] => rfl
  | p :: ps => by
    rw [List.map_cons, sumG_cons, sumG_w f b ps]
    show _ = _ + sumR _
    congr 1
    show (if f p.1 = b then p.2 else 0) = (if f p.1 = b then (1 : Rat) else 0) * p.2
    by_cases e : f p.1 = b
    · rw [if_pos e, if_pos e, Rat.one_mul]
    · rw [if_neg e, if_neg e, Rat.zero_mul]
theorem sumG_sums (f : α → β) (b : β) (ps : List (α × Rat)) : sumG ((sumsG dt ps).map fun p => (f p.1, p.2)) b = sumG (ps.map fun p => (f p.1, p.2)) b := by
  rw [sumG_w, sumG_w]
  exact sum_w (fun a => if f a = b then (1 : Rat) else 0) ps
theorem sumG_idem (a : α) (ps : List (α × Rat)) : sumG (sumsG dt ps) a = sumG ps a := by
  have := sumG_sums (dt := dt) (fun a : α => a) a ps
  rwa [show (fun p : α × Rat => (p.1, p.2)) = id from rfl, List.map_id, List.map_id] at this
theorem sums_sums (al : ∀ a b, PySem.W.alike (dt2 a) (dt2 b) = true) (inj : ∀ a b, PyData.eqv (dt2 a) (dt2 b) = true → a = b) (f : α → β) (ps : List (α × Rat)) : sumsG dt2 ((sumsG dt ps).map fun p => (f p.1, p.2)) = sumsG dt2 (ps.map fun p => (f p.1, p.2)) :=
  sumsG_ext al inj fun b => sumG_sums f b ps
theorem sumR_nonneg : ∀ {l : List Rat}, (∀ q ∈ l, 0 ≤ q) → 0 ≤ sumR l
  | [], _ => Rat.le_refl
  | q :: l, h => by
    have a := h q List.mem_cons_self
    have b := sumR_nonneg fun r hr => h r (List.mem_cons_of_mem _ hr)
    show 0 ≤ q + sumR l
    grind
theorem sumR_sub_le : ∀ {l l' : List Rat}, l.Sublist l' → (∀ q ∈ l', 0 ≤ q) → sumR l ≤ sumR l' := by
  intro l l' h
  induction h with
  | slnil => exact fun _ => Rat.le_refl
  | @cons l1 l2 a _ ih =>
    intro hn
    have := ih fun q hq => hn q (List.mem_cons_of_mem _ hq)
    have := hn a List.mem_cons_self
    show _ ≤ a + sumR _
    grind
  | @cons_cons l1 l2 a _ ih =>
    intro hn
    have := ih fun q hq => hn q (List.mem_cons_of_mem _ hq)
    show a + sumR _ ≤ a + sumR _
    grind
/-- what sums by keys are -/
structure Part (D : Int) (q : Rat) : Prop where
  dv : Dv D q
  pos : 0 < q
  le : q ≤ 1
theorem Part.sz {D : Int} {k : Nat} {q : Rat} (h : Part D q) (D0 : 0 < D) (Dk : D.natAbs < 2 ^ k) : Sz k q := h.dv.sz D0 Dk (by have := h.pos; grind) h.le
theorem sumG_part {ps : List (α × Rat)} {D : Int} (D0 : D ≠ 0) (dv : ∀ p ∈ ps, Dv D p.2) (nn : ∀ p ∈ ps, 0 ≤ p.2) (le : sumR (ps.map (·.2)) ≤ 1) (a : α) : Dv D (sumG ps a) ∧ 0 ≤ sumG ps a ∧ sumG ps a ≤ 1 := by
  have mem : ∀ q ∈ (ps.filter fun q => decide (q.1 = a)).map (·.2), ∃ p ∈ ps, p.2 = q := fun q hq => by
    obtain ⟨p, hp, rfl⟩ := List.mem_map.mp hq
    exact ⟨p, (List.mem_filter.mp hp).1, rfl⟩
  refine ⟨Dv.sum D0 fun q hq => ?_, sumR_nonneg fun q hq => ?_, ?_⟩
  · obtain ⟨p, hp, rfl⟩ := mem q hq
    exact dv p hp
  · obtain ⟨p, hp, rfl⟩ := mem q hq
    exact nn p hp
  · have := sumR_sub_le ((List.filter_sublist (p := fun q : α × Rat => decide (q.1 = a)) (l := ps)).map (·.2)) fun q hq => by
      obtain ⟨p, hp, rfl⟩ := List.mem_map.mp hq
      exact nn p hp
    unfold sumG
    grind
theorem sumsG_part {ps : List (α × Rat)} {D : Int} (D0 : D ≠ 0) (dv : ∀ p ∈ ps, Dv D p.2) (nn : ∀ p ∈ ps, 0 ≤ p.2) (le : sumR (ps.map (·.2)) ≤ 1) : ∀ p ∈ sumsG dt ps, Part D p.2 := fun p hp => by
  obtain ⟨e, n, _⟩ := sumsG_val hp
  obtain ⟨h1, h2, h3⟩ := sumG_part D0 dv nn le p.1
  rw [← e] at h1 h2 h3
  refine ⟨h1, ?_, h3⟩
  grind
end
end Fq

set_option Elab.async false
set_option linter.all false
set_option maxRecDepth 100000
set_option maxHeartbeats 4000000
/-! Wn6: fractions summed in a dict by keys of any depth. -/
namespace Wv
open PySem PySem.Spec PyProof.Rows L2 Wb Fq Wf
def putH (hs : List (NestedKey × PyData)) (k : NestedKey) (x : PyData) : List (NestedKey × PyData) := if k ∈ hs.map (·.1) then hs.map (fun p => if p.1 = k then (p.1, x) else p) else hs ++ [(k, x)]
theorem atN_isSome (k : NestedKey) : ∀ l : List Nen, (atN l k).isSome = decide (k ∈ l.map (·.1))
  | [] => rfl
  | p :: l => by
    have ih := atN_isSome k l
    unfold atN at ih ⊢
    rw [List.find?_cons]
    by_cases g : p.1 = k
    · simp [g]
    · have g' : ¬ k = p.1 := fun z => g z.symm
      simp only [g, decide_false, List.map_cons, List.mem_cons, g', false_or]
      exact ih
theorem EntR.snoc {K : PySem.W.Frag} {B : Hp} {l : List Nen} {hs : List (NestedKey × PyData)} (h : EntR K B l hs) {e : Nen} {p : NestedKey × PyData} (he : e.1 = p.1 ∧ dat K p.2 B e.2.2) : EntR K B (l ++ [e]) (hs ++ [p]) := by
  unfold EntR at *
  induction h with
  | nil => exact .cons he .nil
  | cons h t ih => exact .cons h ih
theorem EntR.put {K : PySem.W.Frag} {B : Hp} {l : List Nen} {hs : List (NestedKey × PyData)} (h : EntR K B l hs) {k : NestedKey} {b : Addr} {v : V} {x : PyData} (hx : dat K x B v) : EntR K B (putN l k b v) (putH hs k x) := by
  unfold putN putH
  rw [atN_isSome, h.keys]
  by_cases m : k ∈ hs.map (·.1)
  · rw [if_pos (decide_eq_true m), if_pos m]
    clear m
    unfold EntR at *
    induction h with
    | nil => exact .nil
    | @cons p q ps qs h t ih =>
      rw [List.map_cons, List.map_cons]
      refine .cons ?_ ih
      by_cases g : q.1 = k
      · have g' : p.1 = k := h.1.trans g
        rw [if_pos g, if_pos g']
        exact ⟨h.1, hx⟩
      · have g' : ¬ p.1 = k := fun z => g (h.1.symm.trans z)
        rw [if_neg g, if_neg g']
        exact h
  · rw [if_neg (by simpa using m), if_neg m]
    exact h.snoc ⟨rfl, hx⟩
theorem EntR.none_ {K : PySem.W.Frag} {B : Hp} {l : List Nen} {hs : List (NestedKey × PyData)} (h : EntR K B l hs) {k : NestedKey} (m : k ∉ hs.map (·.1)) : atN l k = none := by
  have := atN_isSome k l
  rw [h.keys, decide_eq_false m] at this
  cases q : atN l k with
  | none => rfl
  | some x => rw [q] at this; cases this
/-- the sums by keys -/
def sdict (ps : List KF) : List (NestedKey × PyData) := (firsts (ps.map (·.1))).map fun k => (k, frD (sumG ps k))
theorem sdict_keys (ps : List KF) : (sdict ps).map (·.1) = firsts (ps.map (·.1)) := by
  unfold sdict
  rw [List.map_map]
  exact List.map_id _
theorem firsts_snoc' {α : Type} [DecidableEq α] (l : List α) (a : α) : firsts (l ++ [a]) = if a ∈ firsts l then firsts l else firsts l ++ [a] := by
  unfold firsts
  rw [List.foldl_append]
  rfl
theorem sumG_snoc (ps : List KF) (p : KF) (k : NestedKey) : sumG (ps ++ [p]) k = sumG ps k + if p.1 = k then p.2 else 0 := by
  rw [sumG_app, sumG_cons]
  show _ + (_ + 0) = _
  rw [Rat.add_zero]
theorem sdict_put (ps : List KF) (k : NestedKey) (q : Rat) : putH (sdict ps) k (frD (sumG ps k + q)) = sdict (ps ++ [(k, q)]) := by
  unfold putH
  rw [sdict_keys]
  unfold sdict
  rw [List.map_append, List.map_cons, List.map_nil, firsts_snoc']
  by_cases m : k ∈ firsts (ps.map (·.1))
  · rw [if_pos m, if_pos m, List.map_map]
    refine List.map_congr_left fun a _ => ?_
    show (if a = k then (a, frD (sumG ps k + q)) else (a, frD (sumG ps a))) = (a, frD (sumG (ps ++ [(k, q)]) a))
    rw [sumG_snoc]
    by_cases g : a = k
    · subst g
      rw [if_pos rfl, if_pos rfl]
    · rw [if_neg g, if_neg (fun z : k = a => g z.symm), Rat.add_zero]
  · rw [if_neg m, if_neg m, List.map_append]
    congr 1
    · refine List.map_congr_left fun a ha => ?_
      rw [sumG_snoc, if_neg (fun z : k = a => m (z ▸ ha)), Rat.add_zero]
    · rw [List.map_cons, List.map_nil, sumG_snoc, if_pos rfl]
theorem sdict_at {ps : List KF} {k : NestedKey} (h : k ∈ firsts (ps.map (·.1))) : atHs (sdict ps) k = some (frD (sumG ps k)) := by
  unfold sdict
  generalize firsts (ps.map (·.1)) = l at h
  induction l with
  | nil => exact absurd h List.not_mem_nil
  | cons a l ih =>
    unfold atHs at ih ⊢
    rw [List.map_cons, List.find?_cons]
    by_cases g : a = k
    · simp [g]
    · simp only [g, decide_false]
      exact ih ((List.mem_cons.mp h).resolve_left fun z => g z.symm)
theorem sdict_len (ps : List KF) : (sdict ps).length ≤ ps.length := by
  unfold sdict
  rw [List.length_map]
  have := firsts_len (ps.map (·.1))
  rw [List.length_map] at this
  exact this
theorem EntR.len {K : PySem.W.Frag} {B : Hp} {l : List Nen} {hs : List (NestedKey × PyData)} (h : EntR K B l hs) : l.length = hs.length := by
  have := congrArg List.length h.keys
  rwa [List.length_map, List.length_map] at this
/-- d[k] = plus(d.get(k, (0, 1)), q) -/
theorem s_nsum {K : PySem.W.Frag} {P : Program} {w : World} {σ : L2.St} {B H : Hp} {Dd b : Addr} {l : List Nen} {ps : List KF} {D : Ends} {k : NestedKey} {z : V} {q : Rat} {i j m : Nat} {E : XK} {pre : Rat × Rat → Prop}
    (s : Same B H) (md : Hid B H Dd (NdiO P w Dd l)) (hk : NksAt K B l) (en : EntR K B l (sdict ps)) (hi : σ[i]? = some (some (.ref Dd))) (hj : σ[j]? = some (some (.ref b))) (hb : NkAt K B k b) (hm : σ[m]? = some (some z)) (hz : dat K (frD q) B z) (few : l.length < sizeLine) (hp : pre (sumG ps k, q))
    (kn : ∀ l' B' H', Ext B H B' H' → Hid B' H' Dd (NdiO P w Dd l) → NksAt K B' l' → EntR K B' l' (sdict (ps ++ [(k, q)])) → D.nx σ (upd H' Dd (NdiO P w Dd l'))) :
    sNPut K P w (tVar i) (tVar j) (tCall (Pf (fun a : Rat × Rat => [dat K (frD a.1), dat K (frD a.2)]) pre (fun a => dat K (frD (a.1 + a.2)))) [] E (tCons (tNGet2 K P w (tVar i) (tVar j) (tTup (tCons (tC (.int 0)) (tCons (tC (.int 1)) tNil)))) (tCons (tVar m) tNil))) D σ H := by
  refine ⟨.ref Dd, hi, Dd, l, rfl, md.at_, .ref b, hj, ?_⟩
  refine De.tupI (K := K) (i := 0) (j := 1) (.cons .int (.cons .int .nil)) B H (Same.refl _) s _ fun z0 B1 H1 e1 hz0 => ?_
  have hz0 : dat K (frD 0) B1 z0 := hz0
  have g1 : NdAt K P w H1 Dd b l k := ⟨(md.ext e1).at_, fun p hp => ((hk p hp).same e1.bb).same e1.bh, (hb.same e1.bb).same e1.bh⟩
  refine ⟨b, l, k, rfl, g1, z, hm, ?_⟩
  have en1 := en.mono e1.bb
  have hget : dat K (frD (sumG ps k)) B1 ((atN l k).getD z0) := by
    by_cases mk : k ∈ firsts (ps.map (·.1))
    · obtain ⟨x, hx, hd⟩ := en1.at_ (sdict_at mk)
      rw [hx]
      exact hd
    · rw [en1.none_ (by rw [sdict_keys]; exact mk)]
      have : sumG ps k = 0 := sumG_out fun h => mk ((firsts_mem _ _).mpr h)
      rw [this]
      exact hz0
  show Pf (fun a : Rat × Rat => [dat K (frD a.1), dat K (frD a.2)]) pre (fun a => dat K (frD (a.1 + a.2))) ([(atN l k).getD z0, z] ++ []) H1 _ E
  refine ⟨B1, (sumG ps k, q), e1.bh, ⟨_, _, rfl, hget, _, _, rfl, Mo.mo e1.bb hz, rfl⟩, hp, fun v B2 H2 e2 hv => ?_⟩
  have e12 := e1.trans e2
  have hv : dat K (frD (sumG ps k + q)) B2 v := hv
  refine ⟨.ref Dd, hi, .ref b, hj, Dd, b, l, k, rfl, rfl, ⟨(md.ext e12).at_, fun p hp => ((hk p hp).same e12.bb).same e12.bh, (hb.same e12.bb).same e12.bh⟩, few, ?_⟩
  have hk2 : NksAt K B2 l := fun p hp => (hk p hp).same e12.bb
  refine kn _ B2 H2 e12 (md.ext e12) (Wv.NksAt.put hk2 (hb.same e12.bb)) ?_
  rw [← sdict_put]
  exact (en.mono e12.bb).put hv
end Wv

set_option Elab.async false
set_option linter.all false
set_option maxRecDepth 100000
set_option maxHeartbeats 2000000
/-! Ch1: dicts that are made hidden; loops at a block's end; what is reached, step by step; orders. -/
namespace Ch
open PySem PySem.Spec PyProof.Rows L2 Wb Wv Fm Fq Sb St
theorem whileN {c : TT} {tb : TS} {D : Ends} {σ : L2.St} {H : Hp} (I : Nat → L2.St → Hp → Prop) (Ex : L2.St → Hp → Prop) (m0 : Nat) (h0 : I m0 σ H) (rest : ∀ σ H, Ex σ H → D.nx σ H)
    (step : ∀ m σ H, I m σ H → ∀ Y Z : Hp → Prop,
      (∀ H1, tb { D with nx := fun σ' H' => ∃ m', m' < m ∧ I m' σ' H', ct := fun σ' H' => ∃ m', m' < m ∧ I m' σ' H', bk := D.nx } σ H1 → Y H1) → (∀ H1, Ex σ H1 → Z H1) →
      c σ H fun b H1 => if b = true then Y H1 else Z H1) : tWhile c tb D σ H := by
  refine ⟨I, ⟨m0, h0⟩, fun m σ H hI => ?_⟩
  exact step m σ H hI _ _ (fun H1 q => ⟨_, fun σ' H' p => p, q⟩) (fun H1 e => rest σ H1 e)
/-- a for at a block's end -/
theorem s_forXE {σ : L2.St} {wi : TI} {g : TG} {ts : TS} {D : Ends} {Rs : List Rel} {B H B0 H0 : Hp} (e0 : Ext B0 H0 B H) (hi : Di wi σ B Rs) (Pv : Nat → L2.St → Hp → Hp → Prop) (h0 : ∀ B1 H1, Ext B H B1 H1 → Pv 0 σ B1 H1)
    (hs : ∀ B1 i R v σ' Bc Hc Bn Hn, Same B B1 → Rs[i]? = some R → Ext B0 H0 Bc Hc → Same B1 Bc → Pv i σ' Bc Hc → Ext Bc Hc Bn Hn → R Bn v → g v σ' Hn fun σ2 H2 => ts { D with nx := Nh B0 H0 B1 (Pv (i + 1)), ct := Nh B0 H0 B1 (Pv (i + 1)), bk := D.nx } σ2 H2)
    (hd : ∀ σ' B' H', Ext B0 H0 B' H' → Same B B' → Pv Rs.length σ' B' H' → D.nx σ' H') : tFor wi g ts D σ H :=
  s_forX (rest := fun D => D.nx) e0 hi Pv h0 hs hd
theorem s_forDE {wi : TI} {g : TG} {ts : TS} {D : Ends} {σ : L2.St} {d c : Addr} {Rs : List Rel} {B H B0 H0 : Hp} (L0 : Dl B0 H0 d c) (e0 : ExtD d c B0 H0 B H) (hi : Di wi σ B Rs) (Pv : Nat → L2.St → Hp → Hp → Prop) (h0 : ∀ B1 H1, ExtD d c B H B1 H1 → Pv 0 σ B1 H1)
    (hs : ∀ B1 i R v σ' Bc Hc Bn Hn, Same B B1 → Rs[i]? = some R → ExtD d c B0 H0 Bc Hc → Same B1 Bc → Pv i σ' Bc Hc → ExtD d c Bc Hc Bn Hn → R Bn v → g v σ' Hn fun σ2 H2 => ts { D with nx := Wv.Nd d c B0 H0 B1 (Pv (i + 1)), ct := Wv.Nd d c B0 H0 B1 (Pv (i + 1)), bk := D.nx } σ2 H2)
    (hd : ∀ σ' B' H', ExtD d c B0 H0 B' H' → Same B B' → Pv Rs.length σ' B' H' → D.nx σ' H') : tFor wi g ts D σ H :=
  s_forD (rest := fun D => D.nx) L0 e0 hi Pv h0 hs hd
section
variable {K : PySem.W.Frag} {P : Program} {w : World} {σ : L2.St} {B H : Hp} {te ta tk tv : TE} {tt : TT}
theorem keys_put {l : List Nen} {k : NestedKey} {b : Addr} {v : V} : (putN l k b v).map (·.1) = if k ∈ l.map (·.1) then l.map (·.1) else l.map (·.1) ++ [k] := by
  unfold putN
  rw [atN_isSome]
  by_cases m : k ∈ l.map (·.1)
  · rw [if_pos (decide_eq_true m), if_pos m, List.map_map]
    exact List.map_congr_left fun p _ => by show (if p.1 = k then _ else p).1 = p.1; split <;> rfl
  · rw [if_neg (by simpa using m), if_neg m, List.map_append]
    rfl
/-- {k(x): v(x) for x in xs}, the dict hidden -/
theorem c_dcH {α : Type} {as : List α} {r : α → Rel} {wi : TI} {g : TG} {vs : List Nat} {Q : VK} (key : α → NestedKey) (hB : Same B H) (hi : Di wi σ B (as.map r)) (few : as.length < sizeLine)
    (turn : ∀ a x Bn G, a ∈ as → Same B Bn → Same Bn G → r a Bn x → ∃ τ, (∀ Q : L2.St → Hp → Prop, Q τ G → g x (wipe σ vs) G Q) ∧ wipe τ vs = wipe σ vs ∧ Dt tt τ Bn true ∧ De tk τ Bn (nkR K (key a)) ∧ De tv τ Bn (dat K (.bool true)))
    (q : ∀ D l B' H', Ext B H B' H' → H D = none → Hid B' H' D (NdiO P w D l) → NksAt K B' l → l.length ≤ as.length → (l.map (·.1)).Nodup → (∀ k, k ∈ l.map (·.1) ↔ k ∈ as.map key) → Q (.ref D) H') : tDcN K P w wi g tt tk tv vs σ H Q :=
  hi B H (Same.refl _) hB _ fun J B2 H2 e hw => fun D hD => by
  have walk : Walk J as.length (fun G => Same B2 G) (fun i G x G' => ∃ R, (as.map r)[i]? = some R ∧ ∀ Bc, Same B2 Bc → Same Bc G → ∃ Bn, Ext Bc G Bn G' ∧ R Bn x) := by
    have z := hw
    unfold Wk at z
    rwa [List.length_map] at z
  let Pv : Nat → Hp → Prop := fun i G => ∃ B' l, Ext B2 H2 B' G ∧ Hid B' G D (NdiO P w D l) ∧ NksAt K B' l ∧ l.length ≤ i ∧ (l.map (·.1)).Nodup ∧ ∀ k, k ∈ l.map (·.1) ↔ k ∈ (as.take i).map key
  refine ⟨fun i m G => m = as.length - i ∧ i ≤ as.length ∧ Pv i G, ⟨as.length, (Nat.sub_zero _).symm, Nat.zero_le _, B2, [], .newH e.bh hD, .new e.bh hD, (fun p h => nomatch h), Nat.zero_le _, List.nodup_nil, fun k => by simp⟩, ?_⟩
  rintro i m G ⟨rfl, le, B', l, e', hid, hl, short, nd, has⟩
  have on : Same B2 G := e'.bb.trans e'.bh
  rcases Nat.lt_or_ge i as.length with lt | ge
  · refine .inr ⟨walk.goes i G lt on, Pv (i + 1), fun G' p => ⟨as.length - (i + 1), by omega, rfl, lt, p⟩, fun x G' y => ?_⟩
    obtain ⟨R, hR, z⟩ := walk.yields i G x G' lt on y
    obtain ⟨Bn, e2, hx⟩ := z B' e'.bb e'.bh
    rw [List.getElem?_map] at hR
    obtain ⟨a, ha, rfl⟩ := Option.map_eq_some_iff.mp hR
    obtain ⟨τ, t1, t2, t3, t4, t5⟩ := turn a x Bn G' (List.mem_of_getElem? ha) ((e.bb.trans e'.bb).trans e2.bb) e2.bh hx
    refine t1 _ ⟨t2, t3 Bn G' (Same.refl _) e2.bh _ fun B3 H3 e3 => ?_⟩
    refine t4 B3 H3 e3.bb e3.bh _ fun y4 B4 H4 e4 ⟨b, ey, hb⟩ => ?_
    subst ey
    refine t5 B4 H4 (e3.bb.trans e4.bb) e4.bh _ fun y5 B5 H5 e5 hv => ?_
    have e25 := ((e2.trans e3).trans e4).trans e5
    have hid5 := hid.ext e25
    have hl5 : NksAt K B5 l := fun p hp => (hl p hp).same e25.bb
    have hb5 := hb.same e5.bb
    refine ⟨l, key a, b, rfl, hid5.at_, fun p hp => (hl5 p hp).same e5.bh, hb5.same e5.bh, by omega, B5, putN l (key a) b y5, (e'.trans e25).setH hid5 hD, hid5.set, NksAt.put hl5 hb5, by have := len_putN l (key a) b y5; omega, ?_, fun k => ?_⟩
    · rw [keys_put]
      split
      · exact nd
      · rename_i m
        rw [List.nodup_append]
        refine ⟨nd, List.nodup_cons.mpr ⟨List.not_mem_nil, List.nodup_nil⟩, fun u hu v hv => ?_⟩
        rw [List.mem_singleton.mp hv]
        exact fun z => m (z ▸ hu)
    · rw [keys_put, List.take_succ, ha, List.map_append]
      show _ ↔ k ∈ (as.take i).map key ++ [key a]
      rw [List.mem_append, List.mem_singleton, ← has k]
      split
      · rename_i m
        exact ⟨.inl, fun z => z.elim id fun z => z ▸ m⟩
      · rw [List.mem_append, List.mem_singleton]
  · have : i = as.length := by omega
    subst this
    rw [List.take_length] at has
    exact .inl ⟨walk.stops G on, q D l B' G (e.trans e') (e.oldH hD) hid hl short nd has⟩
/-- tuple(sorted(d)), d a hidden dict -/
theorem ret_sortedN {α : Type} {dt : α → PyData} {κ : α → NestedKey} (kd : Kd dt κ) {D : Addr} {l : List Nen} {ks : List α} {i : Nat} {Q : VK} (hB : Same B H) (hσ : σ[i]? = some (some (.ref D))) (hid : Hid B H D (NdiO P w D l)) (hk : NksAt K B l) (ek : l.map (·.1) = ks.map κ)
    {out : List α} (asc : Asc dt out) (nd : ks.Nodup) (mem : ∀ a, a ∈ out ↔ a ∈ ks) (q : ∀ v B' H', Ext B H B' H' → dat K (.tuple (out.map dt)) B' v → Q v H') :
    tCB (rTup K) (tCons (tCB (rSortedN K P w) (tCons (tVar i) tNil)) tNil) σ H Q := by
  have hdat : (l.map fun kv => kv.1.data) = ks.map dt := by
    rw [show (l.map fun kv => kv.1.data) = (l.map (·.1)).map NestedKey.data by rw [List.map_map]; rfl, ek, List.map_map]
    exact List.map_congr_left fun a _ => kd.dat a
  refine ⟨.ref D, hσ, D, l, rfl, hid.at_, fun p hp => (hk p hp).same hB, fun e he => ?_, by rw [hdat]; exact kd.alike ks, fun p hp => ?_⟩
  · have : e.1 ∈ ks.map κ := by rw [← ek]; exact List.mem_map.mpr ⟨e, he, rfl⟩
    obtain ⟨a, _, ea⟩ := List.mem_map.mp this
    rw [← ea]
    exact kd.tup a
  · refine ⟨p, _, rfl, .inl ⟨SqL.of upd_same, fun t ht => ?_⟩⟩
    have hdp : DpAll K B (l.map fun e => V.ref e.2.1) (l.map fun kv => kv.1.data) := dp_nens hk
    have len := dpAll_len hdp
    have e1 := Ext.new (o := .lst (sortV (l.map fun e => V.ref e.2.1) (l.map fun kv => kv.1.data))) hB hp
    have e2 := e1.trans (Ext.new (o := .tup (sortV (l.map fun e => V.ref e.2.1) (l.map fun kv => kv.1.data))) e1.bh ht)
    refine q _ _ _ e2 (.tup (SqT.of upd_same) (dpMonoAll e2.bb _ _ ?_))
    have so : sortD (l.map fun kv => kv.1.data) = out.map dt := by
      rw [hdat, srt_map, ← asc_sort asc ((List.perm_ext_iff_of_nodup nd (asc_nodup asc)).mpr fun a => (mem a).symm)]
      rfl
    rw [← so]
    unfold sortV sortD
    have : (l.map fun kv : Nen => kv.1.data).mergeSort dle = (((l.map fun e : Nen => V.ref e.2.1).zip (l.map fun kv => kv.1.data)).mergeSort fun a b => dle a.2 b.2).map Prod.snd := by
      rw [List.map_mergeSort (s := dle) (f := Prod.snd) (fun _ _ _ _ => rfl), zip_snd len]
    rw [this]
    have hp := pairs_dpAll hdp
    exact dpAll_pairs fun z hz => hp z ((List.mergeSort_perm _ _).mem_iff.mp hz)
end
section
variable {α : Type} {dt : α → PyData} {κ : α → NestedKey} {K : PySem.W.Frag} {B : Hp} {v : V}
theorem Kd.nk (kd : Kd dt κ) {a : α} (h : Wv.dat K (dt a) B v) : nkR K (κ a) B v := by
  obtain ⟨ls, e⟩ := kd.tup a
  have d := kd.dep a
  rw [← kd.dat, e] at h
  rw [e] at d ⊢
  exact dat_nk h d
theorem keys_of : ∀ {ks : List NestedKey}, (∀ x ∈ ks, ∃ a, κ a = x) → ∃ as : List α, ks = as.map κ
  | [], _ => ⟨[], rfl⟩
  | k :: ks, h => by
    obtain ⟨a, e⟩ := h k List.mem_cons_self
    obtain ⟨as, e2⟩ := keys_of fun x hx => h x (List.mem_cons_of_mem _ hx)
    exact ⟨a :: as, by rw [List.map_cons, e, e2]⟩
theorem Kd.mem (kd : Kd dt κ) {a : α} {l : List α} : κ a ∈ l.map κ ↔ a ∈ l := by
  rw [List.mem_map]
  exact ⟨fun ⟨b, hb, e⟩ => kd.inj _ _ e ▸ hb, fun h => ⟨a, h, rfl⟩⟩
theorem nodup_keys {l : List α} (h : (l.map κ).Nodup) : l.Nodup := (List.pairwise_map.mp h).imp fun ne e => ne (congrArg κ e)
theorem dpAll_snoc {dt : α → PyData} {xs : List V} {l : List α} {a : α} (h : DpAll K B xs ((l ++ [a]).map dt)) : ∃ xi xa, xs = xi ++ [xa] ∧ DpAll K B xi (l.map dt) ∧ dat K (dt a) B xa := by
  have len := dpAll_len h
  rw [List.length_map, List.length_append, List.length_singleton] at len
  rcases nil_or_last xs with rfl | ⟨xi, xa, rfl⟩
  · cases len
  · rw [List.length_append, List.length_singleton] at len
    have h1 := dpAll_take l.length h
    have h2 := dpAll_drop l.length h
    rw [List.map_append] at h1 h2
    rw [List.take_left' (by omega), List.take_left' (List.length_map _)] at h1
    rw [List.drop_left' (by omega), List.drop_left' (List.length_map _)] at h2
    refine ⟨xi, xa, rfl, h1, ?_⟩
    cases h2 with
    | cons h _ => exact h
theorem keys_dp (kd : Kd dt κ) {l : List Nen} {ks : List α} (hk : NksAt K B l) (ek : l.map (·.1) = ks.map κ) : DpAll K B (l.map fun e => V.ref e.2.1) (ks.map dt) := by
  have h := dp_nens hk
  rw [show (l.map fun kv => kv.1.data) = (l.map (·.1)).map NestedKey.data by rw [List.map_map]; rfl, ek, List.map_map] at h
  rw [show ks.map dt = ks.map (NestedKey.data ∘ κ) from List.map_congr_left fun a _ => (kd.dat a).symm]
  exact h
end
structure ReOk (st : List Nd) (as : List Ar) : Prop where
  nst : ∀ s ∈ st, Nm s.2
  nas : ∀ a ∈ as, Nm a.1.2 ∧ Nm a.2.2
  sf : st.length ≤ 60
  af : as.length ≤ 60
theorem turn_ok {st : List Nd} {as : List Ar} (h : ReOk st as) : ReOk st (turn as) :=
  ⟨h.nst, fun a ha => by
    obtain ⟨b, hb, rfl⟩ := List.mem_map.mp ha
    exact (h.nas b hb).symm, h.sf, by unfold turn; rw [List.length_map]; exact h.af⟩
theorem ReOk.nod {st : List Nd} {as : List Ar} (h : ReOk st as) {x : Nd} (l : Led as st x) : Nm x.2 := by
  rcases List.mem_append.mp l.cands with z | z
  · exact h.nst x z
  · obtain ⟨a, ha, rfl⟩ := List.mem_map.mp z
    exact (h.nas a ha).2
/-! ### what is reached, step by step -/
structure RInv (as : List Ar) (st ks fr : List Nd) : Prop where
  nd : ks.Nodup
  sub : ∀ x ∈ ks, Led as st x
  sta : ∀ s ∈ st, s ∈ ks
  frs : ∀ x ∈ fr, x ∈ ks
  clo : ∀ a ∈ as, a.1 ∈ ks → a.1 ∈ fr ∨ a.2 ∈ ks
  le : fr.length ≤ ks.length
/-- the same, while the steps from h are taken, i of them behind -/
structure RIn (as : List Ar) (st : List Nd) (h : Nd) (i : Nat) (ks fr : List Nd) : Prop where
  nd : ks.Nodup
  sub : ∀ x ∈ ks, Led as st x
  sta : ∀ s ∈ st, s ∈ ks
  frs : ∀ x ∈ fr, x ∈ ks
  hin : h ∈ ks
  clo : ∀ j a, as[j]? = some a → a.1 ∈ ks → a.1 ∈ fr ∨ a.2 ∈ ks ∨ (a.1 = h ∧ i ≤ j)
  le : fr.length ≤ ks.length
theorem RInv.begin {as : List Ar} {st ks fr : List Nd} {h : Nd} (r : RInv as st ks (fr ++ [h])) : RIn as st h 0 ks fr where
  nd := r.nd
  sub := r.sub
  sta := r.sta
  frs := fun x hx => r.frs x (List.mem_append_left _ hx)
  hin := r.frs h (List.mem_append_right _ (List.mem_singleton.mpr rfl))
  clo := fun j a ha hk => by
    rcases r.clo a (List.mem_of_getElem? ha) hk with g | g
    · rcases List.mem_append.mp g with z | z
      · exact .inl z
      · exact .inr (.inr ⟨List.mem_singleton.mp z, Nat.zero_le _⟩)
    · exact .inr (.inl g)
  le := by have := r.le; rw [List.length_append, List.length_singleton] at this; omega
theorem RIn.done {as : List Ar} {st ks fr : List Nd} {h : Nd} (r : RIn as st h as.length ks fr) : RInv as st ks fr where
  nd := r.nd
  sub := r.sub
  sta := r.sta
  frs := r.frs
  clo := fun a ha hk => by
    obtain ⟨j, hj, e⟩ := List.getElem_of_mem ha
    rcases r.clo j a (by rw [List.getElem?_eq_getElem hj, e]) hk with g | g | ⟨_, g⟩
    · exact .inl g
    · exact .inr g
    · omega
  le := r.le
theorem RIn.skip {as : List Ar} {st ks fr : List Nd} {h : Nd} {i : Nat} {a : Ar} (r : RIn as st h i ks fr) (ha : as[i]? = some a) (no : a.1 ≠ h ∨ a.2 ∈ ks) : RIn as st h (i + 1) ks fr where
  nd := r.nd
  sub := r.sub
  sta := r.sta
  frs := r.frs
  hin := r.hin
  clo := fun j b hb hk => by
    rcases r.clo j b hb hk with g | g | ⟨g, l⟩
    · exact .inl g
    · exact .inr (.inl g)
    · rcases Nat.lt_or_eq_of_le l with z | z
      · exact .inr (.inr ⟨g, z⟩)
      · subst z
        rw [ha] at hb
        cases hb
        rcases no with n | n
        · exact absurd g n
        · exact .inr (.inl n)
  le := r.le
theorem RIn.take {as : List Ar} {st ks fr : List Nd} {h : Nd} {i : Nat} {a : Ar} (r : RIn as st h i ks fr) (ha : as[i]? = some a) (e : a.1 = h) (n : a.2 ∉ ks) : RIn as st h (i + 1) (ks ++ [a.2]) (fr ++ [a.2]) where
  nd := by
    rw [List.nodup_append]
    refine ⟨r.nd, List.nodup_cons.mpr ⟨List.not_mem_nil, List.nodup_nil⟩, fun u hu v hv => ?_⟩
    rw [List.mem_singleton.mp hv]
    exact fun z => n (z ▸ hu)
  sub := fun x hx => by
    rcases List.mem_append.mp hx with z | z
    · exact r.sub x z
    · rw [List.mem_singleton.mp z]
      obtain ⟨s, hs, l⟩ := r.sub h r.hin
      exact ⟨s, hs, .snoc l (by rw [← e]; exact List.mem_of_getElem? ha)⟩
  sta := fun s hs => List.mem_append_left _ (r.sta s hs)
  frs := fun x hx => by
    rcases List.mem_append.mp hx with z | z
    · exact List.mem_append_left _ (r.frs x z)
    · exact List.mem_append_right _ z
  hin := List.mem_append_left _ r.hin
  clo := fun j b hb hk => by
    rcases List.mem_append.mp hk with z | z
    · rcases r.clo j b hb z with g | g | ⟨g, l⟩
      · exact .inl (List.mem_append_left _ g)
      · exact .inr (.inl (List.mem_append_left _ g))
      · rcases Nat.lt_or_eq_of_le l with q | q
        · exact .inr (.inr ⟨g, q⟩)
        · subst q
          rw [ha] at hb
          cases hb
          exact .inr (.inl (List.mem_append_right _ (List.mem_singleton.mpr rfl)))
    · exact .inl (List.mem_append_right _ z)
  le := by rw [List.length_append, List.length_append]; have := r.le; simpa using this
theorem RInv.few {as : List Ar} {st ks fr : List Nd} (r : RInv as st ks fr) : ks.length ≤ st.length + as.length := by
  have := nodup_len r.nd fun x hx => (r.sub x hx).cands
  rw [List.length_append, List.length_map] at this
  exact this
theorem RIn.few {as : List Ar} {st ks fr : List Nd} {h : Nd} {i : Nat} (r : RIn as st h i ks fr) : ks.length ≤ st.length + as.length := by
  have := nodup_len r.nd fun x hx => (r.sub x hx).cands
  rw [List.length_append, List.length_map] at this
  exact this
theorem RInv.end_ {as : List Ar} {st ks : List Nd} (r : RInv as st ks []) (t : Nd) : t ∈ ledL as st ↔ t ∈ ks := by
  rw [ledL_mem]
  exact (led_closed r.sta (fun a ha h => (r.clo a ha h).resolve_left List.not_mem_nil) r.sub t).symm
/-! ### orders -/
def free (as : List Ar) (left : List Nd) : List Nd := left.filter fun n => !decide (n ∈ (as.filter fun a => decide (a.1 ∈ left)).map (·.2))
def topo (as : List Ar) : Nat → List Nd → List Nd
  | 0, _ => []
  | n + 1, left => match free as left with
    | [] => []
    | x :: _ => x :: topo as n (left.erase x)
theorem free_some {as : List Ar} {left : List Nd} {rk : Nd → Nat} (h : ∀ a ∈ as, rk a.1 < rk a.2) (ne : left ≠ []) : free as left ≠ [] := by
  -- one of the least rank
  obtain ⟨x, hx, least⟩ : ∃ x ∈ left, ∀ y ∈ left, rk x ≤ rk y := by
    clear h
    induction left with
    | nil => exact absurd rfl ne
    | cons a l ih =>
      by_cases e : l = []
      · subst e
        exact ⟨a, List.mem_cons_self, fun y hy => by rw [List.mem_singleton.mp hy]; exact Nat.le_refl _⟩
      · obtain ⟨x, hx, lx⟩ := ih e
        rcases Nat.le_total (rk a) (rk x) with g | g
        · refine ⟨a, List.mem_cons_self, fun y hy => ?_⟩
          rcases List.mem_cons.mp hy with rfl | z
          · exact Nat.le_refl _
          · exact Nat.le_trans g (lx y z)
        · refine ⟨x, List.mem_cons_of_mem _ hx, fun y hy => ?_⟩
          rcases List.mem_cons.mp hy with rfl | z
          · exact g
          · exact lx y z
  intro e
  have : x ∈ free as left := by
    refine List.mem_filter.mpr ⟨hx, ?_⟩
    rw [Bool.not_eq_true', decide_eq_false_iff_not]
    intro m
    obtain ⟨a, ha, rfl⟩ := List.mem_map.mp m
    obtain ⟨ha, hl⟩ := List.mem_filter.mp ha
    have := least a.1 (of_decide_eq_true hl)
    have := h a ha
    omega
  rw [e] at this
  cases this
theorem free_sub {as : List Ar} {left : List Nd} {x : Nd} (h : x ∈ free as left) : x ∈ left := (List.mem_filter.mp h).1
def parL (as : List Ar) (n : Nd) : List Nd := (as.filter fun a => decide (a.2 = n)).map (·.1)
def chiL (as : List Ar) (n : Nd) : List Nd := (as.filter fun a => decide (a.1 = n)).map (·.2)
def ptnL (bs : List Ar) (n : Nd) : List Nd := srt ndD (((bs ++ turn bs).filter fun a => decide (a.1 = n)).map (·.2))
section
variable {K : PySem.W.Frag} {P : Program} {w : World} {σ : L2.St} {B H : Hp} {te ta tk tv : TE} {tt : TT} {Q : VK}
/-- list(xs), a list of one's own, hidden -/
theorem c_lstH {ds : List PyData} (hB : Same B H) (h : De te σ B (dat K (.tuple ds))) (q : ∀ M xs B' H', Ext B H B' H' → H M = none → Hid B' H' M (.lst xs) → DpAll K B' xs ds → Q (.ref M) H') : tCB (rLst K) (tCons te tNil) σ H Q :=
  h B H (Same.refl _) hB _ fun v B1 H1 e hv => by
    cases hv with
    | tup hs hd =>
      refine ⟨_, _, rfl, .inr (seqT e.bh hs), fun M hM => ?_⟩
      exact q M _ B1 _ (e.trans (.newH e.bh hM)) (e.oldH hM) (.new e.bh hM) hd
theorem c_lstHL {ds : List PyData} (hB : Same B H) (h : De te σ B (dat K (.list ds))) (q : ∀ M xs B' H', Ext B H B' H' → H M = none → Hid B' H' M (.lst xs) → DpAll K B' xs ds → Q (.ref M) H') : tCB (rLst K) (tCons te tNil) σ H Q :=
  h B H (Same.refl _) hB _ fun v B1 H1 e hv => by
    cases hv with
    | lst hs hd =>
      refine ⟨_, _, rfl, .inl (e.bh.seq hs), fun M hM => ?_⟩
      exact q M _ B1 _ (e.trans (.newH e.bh hM)) (e.oldH hM) (.new e.bh hM) hd
def eqR (x : V) : Rel := fun _ v => v = x
instance {x : V} : Mo (eqR x) := ⟨fun _ h => h⟩
/-- nothing settled -/
theorem ext_flat {B0 H0 B1 H1 B : Hp} (e : Ext B0 H0 B1 H1) (s : Same B H0) : Ext B H0 B H1 := ⟨e.hh, Same.refl _, s.trans e.hh, fun _ _ h => h⟩
theorem hid_look {M : Addr} {xs : List V} (m : Hid B H M (.lst xs)) (s : Same B H) : Same B (upd B M (.lst xs)) ∧ Same (upd B M (.lst xs)) H := ⟨new_same m.no, fun b o h => by
  by_cases n : b = M
  · subst n
    rw [upd_same] at h
    cases h
    exact m.at_
  · rw [upd_ne n] at h
    exact s b o h⟩
end
/-- the first of the nodes that are left to which no arrow goes from one of them -/
def spFirst (K : PySem.W.Frag) : Sp := fun vs H Q _ => ∃ (B : Hp) (M : Addr) (xs : List V) (v1 : V) (left : List Nd) (as : List Ar), vs = [.ref M, v1] ∧ Same B H ∧ SqL K B M xs ∧ DpAll K B xs (left.map ndD) ∧ dat K (.tuple (as.map arD)) B v1 ∧ ReOk left as ∧
  (∀ H', Ext B H B H' → free as left = [] → Q .non H') ∧ (∀ (H' : Hp) (i : Nat) (x : V) (y : Nd), Ext B H B H' → (free as left).head? = some y → left[i]? = some y → xs[i]? = some x → Q x H')
theorem topo_len (as : List Ar) : ∀ (n : Nat) (left : List Nd), (topo as n left).length ≤ n
  | 0, _ => Nat.le_refl _
  | n + 1, left => by
    unfold topo
    split
    · exact Nat.zero_le _
    · exact Nat.succ_le_succ (topo_len as n _)
/-- the i-th thing of a list, itself -/
def idR (K : PySem.W.Frag) (xs : List V) (ds : List PyData) (i : Nat) : Rel := fun B v => xs[i]? = some v ∧ ∃ d, ds[i]? = some d ∧ Dp K B v d
instance {K : PySem.W.Frag} {xs : List V} {ds : List PyData} {i : Nat} : Mo (idR K xs ds i) := ⟨fun s ⟨h, d, e, g⟩ => ⟨h, d, e, dpMono s _ _ g⟩⟩
theorem allR_ids {K : PySem.W.Frag} {B : Hp} {xs : List V} {ds : List PyData} (h : DpAll K B xs ds) : AllR ((List.range xs.length).map fun i => idR K xs ds i) B xs := by
  suffices ∀ (n : Nat) (us : List V) (es : List PyData), us = xs.drop n → es = ds.drop n → DpAll K B us es → AllR ((List.range' n us.length).map fun i => idR K xs ds i) B us by
    have := this 0 xs ds rfl rfl h
    rwa [← List.range_eq_range'] at this
  intro n us
  induction us generalizing n with
  | nil => exact fun _ _ _ _ => rfl
  | cons u us ih =>
    intro es e1 e2 hd
    rcases es with _ | ⟨d, es⟩
    · cases hd
    cases hd with
    | cons h t =>
      have x0 : xs[n]? = some u := by have := congrArg (·[0]?) e1; simpa using this.symm
      have d0 : ds[n]? = some d := by have := congrArg (·[0]?) e2; simpa using this.symm
      have t1 : us = xs.drop (n + 1) := by have := congrArg List.tail e1; rwa [List.tail_cons, List.tail_drop] at this
      have t2 : es = ds.drop (n + 1) := by have := congrArg List.tail e2; rwa [List.tail_cons, List.tail_drop] at this
      rw [List.length_cons, List.range'_succ, List.map_cons]
      exact ⟨u, us, rfl, ⟨x0, d, d0, h⟩, ih (n + 1) es t1 t2 t⟩
theorem Di.ids {K : PySem.W.Frag} {σ : L2.St} {B : Hp} {j M : Nat} {xs : List V} {ds : List PyData} {n : Nat} (hs : SqL K B M xs) (hd : DpAll K B xs ds) (hn : ds.length = n) (hσ : σ[j]? = some (some (.ref M))) : Di (iList K (tVar j)) σ B ((List.range n).map fun i => idR K xs ds i) := by
  have e : n = xs.length := by rw [← hn, dpAll_len hd]
  subst e
  exact Di.list (K := K) (Rs := (List.range xs.length).map fun i => idR K xs ds i) (m := moA_of fun R hR => by
    obtain ⟨i, _, rfl⟩ := List.mem_map.mp hR
    infer_instance) (De.var (R := lstR K ((List.range xs.length).map fun i => idR K xs ds i)) (m := ⟨fun s ⟨a, us, e, h, r⟩ => ⟨a, us, e, s.seq h, (moA_of fun R hR => by
      obtain ⟨i, _, rfl⟩ := List.mem_map.mp hR
      infer_instance).mo s r⟩⟩) ⟨M, xs, rfl, hs, allR_ids hd⟩ hσ)
theorem filter_ix {α : Type} (l : List α) (d : α) (p : α → Bool) : l.filter p = ((List.range l.length).filter fun i => p (l.getD i d)).map fun i => l.getD i d := by
  have e : l = (List.range l.length).map fun i => l.getD i d := by
    apply List.ext_getElem
    · rw [List.length_map, List.length_range]
    · intro i h1 h2
      rw [List.getElem_map, List.getElem_range, List.getD_eq_getElem?_getD, List.getElem?_eq_getElem h1]
      rfl
  conv => lhs; rw [e]
  rw [List.filter_map]
  rfl
def topoL (qs : Qs) (as : List Ar) : List Nd := topo as (nodesL (names qs)).length (nodesL (names qs))
structure OrOk (qs : Qs) (as : List Ar) : Prop where
  q : FmOk qs
  mem : ∀ a ∈ as, a.1 ∈ nodesL (names qs) ∧ a.2 ∈ nodesL (names qs)
  few : as.length ≤ 60
  rank : ∃ rk : Nd → Nat, ∀ a ∈ as, rk a.1 < rk a.2
theorem dpAll_at {K : PySem.W.Frag} {B : Hp} : ∀ {xs : List V} {ds : List PyData} {i : Nat} {x : V}, DpAll K B xs ds → xs[i]? = some x → ∃ d, ds[i]? = some d ∧ Dp K B x d
  | _, _, 0, _, .cons h _, e => ⟨_, rfl, by cases e; exact h⟩
  | _, _, i + 1, _, .cons _ t, e => dpAll_at (i := i) t e
theorem dpAll_erase {K : PySem.W.Frag} {B : Hp} : ∀ {xs : List V} {ds : List PyData}, DpAll K B xs ds → ∀ i, DpAll K B (xs.eraseIdx i) (ds.eraseIdx i)
  | _, _, .nil, _ => .nil
  | _, _, .cons _ t, 0 => t
  | _, _, .cons h t, i + 1 => .cons h (dpAll_erase t i)
theorem erase_map {α β : Type} (f : α → β) : ∀ (l : List α) (i : Nat), (l.map f).eraseIdx i = (l.eraseIdx i).map f
  | [], _ => rfl
  | _ :: _, 0 => rfl
  | a :: l, i + 1 => by
    show f a :: (l.map f).eraseIdx i = f a :: (l.eraseIdx i).map f
    rw [erase_map f l i]
theorem topo_succ {as : List Ar} {left ys : List Nd} {y : Nd} {n : Nat} (h : free as left = y :: ys) : topo as (n + 1) left = y :: topo as n (left.erase y) := by
  show (match free as left with | [] => [] | x :: _ => x :: topo as n (left.erase x)) = _
  rw [h]
end Ch

set_option Elab.async false
set_option linter.all false
set_option maxRecDepth 100000
set_option maxHeartbeats 4000000
/-! Wn7: x = {k: v for ..}, the keys tuples of any depth. -/
namespace Wb
open PySem PySem.Spec PyProof.Rows L2
section
variable {X : Cx} {kx vx tg iter : Expr} {ifs : List Expr} {scope : Scope} {own : List (Str × Nat)} {pos spos py : Pos} {wi : TI} {g : TG} {tt : TT} {tk tv : TE}
theorem sw_dictN {gs : List Comprehension} {y : Str} {l : Nat} {env : Env} (kd : env.scope.kind = .function) (ly : env.scope.names.lookup y = some .local) (li : (py.line == pos.line) = true)
    (no : (scope.names.any fun (n, k) => n == y && (k == .local || k == .cell)) = false) : swapsWith (.DictComp kx vx gs scope pos) (some (.Name y py)) l env = pure true := by
  have e1 : env.kindOf y = some .local := ly
  have e2 : env.blockKind = .function := by unfold Env.blockKind; rw [kd]; rfl
  unfold swapsWith
  simp only [e1, e2, no, Expr.pos, li]
  rfl
theorem ps_setDcN {i : Nat} {y : Str} (calm : X.calm = true) (nd : X.N.Nodup) (hy : X.N[i]? = some y) (ly : X.env.scope.names.lookup y = some .local)
    (sw : swapsWith (.DictComp kx vx [⟨tg, iter, ifs, 0⟩] scope pos) (some (.Name y py)) spos.line X.env = pure true) (hi : PI X tg iter wi) (ok : BlkOk X.N X.env.scope scope own)
    (pg : ∀ (u : Shared) (G : Hp) (C : Addr) (cl : List (Str × Addr)) (fp : List Addr), PG (X.blk u G scope (compEnvC scope cl C X.env) fp) tg g) (pt : ∀ (u : Shared) (G : Hp) (C : Addr) (cl : List (Str × Addr)) (fp : List Addr), PTs (X.blk u G scope (compEnvC scope cl C X.env) fp) ifs tt)
    (pk : ∀ (u : Shared) (G : Hp) (C : Addr) (cl : List (Str × Addr)) (fp : List Addr), PE (X.blk u G scope (compEnvC scope cl C X.env) fp) kx tk) (pv : ∀ (u : Shared) (G : Hp) (C : Addr) (cl : List (Str × Addr)) (fp : List Addr), PE (X.blk u G scope (compEnvC scope cl C X.env) fp) vx tv)
    (room : X.A.units + 64 < cLine) (fold : ∀ x, foldedSetIterable iter X.env x = pure x := by intro _; rfl) :
    PS X (.Assign [.Name y py] (.DictComp kx vx [⟨tg, iter, ifs, 0⟩] scope pos) spos) (tAsg (tDcN X.K X.prog X.w wi g tt tk tv (own.map (·.2))) (gName i)) := ⟨fun pins s σ H D I h => by
  rw [exec_Assign_Name_used _ _ _ _ sw]
  refine wpAny_bind (wpAny_standAt (wpAny_bind ?_))
  show wpAny _ X.A (do let _ ← comprehension (.DictComp kx vx [⟨tg, iter, ifs, 0⟩] scope pos) scope X.env (firstIterPos [⟨tg, iter, ifs, 0⟩] pos) newDict false (eval iter X.env) (some (assign (.Name y py) X.env))) _ _ s
  have h : tDcN X.K X.prog X.w wi g tt tk tv (own.map (·.2)) σ H (fun x G => gName i x σ G D.nx) := h
  refine wpAny_bind (thn (dcN_core (Qf := fun _ z => SP X pins D .next z) calm (lt8 room) nd I hi ok ⟨pg, pt, pk, pv⟩ fold h fun L C u m G J q ns f => ?_) fun _ z hz => wpAny_pure (wpAny_pure hz))
  show wpAny _ _ (assign (.Name y py) X.env (.ref L)) _ _ _
  refine wpAny_assign_Name (store_ok2 (v := V.ref L) J nd hy (.inl ly) rfl (fun u2 J2 ⟨a, sb, ha⟩ => ?_) (.inr ly))
  obtain ⟨f0, f1, f2, f3, f4, f5⟩ := f
  have ne : C ≠ a := ha.elim (fun e => by rw [e]; exact f1) fun e c => f4 y a e c.symm
  exact ⟨m, ns.sameBut sb ne, fun u3 sb3 => ⟨_, G, J2.turned (t' := u2.toks) (fun b o hb e => (sb3.2 b hb).trans e) f0 f1 f3 f4 f5, q⟩⟩⟩
end
end Wb

set_option Elab.async false
set_option linter.all false
set_option maxRecDepth 100000
set_option maxHeartbeats 1000000
/-! Od2: shares over one bottom that are together the whole. -/
namespace Fq
open PySem PySem.Spec PyProof.Rows L2 Wb Wv Fm Wf
section
variable {α β : Type} {D : Int} {k : Nat}
structure Wh (D : Int) (k : Nat) (rs : List (α × Rat)) : Prop where
  D0 : 0 < D
  Dk : D.natAbs < 2 ^ k
  dv : ∀ p ∈ rs, Dv D p.2
  nn : ∀ p ∈ rs, 0 ≤ p.2
  sum : sumR (rs.map (·.2)) = 1
theorem le_sum : ∀ {l : List Rat}, (∀ q ∈ l, 0 ≤ q) → ∀ q ∈ l, q ≤ sumR l
  | [], _, q, h => absurd h List.not_mem_nil
  | r :: l, hn, q, h => by
    have a := hn r List.mem_cons_self
    have b := sumR_nonneg fun r hr => hn r (List.mem_cons_of_mem _ hr)
    show q ≤ r + sumR l
    rcases List.mem_cons.mp h with rfl | h
    · grind
    · have := le_sum (fun r hr => hn r (List.mem_cons_of_mem _ hr)) q h
      grind
theorem Wh.le {rs : List (α × Rat)} (h : Wh D k rs) : ∀ p ∈ rs, p.2 ≤ 1 := fun p hp => by
  have := le_sum (l := rs.map (·.2)) (fun q hq => by obtain ⟨r, hr, rfl⟩ := List.mem_map.mp hq; exact h.nn r hr) p.2 (List.mem_map.mpr ⟨p, hp, rfl⟩)
  rw [h.sum] at this
  exact this
theorem Wh.sz {rs : List (α × Rat)} (h : Wh D k rs) : ∀ p ∈ rs, Sz k p.2 := fun p hp => (h.dv p hp).sz h.D0 h.Dk (h.nn p hp) (h.le p hp)
theorem szs_of {rs : List (α × Rat)} {n : Nat} (h : ∀ t ∈ rs, Sz k t.2) (hl : rs.length ≤ n) (k1 : 1 ≤ k := by decide) (k3 : k ≤ 3000 := by decide) (hn : n * k ≤ 6000 := by decide) : Szs rs.length (rs.map (·.2)) :=
  ⟨k, k1, k3, Nat.le_trans (Nat.mul_le_mul_right _ hl) hn, fun q hq => by obtain ⟨t, ht, rfl⟩ := List.mem_map.mp hq; exact h t ht⟩
theorem Wh.szs {rs : List (α × Rat)} {n : Nat} (h : Wh D k rs) (hl : rs.length ≤ n) (k1 : 1 ≤ k := by decide) (k3 : k ≤ 3000 := by decide) (hn : n * k ≤ 6000 := by decide) : Szs rs.length (rs.map (·.2)) := szs_of h.sz hl k1 k3 hn
theorem Wh.map {rs : List (α × Rat)} (h : Wh D k rs) (f : α → β) : Wh D k (rs.map fun p => (f p.1, p.2)) where
  D0 := h.D0
  Dk := h.Dk
  dv := fun p hp => by obtain ⟨q, hq, rfl⟩ := List.mem_map.mp hp; exact h.dv q hq
  nn := fun p hp => by obtain ⟨q, hq, rfl⟩ := List.mem_map.mp hp; exact h.nn q hq
  sum := by rw [List.map_map]; exact h.sum
variable [DecidableEq α] {dt : α → PyData}
theorem Wh.part {rs : List (α × Rat)} (h : Wh D k rs) : ∀ p ∈ sumsG dt rs, Part D p.2 := sumsG_part (by have := h.D0; omega) h.dv h.nn (by rw [h.sum]; exact Rat.le_refl)
theorem Wh.sums {rs : List (α × Rat)} (h : Wh D k rs) : Wh D k (sumsG dt rs) where
  D0 := h.D0
  Dk := h.Dk
  dv := fun p hp => (h.part p hp).dv
  nn := fun p hp => by have := (h.part p hp).pos; grind
  sum := by rw [sum_sumsG]; exact h.sum
theorem Wh.ne {rs : List (α × Rat)} (h : Wh D k rs) : 1 ≤ rs.length := by
  cases rs with
  | nil => exact absurd (show (0 : Rat) = 1 from h.sum) (by decide)
  | cons p l => exact Nat.le_add_left _ _
theorem Wh.mix {E : Int} {a b : List (α × Rat)} {r : Rat} (ha : Wh D 40 a) (hb : Wh E 40 b) (dr : Dv 14 r) (r0 : 0 ≤ r) (r1 : r ≤ 1) : Wh (D * E * 14) 84 (a.map (fun t => (t.1, t.2 * (1 - r))) ++ b.map fun t => (t.1, t.2 * r)) where
  D0 := Int.mul_pos (Int.mul_pos ha.D0 hb.D0) (by decide)
  Dk := by
    rw [Int.natAbs_mul, Int.natAbs_mul]
    have h1 := Nat.mul_lt_mul'' ha.Dk hb.Dk
    have h2 := Nat.mul_lt_mul'' h1 (show (14 : Int).natAbs < 2 ^ 4 by decide)
    have e : (2 : Nat) ^ 40 * 2 ^ 40 * 2 ^ 4 = 2 ^ 84 := by rw [← Nat.pow_add, ← Nat.pow_add]
    rw [e] at h2
    exact h2
  dv := fun p hp => by
    have d1 : Dv 14 (1 : Rat) := ⟨14, by decide +kernel⟩
    rcases List.mem_append.mp hp with h | h
    · obtain ⟨q, hq, rfl⟩ := List.mem_map.mp h
      exact ((ha.dv q hq).more (by have := hb.D0; omega)).mul (d1.sub (by decide) dr)
    · obtain ⟨q, hq, rfl⟩ := List.mem_map.mp h
      exact ((hb.dv q hq).more' (by have := ha.D0; omega)).mul dr
  nn := fun p hp => by
    rcases List.mem_append.mp hp with h | h
    · obtain ⟨q, hq, rfl⟩ := List.mem_map.mp h
      exact Rat.mul_nonneg (ha.nn q hq) (by grind)
    · obtain ⟨q, hq, rfl⟩ := List.mem_map.mp h
      exact Rat.mul_nonneg (hb.nn q hq) r0
  sum := by
    have sc : ∀ (l : List (α × Rat)) (f : Rat), sumR ((l.map fun t => (t.1, t.2 * f)).map (·.2)) = sumR (l.map (·.2)) * f := fun l f => by
      induction l with
      | nil => show (0 : Rat) = 0 * f; rw [Rat.zero_mul]
      | cons p l ih =>
        rw [List.map_cons, List.map_cons, List.map_cons]
        show p.2 * f + sumR _ = (p.2 + sumR _) * f
        rw [ih, Rat.add_mul]
    rw [List.map_append, sumR_app, sc, sc, ha.sum, hb.sum]
    grind
end
end Fq

set_option Elab.async false
set_option linter.all false
set_option maxRecDepth 100000
set_option maxHeartbeats 1000000
/-! Od3: means of whole worths by shares over one bottom. -/
namespace Fq
open PySem PySem.Spec PyProof.Rows L2 Wb Wv Fm Wf
theorem div_one {S : Int} (h : S ≠ 0) : Rat.divInt S S = 1 := by
  have := Rat.divInt_mul_right (n := 1) (d := 1) h
  rw [Int.one_mul] at this
  rw [this]
  rfl
theorem int_div (i : Int) : (i : Rat) = Rat.divInt i 1 := by
  have := Rat.num_divInt_den (i : Rat)
  rw [Rat.num_intCast, Rat.den_intCast] at this
  exact this.symm
theorem len_pos {α : Type} {l : List α} (h : l ≠ []) : 0 < l.length := by
  cases l with
  | nil => exact absurd rfl h
  | cons a l => exact Nat.succ_pos _
theorem divInt_inj {D m n : Int} (h : D ≠ 0) (e : Rat.divInt m D = Rat.divInt n D) : m = n := by
  have := (Rat.divInt_eq_divInt_iff h h).mp e
  exact Int.eq_of_mul_eq_mul_right h this
abbrev denM (ps : List (Rat × Int)) : Rat := sumR (ps.map (·.1))
abbrev topM (ps : List (Rat × Int)) : Rat := sumR (ps.map fun p => p.1 * (p.2 : Rat))
/-- shares over D, above 0; worths of fewer than k bits -/
structure Mn (D : Int) (k : Nat) (ps : List (Rat × Int)) : Prop where
  D0 : 0 < D
  Dk : D.natAbs < 2 ^ 12
  few : ps.length ≤ 216
  each : ∀ p ∈ ps, ∃ n : Int, p.1 = Rat.divInt n D ∧ 0 < n ∧ n ≤ D
  val : ∀ p ∈ ps, p.2.natAbs < 2 ^ k
theorem Mn.sub {D : Int} {k : Nat} {ps qs : List (Rat × Int)} (h : Mn D k ps) (s : qs.Sublist ps) : Mn D k qs where
  D0 := h.D0
  Dk := h.Dk
  few := Nat.le_trans s.length_le h.few
  each := fun p hp => h.each p (s.subset hp)
  val := fun p hp => h.val p (s.subset hp)
theorem Mn.of {α : Type} {D : Int} {k : Nat} {ts : List (α × Rat)} (w : Wh D 12 ts) (pos : ∀ t ∈ ts, 0 < t.2) (few : ts.length ≤ 216) (p : α → Bool) (f : α → Int) (hf : ∀ t ∈ ts, (f t.1).natAbs < 2 ^ k) : Mn D k ((ts.filter fun t => p t.1).map fun t => (t.2, f t.1)) where
  D0 := w.D0
  Dk := w.Dk
  few := by
    rw [List.length_map]
    exact Nat.le_trans (List.length_filter_le _ _) few
  each := fun q hq => by
    obtain ⟨t, ht, rfl⟩ := List.mem_map.mp hq
    have ht := (List.mem_filter.mp ht).1
    obtain ⟨n, hn⟩ := w.dv t ht
    have D0 := w.D0
    have p0 := pos t ht
    have le := w.le t ht
    refine ⟨n, hn, ?_, ?_⟩
    · rw [hn] at p0
      have n0 : 0 ≤ n := (Rat.divInt_nonneg_iff_of_pos_right D0).mp (by grind)
      rcases Int.lt_or_eq_of_le n0 with z | z
      · exact z
      · rw [← z, Rat.zero_divInt] at p0
        exact absurd p0 (Rat.not_lt.mpr Rat.le_refl)
    · have a := div_add (a := n) (b := D - n) (S := D) (by omega)
      rw [show n + (D - n) = D by omega, div_one (by omega), ← hn] at a
      have : 0 ≤ Rat.divInt (D - n) D := by grind
      have := (Rat.divInt_nonneg_iff_of_pos_right D0).mp this
      omega
  val := fun q hq => by
    obtain ⟨t, ht, rfl⟩ := List.mem_map.mp hq
    exact hf t (List.mem_filter.mp ht).1
section
variable {D : Int} {k : Nat} {ps : List (Rat × Int)}
theorem Mn.dens (h : Mn D k ps) : ∃ M : Int, denM ps = Rat.divInt M D ∧ (ps.length : Int) ≤ M ∧ M ≤ ps.length * D := by
  induction ps with
  | nil => exact ⟨0, by show (0 : Rat) = _; rw [Rat.zero_divInt], Int.le_refl _, by simp⟩
  | cons p l ih =>
    obtain ⟨M, e, m1, m2⟩ := ih (h.sub (List.sublist_cons_self _ _))
    obtain ⟨n, hn, n0, nD⟩ := h.each p List.mem_cons_self
    have D0 := h.D0
    refine ⟨n + M, ?_, ?_, ?_⟩
    · rw [← div_add (by omega), ← e, ← hn]
      rfl
    · rw [List.length_cons]; omega
    · rw [List.length_cons, Int.natCast_add, Int.add_mul]
      omega
theorem Mn.tops (h : Mn D k ps) : ∃ N : Int, topM ps = Rat.divInt N D ∧ N.natAbs ≤ ps.length * (2 ^ (12 + k)) := by
  induction ps with
  | nil => exact ⟨0, by show (0 : Rat) = _; rw [Rat.zero_divInt], by simp⟩
  | cons p l ih =>
    obtain ⟨N, e, m1⟩ := ih (h.sub (List.sublist_cons_self _ _))
    obtain ⟨n, hn, n0, nD⟩ := h.each p List.mem_cons_self
    have D0 := h.D0
    have Dk := h.Dk
    refine ⟨n * p.2 + N, ?_, ?_⟩
    · rw [← div_add (by omega), ← e]
      show p.1 * (p.2 : Rat) + _ = _
      congr 1
      rw [hn]
      have : ((p.2 : Int) : Rat) = Rat.divInt p.2 1 := int_div _
      rw [this, Rat.divInt_mul_divInt, Int.mul_one]
    · have a := Int.natAbs_add_le (n * p.2) N
      have b : (n * p.2).natAbs < 2 ^ (12 + k) := by
        rw [Int.natAbs_mul]
        exact lt_mul (by omega) (h.val p List.mem_cons_self)
      rw [List.length_cons, Nat.add_mul]
      omega
theorem Mn.den_pos (h : Mn D k ps) (ne : ps ≠ []) : 0 < denM ps := by
  obtain ⟨M, e, m1, _⟩ := h.dens
  have : 0 < ps.length := len_pos ne
  rw [e]
  have D0 := h.D0
  have := (Rat.divInt_nonneg_iff_of_pos_right (a := M) D0).mpr (by omega)
  have z : Rat.divInt M D ≠ 0 := fun z => by
    rw [← Rat.zero_divInt D] at z
    have := divInt_inj (by omega) z
    omega
  exact Rat.lt_of_le_of_ne this (Ne.symm z)
theorem Mn.den_zero (h : Mn D k ps) : denM ps = 0 ↔ ps = [] :=
  ⟨fun e => Classical.byContradiction fun ne => absurd (h.den_pos ne) (by rw [e]; exact Rat.not_lt.mpr Rat.le_refl), fun e => by rw [e]; rfl⟩
theorem pow_up {a b : Nat} (h : a ≤ b) : 2 ^ a ≤ 2 ^ b := Nat.pow_le_pow_right (by decide) h
theorem Mn.szd (h : Mn D k ps) : Sz 20 (denM ps) := by
  obtain ⟨M, e, m1, m2⟩ := h.dens
  have D0 := h.D0
  have Dk := h.Dk
  have few := h.few
  rw [e]
  refine sz_divInt (by omega) ?_ (by have := pow_up (show 12 ≤ 20 by decide); omega)
  have : (ps.length : Int) * D ≤ 216 * D := Int.mul_le_mul_of_nonneg_right (by omega) (by omega)
  omega
theorem Mn.top_lt (h : Mn D k ps) : ∃ N : Int, topM ps = Rat.divInt N D ∧ N.natAbs < 2 ^ (20 + k) := by
  obtain ⟨N, e, m1⟩ := h.tops
  refine ⟨N, e, ?_⟩
  have a : ps.length * 2 ^ (12 + k) ≤ 216 * 2 ^ (12 + k) := Nat.mul_le_mul_right _ h.few
  have b : 2 ^ (20 + k) = 256 * 2 ^ (12 + k) := by rw [show 20 + k = 8 + (12 + k) by omega, Nat.pow_add]
  have c : 0 < 2 ^ (12 + k) := Nat.pow_pos (by decide)
  omega
theorem Mn.szt (h : Mn D k ps) : Sz (20 + k) (topM ps) := by
  obtain ⟨N, e, m1⟩ := h.top_lt
  have D0 := h.D0
  have Dk := h.Dk
  rw [e]
  exact sz_divInt (by omega) m1 (by have := pow_up (show 12 ≤ 20 + k by omega); omega)
theorem Mn.szm (h : Mn D k ps) (ne : ps ≠ []) : Sz (20 + k) (topM ps / denM ps) := by
  obtain ⟨N, e, m1⟩ := h.top_lt
  obtain ⟨M, e2, m2, m3⟩ := h.dens
  have l : 0 < ps.length := len_pos ne
  have D0 := h.D0
  have Dk := h.Dk
  have few := h.few
  have W0 : denM ps ≠ 0 := fun z => by
    have := h.den_pos ne
    rw [z] at this
    exact absurd this (Rat.not_lt.mpr Rat.le_refl)
  have q : topM ps / denM ps = Rat.divInt N M := by
    have h : Rat.divInt N M * denM ps = topM ps := by
      rw [e, e2, Rat.divInt_mul_divInt, Int.mul_comm N M, Int.mul_comm M D, Int.mul_comm M N, Rat.divInt_mul_right (by omega)]
    rw [← h, Rat.mul_div_cancel W0]
  rw [q]
  refine sz_divInt (by omega) m1 ?_
  have : (ps.length : Int) * D ≤ 216 * D := Int.mul_le_mul_of_nonneg_right (by omega) (by omega)
  have := pow_up (show 20 ≤ 20 + k by omega)
  omega
theorem Mn.sz1 (h : Mn D k ps) : ∀ p ∈ ps, Sz 12 p.1 := fun p hp => by
  obtain ⟨n, hn, n0, nD⟩ := h.each p hp
  have D0 := h.D0
  have Dk := h.Dk
  rw [hn]
  exact sz_divInt (by omega) (by omega) Dk
theorem sz_int {k : Nat} (i : Int) (h : i.natAbs < 2 ^ k) (k1 : 1 ≤ k) : Sz k (i : Rat) := ⟨by rw [Rat.num_intCast]; exact h, by rw [Rat.den_intCast]; exact Nat.lt_of_lt_of_le (by decide : 1 < 2 ^ 1) (pow_up k1)⟩
theorem Mn.sz2 (h : Mn D k ps) (k1 : 1 ≤ k) : ∀ p ∈ ps, Sz k ((p.2 : Int) : Rat) := fun p hp => sz_int _ (h.val p hp) k1
theorem Mn.dv1 (h : Mn D k ps) : ∀ q ∈ ps.map (·.1), Dv D q := fun q hq => by
  obtain ⟨p, hp, rfl⟩ := List.mem_map.mp hq
  obtain ⟨n, hn, _⟩ := h.each p hp
  exact ⟨n, hn⟩
theorem Mn.dv2 (h : Mn D k ps) : ∀ q ∈ ps.map (fun p => p.1 * (p.2 : Rat)), Dv D q := fun q hq => by
  obtain ⟨p, hp, rfl⟩ := List.mem_map.mp hq
  obtain ⟨n, hn, _⟩ := h.each p hp
  refine ⟨n * p.2, ?_⟩
  have : ((p.2 : Int) : Rat) = Rat.divInt p.2 1 := int_div _
  show p.1 * (p.2 : Rat) = _
  rw [hn, this, Rat.divInt_mul_divInt, Int.mul_one]
/-- sums of shares times worths, over two worths -/
theorem topM_add {α : Type} (f g : α → Int) : ∀ ts : List (α × Rat), topM (ts.map fun t => (t.2, f t.1 + g t.1)) = topM (ts.map fun t => (t.2, f t.1)) + topM (ts.map fun t => (t.2, g t.1))
  | [] => by show (0 : Rat) = 0 + 0; rw [Rat.add_zero]
  | t :: l => by
    have ih := topM_add f g l
    show t.2 * ((f t.1 + g t.1 : Int) : Rat) + topM _ = (t.2 * (f t.1 : Rat) + topM _) + (t.2 * (g t.1 : Rat) + topM _)
    rw [ih, Rat.intCast_add, Rat.mul_add]
    grind
/-- a worth of 1 where a test holds, 0 elsewhere -/
theorem topM_if {α : Type} (p : α → Bool) : ∀ ts : List (α × Rat), topM (ts.map fun t => (t.2, if p t.1 = true then (1 : Int) else 0)) = sumR ((ts.filter fun t => p t.1).map (·.2))
  | [] => rfl
  | t :: l => by
    have ih := topM_if p l
    rw [List.map_cons, List.filter_cons]
    show t.2 * ((if p t.1 = true then (1 : Int) else 0 : Int) : Rat) + topM _ = _
    rw [ih]
    split
    · rw [List.map_cons]
      show t.2 * ((1 : Int) : Rat) + _ = t.2 + _
      rw [show ((1 : Int) : Rat) = 1 from rfl, Rat.mul_one]
    · show t.2 * ((0 : Int) : Rat) + _ = _
      rw [show ((0 : Int) : Rat) = 0 from rfl, Rat.mul_zero, Rat.zero_add]
/-- a sum over those where a test holds, and the others -/
theorem sumR_split {α : Type} (p : α → Bool) (f : α → Rat) : ∀ l : List α, sumR (l.map f) = sumR ((l.filter p).map f) + sumR ((l.filter fun a => !p a).map f)
  | [] => by show (0 : Rat) = 0 + 0; rw [Rat.add_zero]
  | a :: l => by
    have ih := sumR_split p f l
    rw [List.map_cons, List.filter_cons, List.filter_cons]
    show f a + _ = _
    rw [ih]
    cases p a with
    | true =>
      simp only [if_true, Bool.not_true, Bool.false_eq_true, if_false, List.map_cons]
      show _ = (f a + _) + _
      grind
    | false =>
      simp only [Bool.false_eq_true, if_false, Bool.not_false, if_true, List.map_cons]
      show _ = _ + (f a + _)
      grind
end
end Fq

set_option Elab.async false
set_option linter.all false
set_option maxRecDepth 100000
set_option maxHeartbeats 1000000
/-! We3: < of tuples of ints. -/
namespace Wv
open PySem PySem.Spec PyProof.Rows L2 Wb
theorem lexLt_eq : ∀ a b : List Int, HT.lexLt a b = decide (a < b)
  | [], [] => by simp [HT.lexLt]
  | [], y :: b => by simp [HT.lexLt]
  | x :: a, [] => by simp [HT.lexLt]
  | x :: a, y :: b => by
    have ih := lexLt_eq a b
    simp only [HT.lexLt, ih]
    rw [Bool.eq_iff_iff, decide_eq_true_eq, List.cons_lt_cons_iff]
    by_cases h : x = y
    · subst h
      simp
    · simp [h]
section
variable {K : PySem.W.Frag} {B : Hp}
theorem Rv.ltT {a b : List Int} : Rv (rLtT K) B (dat K (.tuple (a.map .int))) (dat K (.tuple (b.map .int))) (dat K (.bool (decide (a < b)))) := fun x y B1 H _ s2 hx hy Q q => by
  cases hx with
  | tup hs hd =>
    cases hy with
    | tup hs2 hd2 =>
      refine ⟨_, _, a, b, rfl, rfl, ints_vals hd ▸ seqT s2 hs, ints_vals hd2 ▸ seqT s2 hs2, ?_⟩
      rw [lexLt_eq]
      exact q _ B1 H (.refl s2) (.bl _)
end
end Wv

set_option Elab.async false
set_option linter.all false
set_option maxRecDepth 100000
set_option maxHeartbeats 1000000
/-! We4: t[::-1] of a tuple. -/
namespace Wv
open PySem PySem.Spec PySem.Calls PyProof.Rows L2 Wb
open HT in
theorem adj_rev (n : Nat) : Builtin.Slice.sliceAdjust none none (-1) (n : Int) = ((n : Int) - 1, -1) := by
  unfold Builtin.Slice.sliceAdjust
  rfl
theorem plc_rev (n : Nat) : Builtin.Slice.slicePlaces ((n : Int) - 1) (-1) (-1) = n := by
  unfold Builtin.Slice.slicePlaces
  have h : ¬ ((-1 : Int) > 0) := by omega
  rw [if_neg h]
  by_cases z : (n : Int) - 1 > -1
  · rw [if_pos z, show (-(-1 : Int)) = 1 by decide, Int.ediv_one]
    omega
  · rw [if_neg z]
    omega
theorem fm_congr {α β : Type} {f g : α → Option β} : ∀ {l : List α}, (∀ x ∈ l, f x = g x) → l.filterMap f = l.filterMap g
  | [], _ => rfl
  | x :: l, h => by
    rw [List.filterMap_cons, List.filterMap_cons, h x List.mem_cons_self, fm_congr fun y hy => h y (List.mem_cons_of_mem _ hy)]
theorem pick_rev (xs : Array Value) : ((List.range xs.size).filterMap fun (m : Nat) => xs[(((xs.size : Int) - 1) + (m : Int) * (-1)).toNat]?).toArray = xs.toList.reverse.toArray := by
  congr 1
  have e : (List.range xs.size).filterMap (fun (m : Nat) => xs[(((xs.size : Int) - 1) + (m : Int) * (-1)).toNat]?) = (List.range xs.size).filterMap (fun m => xs.toList.reverse[m]?) := by
    refine fm_congr fun m hm => ?_
    have hm := List.mem_range.mp hm
    have i : (((xs.size : Int) - 1) + (m : Int) * (-1)).toNat = xs.size - 1 - m := by omega
    rw [i, List.getElem?_reverse (by rw [Array.length_toList]; exact hm), Array.length_toList, Array.getElem?_toList]
  rw [e]
  have l : xs.size = xs.toList.reverse.length := by rw [List.length_reverse, Array.length_toList]
  rw [l]
  generalize xs.toList.reverse = ys
  apply List.ext_getElem?
  intro i
  have : (List.range ys.length).filterMap (fun m => ys[m]?) = ys := by
    induction ys with
    | nil => rfl
    | cons y ys ih =>
      rw [List.length_cons, List.range_succ_eq_map, List.filterMap_cons]
      simp only [List.getElem?_cons_zero, List.filterMap_map]
      congr 1
  rw [this]
section
variable {prog : Program} {w : World} {A : Around} {E : Value → Shared → Prop} {s : Shared}
theorem app_rev {sl : Addr} {vl vu vs : Value} {n : Nat} {Q : Int × Int × Nat → Shared → Prop} (hs : s.heap.IsSliceOf sl vl vu vs) (pl : IsPart vl none) (pu : IsPart vu none) (ps : IsPart vs (some (-1))) (h : Q ((n : Int) - 1, -1, n) s) :
    wpAny (model prog w) A (Builtin.Slice.sliceApplied (.ref sl) (pure (n : Int))) Q E s := by
  obtain ⟨os, hos, _, hds⟩ := id hs
  unfold Builtin.Slice.sliceApplied
  unfold Builtin.Slice.sliceFields
  refine wpAny_bind (wpAny_bind (wpAny_field hos hds (x := vl) rfl ?_))
  refine wpAny_bind (wpAny_field hos hds (x := vu) rfl ?_)
  refine wpAny_bind (wpAny_field hos hds (x := vs) rfl ?_)
  refine wpAny_pure (wpAny_bind (HT.slicePart_ ps ?_))
  show wpAny _ _ (if ((-1 : Int) == 0) = true then _ else _) _ _ s
  rw [if_neg (by decide)]
  refine wpAny_bind (HT.slicePart_ pl ?_)
  refine wpAny_bind (HT.slicePart_ pu (wpAny_bind (wpAny_pure ?_)))
  show wpAny _ _ (match Builtin.Slice.sliceAdjust none none (-1) (n : Int) with | (lo, hi) => pure (lo, (-1 : Int), Builtin.Slice.slicePlaces lo hi (-1))) _ _ s
  rw [adj_rev n]
  show wpAny _ _ (pure ((n : Int) - 1, (-1 : Int), Builtin.Slice.slicePlaces ((n : Int) - 1) (-1) (-1))) _ _ s
  rw [plc_rev]
  exact wpAny_pure h
theorem item_rev {t sl : Addr} {items : Array Value} {vl vu vs : Value} {Q : Value → Shared → Prop} (ht : IsTup s.heap t items) (hs : s.heap.IsSliceOf sl vl vu vs) (pl : IsPart vl none) (pu : IsPart vu none) (ps : IsPart vs (some (-1)))
    (h : Q (.ref s.heap.objs.size) { s with heap := s.heap.push { cls := .type "tuple", data := .seq items.toList.reverse.toArray } }) (hsz : items.size ≤ sizeLine) : wpAny (model prog w) A (getItem (.ref t) (.ref sl)) Q E s := by
  have fit : sizeOk (.seq items.toList.reverse.toArray) := by
    show items.toList.reverse.toArray.size ≤ sizeLine
    rw [List.size_toArray, List.length_reverse, Array.length_toList]
    exact hsz
  obtain ⟨os, hos, hcs, _⟩ := id hs
  have hTs : s.TypeIs (.ref sl) "slice" := ⟨os, hos, hcs⟩
  unfold getItem
  (try with_reducible refine wpAny_holding ?_)
  (first | refine wpAny_bind (wpAny_pure ?_) | skip)
  refine (wpAny_bind (wpAny_sequenceKey ht.typeIs (by decide) ?_))
  refine wpAny_bind (wpAny_callSpecial?_slot (name := Str.ofString "__getitem__") ht.typeIs PyProof.Rows.slot_tuple_getitem (wpAny_call_entry PyProof.Rows.slot_tuple_getitem ht.typeIs entry_tuple_getitem ?_ (args_tuple_getitem _ _)))
  show wpAny _ _ (Builtin.Tuple.tupleItemsOf (Value.ref t) >>= _) _ _ _
  refine wpAny_bind (tupleItemsOf_ ht (wpAny_bind (wpAny_typeOf hTs ?_)))
  rw [if_pos (by decide)]
  refine wpAny_bind (app_rev hs pl pu ps ?_)
  have no : ¬ ((((items.size : Int) - 1) == 0 && (-1 : Int) == 1 && items.size == items.size) = true) := by simp
  show wpAny _ _ (if ((((items.size : Int) - 1) == 0 && (-1 : Int) == 1 && items.size == items.size) = true) then _ else _) _ _ s
  rw [if_neg no, pick_rev]
  first
    | exact (wpAny_bind (m := Builtin.Tuple.tupleExact _) (wpAny_newObj_type (wpAny_pure ⟨_, rfl, wpAny_pure h⟩) fit))
    | exact (wpAny_bind (m := Builtin.Tuple.tupleExact _) (wpAny_newObj_type (wpAny_bind (wpAny_pure (wpAny_pure ⟨_, rfl, wpAny_pure h⟩))) fit))
end
def tRevT (K : PySem.W.Frag) (te : TE) : TE := fun σ H Q => te σ H fun x H1 => ∃ a xs, x = .ref a ∧ SqT K H1 a xs ∧ ∀ p, H1 p = none → Q (.ref p) (upd H1 p (.tup xs.reverse))
section
variable {X : Cx}
theorem pe_revT {e : Expr} {te : TE} {k : Nat} {p1 p2 p3 pos : Pos} (he : PE X e te) : PE X (.Subscript e (.Slice none none (some (.UnaryOp .USub (.Constant (.int 1) k p1) p2)) p3) pos) (tRevT X.K te) := by
  refine ⟨fun pins s σ H Q I h => ?_⟩
  refine Subscript_ (thn (he.run pins s σ H _ I h) fun v s1 ⟨x, H1, I1, r1, a, xs, ex, hx, q⟩ => ?_)
  subst ex
  cases r1
  have st : PO X (some (.UnaryOp .USub (.Constant (.int 1) k p1) p2)) (tPart (tUn (rU fun i => .int (-i)) (tC (.int 1)))) := (po_some (pe_un un_neg pe_int))
  refine wpAny_Slice (thn (po_none.run pins s1 σ H1 (fun o H2 => o = none ∧ H2 = H1) I1 ⟨rfl, rfl⟩) fun vl s2 z2 => ?_)
  obtain ⟨l, H2, I2, pl, el, e2⟩ := z2
  subst el e2
  refine thn (po_none.run pins s2 σ H2 (fun o H3 => o = none ∧ H3 = H2) I2 ⟨rfl, rfl⟩) fun vu s3 z3 => ?_
  obtain ⟨u, H3, I3, pu, eu, e3⟩ := z3
  subst eu e3
  refine thn (st.run pins s3 σ H3 (fun o H4 => o = some (-1) ∧ H4 = H3) I3 ⟨1, rfl, -1, rfl, rfl, rfl⟩) fun vs s4 z4 => ?_
  obtain ⟨o, H4, I4, ps, eo, e4⟩ := z4
  subst eo e4
  have I5 : Inv X pins σ H4 { s4 with heap := s4.heap.push { cls := .type "slice", data := .fields #[vl, vu, vs] } } := (I4.kept (t' := s4.toks) fun b ob q => Heap.get?_push_of_some _ q)
  obtain ⟨its, r, ht, hz⟩ := I5.tuple hx
  have hl := r.length
  show (wpAny (model X.prog X.w) X.A (subscriptTail e (.Slice none none (some (.UnaryOp .USub (.Constant (.int 1) k p1) p2)) p3) (.ref a) (.ref s4.heap.objs.size)) (EP X pins σ Q) X.xe { s4 with heap := s4.heap.push { cls := .type "slice", data := .fields #[vl, vu, vs] } })
  refine tail_any (ops := [.ref a, .ref s4.heap.objs.size]) ht.typeIs (PyProof.Rows.slot_tuple_getitem.lookup) ?_ (by with_unfolding_all rfl)
  refine item_rev ht (Heap.IsSliceOf.new _ vl vu vs) pl pu ps ?_ (by rw [List.size_toArray]; omega)
  refine ⟨.ref _, _, I5.laid (t' := s4.toks) (o := .tup xs.reverse) (fun b ob q => Heap.get?_push_of_some _ q) (Nat.le_refl _) ?_, rfl, (q _ (I5.hok.fresh (Nat.le_refl _)))⟩
  exact ⟨by rw [List.length_reverse]; exact hz, _, r.reverse, IsTup.new _ _⟩
end
section
variable {K : PySem.W.Frag} {σ : L2.St} {B : Hp} {te : TE}
theorem De.revT {ds : List PyData} (h : De te σ B (dat K (.tuple ds))) : De (tRevT K te) σ B (dat K (.tuple ds.reverse)) := fun B1 H s1 s2 Q q => h B1 H s1 s2 _ fun v B2 H2 e hv => by
  have hv' := hv
  obtain ⟨a, xs, rfl, hs, hR⟩ := dat_tupR hv'
  refine ⟨a, xs, rfl, seqT e.bh hs, fun p hp => q _ (upd B2 p (.tup xs.reverse)) _ (e.trans (Ext.new e.bh hp)) ?_⟩
  have rv : ∀ {ds : List PyData} {xs : List V}, DpAll K B2 xs ds → DpAll K B2 xs.reverse ds.reverse := fun h => by
    induction h using DpAll.rec (motive_1 := fun _ _ _ => True) with
    | non => trivial
    | bl => trivial
    | int => trivial
    | str => trivial
    | lst => trivial
    | tup => trivial
    | nil => exact .nil
    | cons h t _ ih =>
      rw [List.reverse_cons, List.reverse_cons]
      exact dpAll_app ih (.cons h .nil)
  exact .tup (SqT.of upd_same) (dpMonoAll (new_same (e.bh.free hp)) _ _ (rv (allR_dp hR)))
end
end Wv

set_option Elab.async false
set_option linter.all false
set_option maxRecDepth 100000
set_option maxHeartbeats 4000000
/-! We1: an own == asked of what is no instance; instances made by keywords alone. -/
namespace Wv
open PySem PySem.Spec PyProof.Rows L2 Wb
section
variable {X : Cx} {n : Nat} {C : Addr} {S : Sp}
def rEqX (K : PySem.W.Frag) (C : Addr) (S : Sp) : R2 := fun x y H Q => ∃ a b dx fs tb, x = .ref a ∧ y = .ref b ∧ H a = some (.ins C dx fs) ∧ TyX K H y tb ∧ PySem.W.notFirst K C tb = true ∧ S [x, y] H (fun v H' => ∃ t, v = .bl t ∧ Q (.bl t) H') E0
theorem op_eqX (c : CalE X.prog X.w X.K X.mg X.base n C S) (hr : Room n X.A) : OpR X (compareOp .Eq) (rEqX X.K C S) := by
  intro pins s σ H x y v u Q I rx ry hq
  obtain ⟨a, b, dx, fs, tb, rfl, rfl, ha, hT, nf, hS⟩ := hq
  obtain ⟨f, fd, F, hs, hf, hb⟩ := c
  cases rx
  obtain ⟨Pq, Z, pq, _⟩ := kit_of I ry hT
  cases ry
  obtain ⟨mA, J, _⟩ := ins_get I.hok ha
  obtain ⟨od, J, _⟩ := J.look
  obtain ⟨m, hF⟩ := I.fr
  show wpAny (model X.prog X.w) X.A (richCompare .Eq (.ref a) (.ref b)) (EP X pins σ Q) X.xe s
  refine PySem.W.cmp_K (op := .Eq) (tb := tb) hr.units0 hF I.ok.mod.kin J (Z.ty _ _ I.kIn pq) nf hs hf ?_
  exact eq_runs F hb hr rfl I hS fun t H' s' g I' => ⟨.bl t, H', I', rfl, g⟩
end
theorem notFirst_tuple {K : PySem.W.Frag} {C : Addr} : PySem.W.notFirst K C (.type "tuple") = true := by
  unfold PySem.W.notFirst PySem.W.subIn
  rfl
section
variable {C : Addr} {B : Hp} {R : Rel} {α : Type} {args : α → List Rel} {pre : α → Prop} {res : α → Rel} {K : PySem.W.Frag} {ds : List PyData}
theorem Rv.eqTup [i : IsIns C R] {t : Bool} (a : α) (hp : pre a) (ha : ∀ B x y, R B x → dat K (.tuple ds) B y → AllR (args a) B [x, y]) (hr : res a = dat K (.bool t)) : Rv (rEqX K C (Pf args pre res)) B R (dat K (.tuple ds)) (dat K (.bool t)) := fun x y B1 H s1 s2 hx hy Q q => by
  obtain ⟨b, dx, fs, rfl, hb⟩ := i.ins hx
  have ty : TyX K H y (.type "tuple") := ty_dat (d := .tuple ds) (dpMono s2 _ _ hy)
  have hy' := hy
  obtain ⟨c, rfl⟩ : ∃ c, y = .ref c := by cases hy'; exact ⟨_, rfl⟩
  refine ⟨b, c, dx, fs, _, rfl, rfl, s2 _ _ hb, ty, notFirst_tuple, B1, a, s2, ha _ _ _ hx hy, hp, fun v B' H' e hv => ?_⟩
  rw [hr] at hv
  have : v = .bl t := dat_bl hv
  exact ⟨t, this, q _ B' H' e (this ▸ hv)⟩
end
section
variable (P : Program) (w : World) (K : PySem.W.Frag) (mg : Str → Option Value) (base : Heap)
/-- .. made by keywords alone, in their order -/
structure CalCK (x : Str) (C : Addr) (fs : List Str) : Prop where
  g : mg x = some (.ref C)
  ini : ∃ (f : Addr) (fd : FuncData), Mk K C f ∧ FnOk P w K mg base CX0 1 f fd ("self" :: fs) (spIns C fs) ∧ KBn K fd ("self" :: fs) 1 fs (fun us ws => us ++ ws) (fun vs zs => vs ++ zs)
end
theorem vals_app : ∀ {vs : List V} {us : List Value} {zs : List V} {ws : List Value}, Vals vs us → Vals zs ws → Vals (vs ++ zs) (us ++ ws)
  | _, _, _, _, .nil, h => h
  | _, _, _, _, .cons r t, h => .cons r (vals_app t h)
theorem kbn_of {K : PySem.W.Frag} {x qual : Str} {st : Stmt} {f : Addr} {fd : FuncData} {ps ks : List Str} (F : Fun K x qual st f fd)
    (h : ∀ (kV doc pm : Value) (an : Option Addr) (cdv ct : Value) (us ws : List Value), us.length = 1 → ws.length = ks.length → bindArgs (PySem.W.fnOf x qual (defArgs st) (defBody st) (defScope st) .none kV doc pm an cdv ct) ⟨us, ks.zip ws⟩ = pure (ps.zip (us ++ ws))) :
    KBn K fd ps 1 ks (fun us ws => us ++ ws) (fun vs zs => vs ++ zs) := by
  obtain ⟨oc, od, kV, doc, pm, an, cdv, ct, osl, rfl, lk, hcd⟩ := F.ex
  exact ⟨fun s us ws _ l1 l2 => .of_eq (h kV doc pm an cdv ct us ws l1 l2), fun r1 r2 => vals_app r1 r2⟩
section
variable {X : Cx} {x : Str} {C : Addr} {fs : List Str} {k : Nat} {p pos : Pos} {kws : List Keyword} {tk : TA}
theorem pe_calCK (c : CalCK X.prog X.w X.K X.mg X.base x C fs) (hr : Room k X.A) (hk : 2 ≤ k) (hg : Gl X x) (hkw : PK X kws tk)
    (hall : (backToKw pos (keywordEach kws X.env)).all (·.1.isSome) = true := by rfl) (hks : (backToKw pos (keywordEach kws X.env)).filterMap (·.1) = fs := by rfl) (hdb : (x == ("__debug__" : Str)) = false := by decide)
    (hpl : ((backTo pos (starEach [] X.env)).any (·.1) || (backToKw pos (keywordEach kws X.env)).any (·.1.isNone)) = false := by rfl) :
    PE X (.Call (.Name x p) [] kws pos) (tMakeK C 0 fs.length (spIns C fs) (fun vs zs => vs ++ zs) E0 tNil tk) := by
  obtain ⟨f, fd, M, F, b⟩ := c.ini
  exact pe_makeK0 M F (hr.mono hk) hg c.g b pass0 hkw hall hks hdb hpl
end
section
variable {σ : L2.St} {B : Hp} {Rs : List Rel}
theorem De.makeK {C : Addr} {fs : List Str} {n : Nat} {ta : TA} [m : MoA Rs] (ha : Da ta σ B Rs) (hl : fs.length = Rs.length) (hn : n = fs.length) : De (tMakeK C 0 n (spIns C fs) (fun vs zs => vs ++ zs) E0 tNil ta) σ B (insR C (fs.zip Rs)) := fun B1 H s1 s2 Q q =>
  ha B1 H s1 s2 _ fun vs B2 H2 e hv => by
    have len := allR_len hv
    refine ⟨rfl, by omega, fun x dx hx hd ne => ?_⟩
    refine ⟨x, dx, vs, rfl, by omega, upd_same, rfl, ?_⟩
    rw [upd_over]
    have e1 : Ext B2 H2 B2 (upd H2 dx (.own x)) := .own e.bh hd
    have hx1 : upd H2 dx (.own x) x = none := by
      rw [upd_ne ne.symm]
      exact hx
    have e2 := Ext.new (o := .ins C dx (fs.zip vs)) e1.bh hx1
    exact q _ _ _ ((e.trans e1).trans e2) ⟨x, dx, _, rfl, upd_same, allF_zip hl (m.mo (new_same (e.bh.free hx)) hv)⟩
end
end Wv

set_option Elab.async false
set_option linter.all false
set_option maxRecDepth 100000
set_option maxHeartbeats 1000000
/-! We5: an own == asked of any data; of an instance or of data; two fields by keywords, turned round. -/
namespace Wv
open PySem PySem.Spec PyProof.Rows L2 Wb
section
variable {X : Cx} {n : Nat} {C : Addr} {S : Sp}
theorem eq_runsY {A : Around} {pins : List (Addr × Obj)} {σ : L2.St} {H : Hp} {s : Shared} {a f : Addr} {y : V} {u : Value} {fd : FuncData} {G : Bool → Hp → Prop} {R : Value → Shared → Prop} (F : FnOk X.prog X.w X.K X.mg X.base CX0 n f fd ["self", "other"] S) (hb : Binds X.K fd ["self", "other"] []) (hr : Room n A) (hfr : A.frames = X.A.frames) (I : Inv X pins σ H s) (ry : RelV y u)
    (hs : S [.ref a, y] H (fun v H' => ∃ t, v = .bl t ∧ G t H') E0) (k : ∀ t H' s', G t H' → Inv X pins σ H' s' → R (.bool t) s') : wpAny (model X.prog X.w) A (call (.ref f) [.ref a, u]) R X.xe s := by
  have e0 : Env0 X.prog X.w X.K X.mg X.base A X.stack s H := by
    have e := I.env0
    exact ⟨by rw [hfr]; exact e.frames, e.mod, e.bs, e.bsz, e.funs, e.frf, e.hok, e.bare⟩
  have hl := F.len _ _ _ _ hs
  have r2 : Vals [V.ref a, y] [Value.ref a, u] := .cons rfl (.cons ry .nil)
  refine wpAny_call (codeAny_mono (F.run A X.stack s H ⟨[.ref a, u], []⟩ [.ref a, u] [.ref a, y] _ E0 hr e0 (by
    have := hb s [.ref a, u] I.kIn (by simpa using hl)
    simpa using this) r2 hs) fun r s' hq => ?_)
  cases r with
  | error e => exact pass0 (X := X) pins σ H s e s' I hq
  | ok fl =>
    cases fl with
    | ret w =>
      obtain ⟨z, H', I', rz, t, ez, g⟩ := I.after hq
      subst ez
      cases rz
      exact k t H' s' g I'
    | next => exact False.elim hq
    | brk => exact False.elim hq
    | cont => exact False.elim hq
def rEqY (K : PySem.W.Frag) (C : Addr) (S : Sp) : R2 := fun x y H Q => ∃ a dx fs tb, x = .ref a ∧ H a = some (.ins C dx fs) ∧ TyX K H y tb ∧ PySem.W.notFirst K C tb = true ∧ S [x, y] H (fun v H' => ∃ t, v = .bl t ∧ Q (.bl t) H') E0
theorem op_eqY (c : CalE X.prog X.w X.K X.mg X.base n C S) (hr : Room n X.A) : OpR X (compareOp .Eq) (rEqY X.K C S) := by
  intro pins s σ H x y v u Q I rx ry hq
  obtain ⟨a, dx, fs, tb, rfl, ha, hT, nf, hS⟩ := hq
  obtain ⟨f, fd, F, hs, hf, hb⟩ := c
  cases rx
  obtain ⟨Pq, Z, pq, _⟩ := kit_of I ry hT
  obtain ⟨mA, J, _⟩ := ins_get I.hok ha
  obtain ⟨od, J, _⟩ := J.look
  obtain ⟨m, hF⟩ := I.fr
  show wpAny (model X.prog X.w) X.A (richCompare .Eq (.ref a) u) (EP X pins σ Q) X.xe s
  refine PySem.W.cmp_K (op := .Eq) (tb := tb) hr.units0 hF I.ok.mod.kin J (Z.ty _ _ I.kIn pq) nf hs hf ?_
  exact eq_runsY F hb hr rfl I ry hS fun t H' s' g I' => ⟨.bl t, H', I', rfl, g⟩
/-- of an instance, or of data -/
def rEqM (K : PySem.W.Frag) (C : Addr) (S : Sp) : R2 := fun x y H Q => rEqI C S x y H Q ∨ rEqY K C S x y H Q ∨ rEqD K x y H Q
theorem op_eqM (c : CalE X.prog X.w X.K X.mg X.base n C S) (hr : Room n X.A) (hu : X.A.units + 64 < cLine) : OpR X (compareOp .Eq) (rEqM X.K C S) := by
  intro pins s σ H x y v u Q I rx ry hq
  rcases hq with h | h | h
  · exact op_eqC c hr pins s σ H x y v u Q I rx ry h
  · exact op_eqY c hr pins s σ H x y v u Q I rx ry h
  · exact op_eqD hu pins s σ H x y v u Q I rx ry h
end
theorem notFirst_data {K : PySem.W.Frag} {C : Addr} : ∀ t ∈ ["NoneType", "bool", "int", "str", "list", "tuple", "dict"], PySem.W.notFirst K C (.type t) = true := by
  intro t ht
  unfold PySem.W.notFirst PySem.W.subIn
  simp only [List.mem_cons, List.not_mem_nil, or_false] at ht
  rcases ht with rfl | rfl | rfl | rfl | rfl | rfl | rfl <;> rfl
section
variable {C : Addr} {B : Hp} {R R' : Rel} {α : Type} {args : α → List Rel} {pre : α → Prop} {res : α → Rel} {K : PySem.W.Frag} {d : PyData}
theorem Rv.eqDatY [i : IsIns C R] {t : Bool} (a : α) (hp : pre a) (ha : ∀ B x y, R B x → dat K d B y → AllR (args a) B [x, y]) (hr : res a = dat K (.bool t)) : Rv (rEqY K C (Pf args pre res)) B R (dat K d) (dat K (.bool t)) := fun x y B1 H s1 s2 hx hy Q q => by
  obtain ⟨b, dx, fs, rfl, hb⟩ := i.ins hx
  have ty : TyX K H y (.type (tyN d)) := ty_dat (dpMono s2 _ _ hy)
  refine ⟨b, dx, fs, _, rfl, s2 _ _ hb, ty, notFirst_data _ (tyN_mem d), B1, a, s2, ha _ _ _ hx hy, hp, fun v B' H' e hv => ?_⟩
  rw [hr] at hv
  have : v = .bl t := dat_bl hv
  exact ⟨t, this, q _ B' H' e (this ▸ hv)⟩
theorem Rv.orL {r1 r2 : R2} {T : Rel} (h : Rv r1 B R R' T) : Rv (fun x y H Q => r1 x y H Q ∨ r2 x y H Q) B R R' T := fun x y B1 H s1 s2 hx hy Q q => .inl (h x y B1 H s1 s2 hx hy Q q)
theorem Rv.orR {r1 r2 : R2} {T : Rel} (h : Rv r2 B R R' T) : Rv (fun x y H Q => r1 x y H Q ∨ r2 x y H Q) B R R' T := fun x y B1 H s1 s2 hx hy Q q => .inr (h x y B1 H s1 s2 hx hy Q q)
end
section
variable (P : Program) (w : World) (K : PySem.W.Frag) (mg : Str → Option Value) (base : Heap)
/-- .. made by keywords alone, turned round -/
structure CalCR (x : Str) (C : Addr) (f1 f2 : Str) : Prop where
  g : mg x = some (.ref C)
  ini : ∃ (f : Addr) (fd : FuncData), Mk K C f ∧ FnOk P w K mg base CX0 1 f fd ("self" :: [f1, f2]) (spIns C [f1, f2]) ∧ KBn K fd ("self" :: [f1, f2]) 1 [f2, f1] (fun us ws => us ++ ws.reverse) (fun vs zs => vs ++ zs.reverse)
end
theorem vals_rev : ∀ {vs : List V} {us : List Value}, Vals vs us → Vals vs.reverse us.reverse
  | _, _, .nil => .nil
  | _, _, .cons r t => by
    rw [List.reverse_cons, List.reverse_cons]
    exact vals_app (vals_rev t) (.cons r .nil)
theorem kbr_of {K : PySem.W.Frag} {x qual : Str} {st : Stmt} {f : Addr} {fd : FuncData} {ps ks : List Str} (F : Fun K x qual st f fd)
    (h : ∀ (kV doc pm : Value) (an : Option Addr) (cdv ct : Value) (us ws : List Value), us.length = 1 → ws.length = ks.length → bindArgs (PySem.W.fnOf x qual (defArgs st) (defBody st) (defScope st) .none kV doc pm an cdv ct) ⟨us, ks.zip ws⟩ = pure (ps.zip (us ++ ws.reverse))) :
    KBn K fd ps 1 ks (fun us ws => us ++ ws.reverse) (fun vs zs => vs ++ zs.reverse) := by
  obtain ⟨oc, od, kV, doc, pm, an, cdv, ct, osl, rfl, lk, hcd⟩ := F.ex
  exact ⟨fun s us ws _ l1 l2 => .of_eq (h kV doc pm an cdv ct us ws l1 l2), fun r1 r2 => vals_app r1 (vals_rev r2)⟩
section
variable {X : Cx} {x : Str} {C : Addr} {f1 f2 : Str} {k : Nat} {p pos : Pos} {kws : List Keyword} {tk : TA}
theorem pe_calCR (c : CalCR X.prog X.w X.K X.mg X.base x C f1 f2) (hr : Room k X.A) (hk : 2 ≤ k) (hg : Gl X x) (hkw : PK X kws tk)
    (hall : (backToKw pos (keywordEach kws X.env)).all (·.1.isSome) = true := by rfl) (hks : (backToKw pos (keywordEach kws X.env)).filterMap (·.1) = [f2, f1] := by rfl) (hdb : (x == ("__debug__" : Str)) = false := by decide)
    (hpl : ((backTo pos (starEach [] X.env)).any (·.1) || (backToKw pos (keywordEach kws X.env)).any (·.1.isNone)) = false := by rfl) :
    PE X (.Call (.Name x p) [] kws pos) (tMakeK C 0 [f2, f1].length (spIns C [f1, f2]) (fun vs zs => vs ++ zs.reverse) E0 tNil tk) := by
  obtain ⟨f, fd, M, F, b⟩ := c.ini
  exact pe_makeK0 M F (hr.mono hk) hg c.g b pass0 hkw hall hks hdb hpl
end
section
variable {σ : L2.St} {B : Hp} {R1 R2 : Rel}
theorem De.makeR {C : Addr} {f1 f2 : Str} {ta : TA} [m : MoA [R2, R1]] [m2 : MoA [R1, R2]] (ha : Da ta σ B [R2, R1]) : De (tMakeK C 0 2 (spIns C [f1, f2]) (fun vs zs => vs ++ zs.reverse) E0 tNil ta) σ B (insR C [(f1, R1), (f2, R2)]) := fun B1 H s1 s2 Q q =>
  ha B1 H s1 s2 _ fun vs B2 H2 e hv => by
    obtain ⟨u2, r, rfl, h2, u1, r', rfl, h1, hr⟩ := hv
    have hr : r' = [] := hr
    subst hr
    refine ⟨rfl, rfl, fun x dx hx hd ne => ?_⟩
    refine ⟨x, dx, [u1, u2], rfl, rfl, upd_same, rfl, ?_⟩
    rw [upd_over]
    have e1 : Ext B2 H2 B2 (upd H2 dx (.own x)) := .own e.bh hd
    have hx1 : upd H2 dx (.own x) x = none := by
      rw [upd_ne ne.symm]
      exact hx
    have e2 := Ext.new (o := .ins C dx ([f1, f2].zip [u1, u2])) e1.bh hx1
    exact q _ _ _ ((e.trans e1).trans e2) ⟨x, dx, _, rfl, upd_same, allF_zip (fs := [f1, f2]) (Rs := [R1, R2]) rfl (m2.mo (new_same (e.bh.free hx)) ⟨u1, [u2], rfl, h1, u2, [], rfl, h2, rfl⟩)⟩
end
end Wv

set_option Elab.async false
set_option linter.all false
set_option maxRecDepth 100000
set_option maxHeartbeats 1000000
/-! K10a: charts: what leads where. -/
namespace K10
open PySem PySem.Spec PyProof.Rows L2 Wb Wv Fm Fq Sb St Ch
def topS (i : Nat) : Stmt := PySem.Challenge.pw_whyblank_k10_whole_what_leads_where.main.body.getD i (.Pass ⟨0, 0, 0, 0⟩)
abbrev s_namesOf : Stmt := topS 2
abbrev s_nodesOf : Stmt := topS 5
abbrev s_reached : Stmt := topS 6
abbrev s_turned : Stmt := topS 7
abbrev s_parents : Stmt := topS 8
abbrev s_children : Stmt := topS 9
abbrev s_partners : Stmt := topS 10
abbrev s_ledFrom : Stmt := topS 11
abbrev s_ledTo : Stmt := topS 12
abbrev s_firstWithoutStart : Stmt := topS 13
abbrev s_orderOf : Stmt := topS 14
abbrev s_orderOrRing : Stmt := topS 15
abbrev s_ringAmong : Stmt := topS 16
abbrev s_deal : Stmt := topS 18
abbrev s_any : Stmt := topS 19
abbrev s_of : Stmt := topS 20
abbrev s_lnames : Stmt := topS 21
abbrev s_lquestions : Stmt := topS 22
abbrev s_lnodes : Stmt := topS 23
abbrev s_llines : Stmt := topS 24
abbrev s_lled : Stmt := topS 25
abbrev s_lorder : Stmt := topS 26
abbrev s_law : Stmt := topS 27
abbrev sp_reached (K : PySem.W.Frag) : Sp := Pf (α := (Bool × List Nd) × (Bool × List Ar)) (fun a => [dat K (seqD a.1.1 (a.1.2.map ndD)), dat K (seqD a.2.1 (a.2.2.map arD))]) (fun a => ReOk a.1.2 a.2.2) (fun a => dat K (.tuple ((ledL a.2.2 a.1.2).map ndD)))
section
variable {P : Program} {w : World} {K : PySem.W.Frag} {mg : Str → Option Value} {base : Heap} {C_Form C_Chart : Addr}
theorem sc_reached : FnScope ["starts", "steps", "found", "start", "fresh", "here", "end"] ["starts", "steps"] (defScope s_reached) := ⟨rfl, rfl, rfl, by decide +kernel, rfl, by decide +kernel, by decide +kernel⟩
theorem ok_reached (D : Def K mg "reached" s_reached ["starts", "steps"]) (n_list : mg "list" = none) (n_sorted : mg "sorted" = none) (n_tuple : mg "tuple" = none) : Cal P w K mg base CX0 1 "reached" s_reached ["starts", "steps"] (sp_reached K) := by
  refine D.ok sc_reached (fun vs H Q E h => ?_) (fun cdv f A outer s H vs Q E hr h => ?_)
  · exact pf_len h fun _ => rfl
  replace h := pf2 h
  obtain ⟨v, v1, B, ⟨⟨wy, st⟩, ⟨wz, as⟩⟩, rfl, hB, hv, hv1, ok, k⟩ := h
  refine ⟨_, (pss_cons (ps_setDcN (i := 2) (own := [("start", 3)]) (g := gName 3) (tt := tYes) rfl sc_reached.nd rfl rfl (sw_dictN rfl rfl rfl (by decide +kernel)) (pi_seq (pv 0)) (blkOk_by (own := [("start", 3)]) (N := ["starts", "steps", "found", "start", "fresh", "here", "end"]) (sc := defScope s_reached) (by decide +kernel)) (fun _ _ _ _ _ => (pg_name (i := 3) sc_reached.nd rfl (Or.inl rfl))) (fun _ _ _ _ _ => pts_nil) (fun _ _ _ _ _ => (pv 3)) (fun _ _ _ _ _ => pe_bl) hr.units)
    (pss_cons (ps_set (i := 4) sc_reached.nd rfl (Or.inl rfl) (pe_callTy (T := "list") (r := rListN P w) (cr_listN rfl) (by rfl) n_list (by decide +kernel) (pa_cons (pv 2) pa_nil)))
    (pss_cons (ps_while PassesOwn.never (pt_truth (pv 4) (by intro _; rfl)) (pss_cons (ps_set (i := 5) sc_reached.nd rfl (Or.inl rfl) (pe_bm0 PySem.F.plainAttrs_list PySem.F.slot_list_pop PySem.F.type_list_pop mt_pop (pv 4)))
      (pss_one (ps_for PassesOwn.never rfl (pi_seq (pv 1)) (pg_tup rfl (pgs_cons (pg_name (i := 3) sc_reached.nd rfl (Or.inl rfl)) (pgs_cons (pg_name (i := 6) sc_reached.nd rfl (Or.inl rfl)) pgs_nil))) (pss_one (ps_if (PW.pt (pw_and (pt_cmpR (op_eqD hr.units) (pv 3) (pv 5) (nomark _)) (pw_and1 (pt_cmpR (op_nnotIn (lt9 hr.units)) (pv 6) (pv 2) rfl)))) (pss_cons (show PS _ _ (sNPut K P w _ _ _) from ps_nput (lt9 hr.units) (pv 2) (pv 6) pe_bl (by rfl))
          (pss_one (ps_expr (pe_bm PySem.F.plainAttrs_list PySem.F.slot_list_append PySem.F.type_list_append mt_append (pv 4) (pa_cons (pv 6) pa_nil))))) pss_nil))))))
    (pss_one (ps_ret (pe_callTy call_tuple_of (by rfl) n_tuple (by decide +kernel) (pa_cons (pe_callB (r := rSortedN K P w) (cr_sortedN rfl hr.units) (by rfl) n_sorted (by decide +kernel) (pa_cons (pv 2) pa_nil)) pa_nil))))))), ?_⟩
  have line := sizeLine_eq
  have ok : ReOk st as := ok
  have nst := ok.nst
  have nas := ok.nas
  have sf := ok.sf
  have af := ok.af
  have hv : dat K (seqD wy (st.map ndD)) B v := hv
  have hv1 : dat K (seqD wz (as.map arD)) B v1 := hv1
  have k : ∀ (v : V) (B' H' : Hp), Ext B H B' H' → dat K (.tuple ((ledL as st).map ndD)) B' v → Q v H' := k
  refine s_raw (c_dcH (K := K) (P := P) (w := w) (as := st) (r := fun z => dat K (ndD z)) ndK hB (Di.seqM (f := ndD) (.var hv rfl)) (by omega) (fun a x Bn G ha sn sg hx => ⟨[some v, some v1, none, some x, none, none, none], fun Q q => q, rfl, Dt.yes, ?_, .bl⟩) fun D l B1 H1 e1 nD hid hks ll nd mem => ?_)
  · exact De.var (R := nkR K (ndK a)) (ndKd.nk hx) rfl
  change tSeq _ _ _ [some v, some v1, some (.ref D), none, none, none, none] H1
  refine s_raw ⟨.ref D, rfl, D, l, rfl, hid.at_, fun M hM => ?_⟩
  have MD : M ≠ D := fun e => by rw [e, hid.at_] at hM; cases hM
  have nM : H M = none := e1.oldH hM
  obtain ⟨ks, ek⟩ : ∃ ks : List Nd, l.map (·.1) = ks.map ndK := keys_of fun x hx => by
    obtain ⟨z, _, e⟩ := List.mem_map.mp ((mem x).mp hx)
    exact ⟨z, e⟩
  have kst : ∀ x, x ∈ ks ↔ x ∈ st := fun x => by
    have h : ndK x ∈ l.map (·.1) ↔ ndK x ∈ st.map ndK := mem (ndK x)
    rw [ek, ndKd.mem, ndKd.mem] at h
    exact h
  have ndk : ks.Nodup := nodup_keys (κ := ndK) (by rw [← ek]; exact nd)
  have hd0 := keys_dp ndKd hks ek
  have hv1 := Mo.mo e1.bb hv1
  change tSeq _ _ _ [some v, some v1, some (.ref D), none, some (.ref M), none, none] (upd H1 M (.lst (l.map fun e => V.ref e.2.1)))
  refine whileN (fun m σ J => ∃ B' l ks fr xs v3 v5 v6, m = 2 * (st.length + as.length - ks.length) + fr.length ∧ σ = [some v, some v1, some (.ref D), v3, some (.ref M), v5, v6] ∧ Ext B H B' J ∧ Same B1 B' ∧ Hid B' J D (NdiO P w D l) ∧ Hid B' J M (.lst xs) ∧ NksAt K B' l ∧ l.map (·.1) = ks.map ndK ∧ DpAll K B' xs (fr.map ndD) ∧ RInv as st ks fr)
    (fun σ J => ∃ B' l ks v3 v5 v6, σ = [some v, some v1, some (.ref D), v3, some (.ref M), v5, v6] ∧ Ext B H B' J ∧ Hid B' J D (NdiO P w D l) ∧ NksAt K B' l ∧ l.map (·.1) = ks.map ndK ∧ RInv as st ks []) _
    ⟨B1, l, ks, ks, _, none, none, none, rfl, rfl, e1.trans (.newH e1.bh hM), Same.refl _, hid.other MD.symm, .new e1.bh hM, hks, ek, hd0, ⟨ndk, fun x hx => ⟨x, (kst x).mp hx, .refl x⟩, fun s hs => (kst s).mpr hs, fun x hx => hx, fun a _ h => .inl h, Nat.le_refl _⟩⟩ ?_ ?_
  · rintro σ J ⟨B2, l2, ks2, v3, v5, v6, rfl, e2, hid2, hk2, ek2, r2⟩
    exact ret_sortedN (D := D) (l := l2) (ks := ks2) ndKd e2.bh rfl hid2 hk2 ek2 (ledL_asc as st) r2.nd r2.end_ fun v B' H' e h => k v B' H' (e2.trans e) h
  · rintro m σ J ⟨B2, l2, ks2, fr, xs, v3, v5, v6, rfl, rfl, e2, s2, hidD, hidM, hk2, ek2, hxs, r2⟩ Y Z hY hZ
    have xl := dpAll_len hxs
    rw [List.length_map] at xl
    refine ⟨.ref M, rfl, !xs.isEmpty, .inl ⟨xs, SqL.of hidM.at_, rfl⟩, ?_⟩
    rcases nil_or_last fr with rfl | ⟨fr, h, rfl⟩
    · have : xs = [] := List.eq_nil_of_length_eq_zero xl
      subst this
      exact hZ _ ⟨B2, l2, ks2, v3, v5, v6, rfl, e2, hidD, hk2, ek2, r2⟩
    have few2 := r2.few
    obtain ⟨xi, xh, rfl, hxi, hxh⟩ := dpAll_snoc hxs
    have ne : (!(xi ++ [xh]).isEmpty) = true := by simp
    rw [if_pos ne]
    refine hY _ ?_
    refine s_raw ⟨.ref M, rfl, .inl ⟨rfl, _, SqL.of hidM.at_⟩, M, xi ++ [xh], xh, rfl, rfl, hidM.at_, by simp, ?_⟩
    rw [List.dropLast_concat]
    have nMJ : H M = none := nM
    have e2b := e2.setH (u := .lst xi) hidM nMJ
    have hidM2 : Hid B2 (upd J M (.lst xi)) M (.lst xi) := hidM.set
    have hidD2 : Hid B2 (upd J M (.lst xi)) D (NdiO P w D l2) := hidD.other MD.symm
    have hv1 := Mo.mo s2 hv1
    change tFor _ _ _ _ [some v, some v1, some (.ref D), v3, some (.ref M), some xh, v6] (upd J M (.lst xi))
    refine s_forXE (B0 := B) (H0 := H) e2b (Di.seqM (K := K) (as := as) (f := arD) (.var hv1 rfl)) (fun i σ B' J => ∃ l ks fr' xs v3 v6, σ = [some v, some v1, some (.ref D), v3, some (.ref M), some xh, v6] ∧ Same B2 B' ∧ 2 * (st.length + as.length - ks.length) + fr'.length ≤ 2 * (st.length + as.length - ks2.length) + fr.length ∧ Hid B' J D (NdiO P w D l) ∧ Hid B' J M (.lst xs) ∧ NksAt K B' l ∧ l.map (·.1) = ks.map ndK ∧ DpAll K B' xs (fr'.map ndD) ∧ RIn as st h i ks fr')
      (fun B3 H3 e3 => ⟨l2, ks2, fr, xi, v3, v6, rfl, e3.bb, Nat.le_refl _, hidD2.ext e3, hidM2.ext e3, fun p hp => (hk2 p hp).same e3.bb, ek2, dpMonoAll e3.bb _ _ hxi, r2.begin⟩) ?_ ?_
    · rintro B3 i R x σ' Bc Hc Bn Hn s3 hR e3 sc ⟨l4, ks4, fr4, xs4, v34, v64, rfl, sb, ms, hidD4, hidM4, hk4, ek4, hxs4, r4⟩ e4 hx
      rw [List.getElem?_map] at hR
      obtain ⟨a, ha, rfl⟩ := Option.map_eq_some_iff.mp hR
      have mp := List.mem_of_getElem? ha
      have few4 := r4.few
      have e34 := e3.trans e4
      have hidD4 := hidD4.ext e4
      have hidM4 := hidM4.ext e4
      have hk4 : NksAt K Bn l4 := fun p hp => (hk4 p hp).same e4.bb
      have hxs4 := dpMonoAll e4.bb _ _ hxs4
      have xl4 := dpAll_len hxs4
      rw [List.length_map] at xl4
      obtain ⟨y, z, hy, hz, go⟩ := gTup2 e4.bh (dat_pair (d := ndD a.1) (e := ndD a.2) hx)
      refine go _ ?_
      change tIfS _ _ _ _ [some v, some v1, some (.ref D), some y, some (.ref M), some xh, some z] Hn
      have hxh := Mo.mo (sb.trans e4.bb) (show dat K (ndD h) B2 xh from hxh)
      have nh := ok.nod (r4.sub h r4.hin)
      obtain ⟨b, rfl, hb⟩ : nkR K (ndK a.2) Bn z := ndKd.nk hz
      have keep : ∀ {B5 H5 : Hp}, Ext Bn Hn B5 H5 → (a.1 ≠ h ∨ a.2 ∈ ks4) → Nh B H B3 (fun σ B' J => ∃ l ks fr' xs v3 v6, σ = [some v, some v1, some (.ref D), v3, some (.ref M), some xh, v6] ∧ Same B2 B' ∧ 2 * (st.length + as.length - ks.length) + fr'.length ≤ 2 * (st.length + as.length - ks2.length) + fr.length ∧ Hid B' J D (NdiO P w D l) ∧ Hid B' J M (.lst xs) ∧ NksAt K B' l ∧ l.map (·.1) = ks.map ndK ∧ DpAll K B' xs (fr'.map ndD) ∧ RIn as st h (i + 1) ks fr') [some v, some v1, some (.ref D), some y, some (.ref M), some xh, some (.ref b)] H5 := fun {B5 H5} e5 no =>
        ⟨B5, e34.trans e5, (sc.trans e4.bb).trans e5.bb, l4, ks4, fr4, xs4, _, _, rfl, (sb.trans e4.bb).trans e5.bb, ms, hidD4.ext e5, hidM4.ext e5, fun p hp => (hk4 p hp).same e5.bb, ek4, dpMonoAll e5.bb _ _ hxs4, r4.skip ha no⟩
      refine s_ifR ((Dt.test (K := K) (De.op (r := rEqD K) (.var hy rfl) (.var hxh rfl) (Rv.eqD (nd_sm (nas a mp).1).shaped (nd_sm nh).shaped))) Bn Hn (Same.refl _) e4.bh _ fun B5 H5 e5 => ?_)
      rw [ndD_eqv]
      refine ite2 (fun ea => ?_) (fun na => ?_)
      · have ea : a.1 = h := of_decide_eq_true ea
        have hidD5 := hidD4.ext e5
        have hidM5 := hidM4.ext e5
        have hk5 : NksAt K B5 l4 := fun p hp => (hk4 p hp).same e5.bb
        have hb5 := hb.same e5.bb
        have hz5 := Mo.mo e5.bb hz
        refine ⟨.ref b, rfl, .ref D, rfl, D, b, l4, ndK a.2, rfl, rfl, hidD5.at_, fun p hp => (hk5 p hp).same e5.bh, hb5.same e5.bh, _, rfl, ?_⟩
        have at2 : (atN l4 (ndK a.2)).isSome = decide (a.2 ∈ ks4) := by
          rw [atN_isSome, ek4]
          exact decide_eq_decide.mpr ndKd.mem
        rw [if_pos rfl, at2]
        refine ite2 (fun h1 => ?_) (fun h1 => keep e5 (.inr ?_))
        · have n2 : a.2 ∉ ks4 := fun q => by rw [decide_eq_true q] at h1; cases h1
          refine ⟨.ref D, rfl, .ref b, rfl, D, b, l4, ndK a.2, rfl, rfl, ⟨hidD5.at_, fun p hp => (hk5 p hp).same e5.bh, hb5.same e5.bh⟩, ?_, ?_⟩
          · have : l4.length = ks4.length := by have := congrArg List.length ek4; rwa [List.length_map, List.length_map] at this
            omega
          have hidM6 : Hid B5 (upd H5 D (NdiO P w D (putN l4 (ndK a.2) b (.bl true)))) M (.lst xs4) := hidM5.other MD
          have r5 := r4.take ha ea n2
          have few5 := r5.few
          rw [List.length_append] at few5
          refine ⟨.ref M, rfl, .inl ⟨rfl, _, SqL.of hidM6.at_⟩, .ref b, rfl, M, xs4, .ref b, rfl, rfl, hidM6.at_, ?_, ?_⟩
          · have := r4.le
            omega
          refine ⟨B5, ((e34.trans e5).setH hidD5 (nD)).setH hidM6 nM, (sc.trans e4.bb).trans e5.bb, putN l4 (ndK a.2) b (.bl true), ks4 ++ [a.2], fr4 ++ [a.2], xs4 ++ [.ref b], _, _, rfl, (sb.trans e4.bb).trans e5.bb, ?_, ?_, hidM6.set, NksAt.put hk5 hb5, ?_, ?_, r5⟩
          · rw [List.length_singleton] at few5
            rw [List.length_append, List.length_append]
            simp only [List.length_singleton]
            omega
          · exact hidD5.set.other MD.symm
          · rw [keys_put, ek4, if_neg fun q => n2 (ndKd.mem.mp q), List.map_append]
            rfl
          · rw [List.map_append]
            exact dpAll_app (dpMonoAll e5.bb _ _ hxs4) (.cons hz5 .nil)
        · simpa using h1
      · exact keep e5 (.inl fun e => na (decide_eq_true e))
    · rintro σ' B3 H3 e3 s3 ⟨l4, ks4, fr4, xs4, v34, v64, rfl, sb, ms, hidD4, hidM4, hk4, ek4, hxs4, r4⟩
      rw [List.length_map] at r4
      refine ⟨2 * (st.length + as.length - ks4.length) + fr4.length, ?_, B3, l4, ks4, fr4, xs4, v34, _, v64, rfl, rfl, e3, s2.trans sb, hidD4, hidM4, hk4, ek4, hxs4, r4.done⟩
      rw [List.length_append, List.length_singleton]
      omega
end
end K10

set_option Elab.async false
set_option linter.all false
set_option maxRecDepth 100000
set_option maxHeartbeats 1000000
/-! K10b: charts: nodes, parents, children, partners. -/
namespace K10
open PySem PySem.Spec PyProof.Rows L2 Wb Wv Fm Fq Sb St Ch
abbrev sp_namesOf (K : PySem.W.Frag) (CF : Addr) : Sp := Pf (α := Qs) (fun qs => [formR K CF qs]) (fun qs => FmOk qs) (fun qs => dat K (lotD (names qs)))
abbrev sp_nodesOf (K : PySem.W.Frag) (CF : Addr) : Sp := Pf (α := Qs) (fun qs => [formR K CF qs]) (fun qs => FmOk qs) (fun qs => dat K (.tuple ((nodesL (names qs)).map ndD)))
abbrev sp_turned (K : PySem.W.Frag) : Sp := Pf (α := Bool × List Ar) (fun a => [dat K (seqD a.1 (a.2.map arD))]) (fun a => a.2.length ≤ 100) (fun a => dat K (.list ((turn a.2).map arD)))
abbrev sp_parents (K : PySem.W.Frag) (CF CC : Addr) : Sp := Pf (α := Cht × Nd) (fun a => [chartR K CF CC a.1, dat K (ndD a.2)]) (fun a => ReOk [a.2] a.1.2.1) (fun a => dat K (.tuple ((parL a.1.2.1 a.2).map ndD)))
abbrev sp_children (K : PySem.W.Frag) (CF CC : Addr) : Sp := Pf (α := Cht × Nd) (fun a => [chartR K CF CC a.1, dat K (ndD a.2)]) (fun a => ReOk [a.2] a.1.2.1) (fun a => dat K (.tuple ((chiL a.1.2.1 a.2).map ndD)))
abbrev sp_partners (K : PySem.W.Frag) (CF CC : Addr) : Sp := Pf (α := Cht × Nd) (fun a => [chartR K CF CC a.1, dat K (ndD a.2)]) (fun a => ReOk [a.2] a.1.2.2) (fun a => dat K (.tuple ((ptnL a.1.2.2 a.2).map ndD)))
abbrev sp_ledFrom (K : PySem.W.Frag) (CF CC : Addr) : Sp := Pf (α := Cht × (Bool × List Nd)) (fun a => [chartR K CF CC a.1, dat K (seqD a.2.1 (a.2.2.map ndD))]) (fun a => ReOk a.2.2 a.1.2.1) (fun a => dat K (.tuple ((ledL a.1.2.1 a.2.2).map ndD)))
abbrev sp_ledTo (K : PySem.W.Frag) (CF CC : Addr) : Sp := Pf (α := Cht × (Bool × List Nd)) (fun a => [chartR K CF CC a.1, dat K (seqD a.2.1 (a.2.2.map ndD))]) (fun a => ReOk a.2.2 a.1.2.1) (fun a => dat K (.tuple ((ledL (turn a.1.2.1) a.2.2).map ndD)))
section
variable {P : Program} {w : World} {K : PySem.W.Frag} {mg : Str → Option Value} {base : Heap} {C_Form C_Chart : Addr}
theorem sc_namesOf : FnScope ["form", "question"] ["form"] (defScope s_namesOf) := ⟨rfl, rfl, rfl, by decide +kernel, rfl, by decide +kernel, by decide +kernel⟩
theorem ok_namesOf (D : Def K mg "names_of" s_namesOf ["form"]) (n_tuple : mg "tuple" = none) (K_Form : CalC P w K mg base "Form" C_Form ["questions"]) : Cal P w K mg base CX0 1 "names_of" s_namesOf ["form"] (sp_namesOf K C_Form) := by
  refine D.ok sc_namesOf (fun vs H Q E h => ?_) (fun cdv f A outer s H vs Q E hr h => ?_)
  · exact pf_len h fun _ => rfl
  replace h := pf1 h
  obtain ⟨v, B, qs, rfl, hB, hv, sm, k⟩ := h
  refine ⟨_, (pss_one (ps_ret (pe_callTy call_tuple_of (by rfl) n_tuple (by decide +kernel) (pa_cons (pe_lc (own := [("question", 1)]) (g := gName 1) (tt := tYes) rfl sc_namesOf.nd (pi_tup (pe_fld (pv 0) rfl)) (blkOk_by (own := [("question", 1)]) (N := ["form", "question"]) (sc := defScope s_namesOf) (by decide +kernel)) (fun _ _ _ _ _ => (pg_name (i := 1) sc_namesOf.nd rfl (Or.inl rfl))) (fun _ _ _ _ _ => pts_nil) (fun _ _ _ _ _ => (pe_ix (r := rIxT K) ix_tup (pv 1) pe_int (fun _ _ => rfl)))) pa_nil)))), ?_⟩
  have sm : FmOk qs := sm
  have few := sm.few
  have hv : formR K C_Form qs B v := hv
  refine s_ret (De.eq (De.tupleL (K := K) (De.lcA (as := qs) (r := fun q => dat K (encQ q)) (Di.tupM (De.fld (.var hv rfl) K_Form.c (K_Form.na _ (by simp)) rfl)) (fun q => .str q.1) (by rw [sizeLine_eq]; omega) fun q x Bn Hn _ _ _ hx => ⟨_, fun Q z => z, rfl, .op (r := rIxT K) (.var hx rfl) .int (Rv.ixTD rfl)⟩)) (e := lotD (names qs)) ?_) hB k
  unfold lotD names
  rw [List.map_map]
  rfl
theorem sc_nodesOf : FnScope ["form", "names", "name"] ["form"] (defScope s_nodesOf) := ⟨rfl, rfl, rfl, by decide +kernel, rfl, by decide +kernel, by decide +kernel⟩
theorem ok_nodesOf (D : Def K mg "nodes_of" s_nodesOf ["form"]) (C_namesOf : Cal P w K mg base CX0 1 "names_of" s_namesOf ["form"] (sp_namesOf K C_Form)) (n_tuple : mg "tuple" = none) : Cal P w K mg base CX0 2 "nodes_of" s_nodesOf ["form"] (sp_nodesOf K C_Form) := by
  refine D.ok sc_nodesOf (fun vs H Q E h => ?_) (fun cdv f A outer s H vs Q E hr h => ?_)
  · exact pf_len h fun _ => rfl
  replace h := pf1 h
  obtain ⟨v, B, qs, rfl, hB, hv, q, k⟩ := h
  refine ⟨_, (pss_cons (ps_set (i := 1) sc_nodesOf.nd rfl (Or.inl rfl) (pe_cal C_namesOf (hr.mono (by decide)) (by rfl) pass0 (pa_cons (pv 0) pa_nil)))
    (pss_one (ps_ret (pe_callTy call_tuple_of (by rfl) n_tuple (by decide +kernel) (pa_cons (pe_op op_catS (pe_lc (own := [("name", 2)]) (g := gName 2) (tt := tYes) rfl sc_nodesOf.nd (pi_tup (pv 1)) (blkOk_by (own := [("name", 2)]) (N := ["form", "names", "name"]) (sc := defScope s_nodesOf) (by decide +kernel)) (fun _ _ _ _ _ => (pg_name (i := 2) sc_nodesOf.nd rfl (Or.inl rfl))) (fun _ _ _ _ _ => pts_nil) (fun _ _ _ _ _ => (pe_tup (pa_cons pe_str (pa_cons (pv 2) pa_nil))))) (pe_lc (own := [("name", 2)]) (g := gName 2) (tt := tYes) rfl sc_nodesOf.nd (pi_tup (pv 1)) (blkOk_by (own := [("name", 2)]) (N := ["form", "names", "name"]) (sc := defScope s_nodesOf) (by decide +kernel)) (fun _ _ _ _ _ => (pg_name (i := 2) sc_nodesOf.nd rfl (Or.inl rfl))) (fun _ _ _ _ _ => pts_nil) (fun _ _ _ _ _ => (pe_tup (pa_cons pe_str (pa_cons (pv 2) pa_nil)))))) pa_nil))))), ?_⟩
  have line := sizeLine_eq
  have q : FmOk qs := q
  have q8 : (names qs).length ≤ 8 := by rw [names_len]; exact q.few
  have hv : formR K C_Form qs B v := hv
  refine s_set (De.call (args := fun qs : Qs => [formR K C_Form qs]) (res := fun qs => dat K (lotD (names qs))) qs (.cons (.var hv rfl) .nil) q) hB fun v1 B1 H1 e1 h1 => ?_
  have h1 : dat K (.tuple ((names qs).map .str)) B1 v1 := h1
  refine s_ret (De.eq (De.tupleL (De.op (r := rCatS K) (De.lcA (K := K) (as := names qs) (r := fun z => dat K (.str z)) (Di.tupM (f := PyData.str) (.var h1 rfl)) (fun z => ndD (false, z)) (by omega) fun z x Bn Hn _ _ _ hx => ⟨_, fun Q q => q, rfl, De.tupD (ds := [.str "a", .str z]) (.cons .str (.cons (.var hx rfl) .nil)) (by rw [line]; show 2 ≤ _; decide)⟩) (De.lcA (K := K) (as := names qs) (r := fun z => dat K (.str z)) (Di.tupM (f := PyData.str) (.var h1 rfl)) (fun z => ndD (true, z)) (by omega) fun z x Bn Hn _ _ _ hx => ⟨_, fun Q q => q, rfl, De.tupD (ds := [.str "b", .str z]) (.cons .str (.cons (.var hx rfl) .nil)) (by rw [line]; show 2 ≤ _; decide)⟩) (Rv.catS (by rw [List.length_map, List.length_map]; omega)))) ?_) e1.bh fun v B H e h => k v B H (e1.trans e) h
  unfold nodesL
  rw [List.map_append, List.map_map, List.map_map]
  rfl
theorem sc_turned : FnScope ["pairs", "first", "second"] ["pairs"] (defScope s_turned) := ⟨rfl, rfl, rfl, by decide +kernel, rfl, by decide +kernel, by decide +kernel⟩
theorem ok_turned (D : Def K mg "turned" s_turned ["pairs"])  : Cal P w K mg base CX0 1 "turned" s_turned ["pairs"] (sp_turned K) := by
  refine D.ok sc_turned (fun vs H Q E h => ?_) (fun cdv f A outer s H vs Q E hr h => ?_)
  · exact pf_len h fun _ => rfl
  replace h := pf1 h
  obtain ⟨v, B, ⟨wy, as⟩, rfl, hB, hv, few, k⟩ := h
  refine ⟨_, (pss_one (ps_ret (pe_lc (own := [("first", 1), ("second", 2)]) (g := gTup K 2 (gCons (gName 1) (gCons (gName 2) gNil))) (tt := tYes) rfl sc_turned.nd (pi_seq (pv 0)) (blkOk_by (own := [("first", 1), ("second", 2)]) (N := ["pairs", "first", "second"]) (sc := defScope s_turned) (by decide +kernel)) (fun _ _ _ _ _ => (pg_tup rfl (pgs_cons (pg_name (i := 1) sc_turned.nd rfl (Or.inl rfl)) (pgs_cons (pg_name (i := 2) sc_turned.nd rfl (Or.inl rfl)) pgs_nil)))) (fun _ _ _ _ _ => pts_nil) (fun _ _ _ _ _ => (pe_tup (pa_cons (pv 2) (pa_cons (pv 1) pa_nil))))))), ?_⟩
  have line := sizeLine_eq
  have few : as.length ≤ 100 := few
  have hv : dat K (seqD wy (as.map arD)) B v := hv
  refine s_ret (De.eq (De.lcA (K := K) (as := as) (r := fun a => dat K (arD a)) (Di.seqM (f := arD) (.var hv rfl)) (fun a => arD (a.2, a.1)) (by omega) fun a x Bn Hn _ _ sh hx => ?_) (by unfold turn; rw [List.map_map]; rfl)) hB k
  obtain ⟨y, z, hy, hz, go⟩ := gTup2 sh (dat_pair (d := ndD a.1) (e := ndD a.2) hx)
  exact ⟨_, fun Q q => go Q q, rfl, De.tupD (ds := [ndD a.2, ndD a.1]) (.cons (.var hz rfl) (.cons (.var hy rfl) .nil)) (by rw [line]; show 2 ≤ _; decide)⟩
theorem sc_parents : FnScope ["chart", "node", "start", "end"] ["chart", "node"] (defScope s_parents) := ⟨rfl, rfl, rfl, by decide +kernel, rfl, by decide +kernel, by decide +kernel⟩
theorem ok_parents (D : Def K mg "parents" s_parents ["chart", "node"]) (n_tuple : mg "tuple" = none) (K_Chart : CalC P w K mg base "Chart" C_Chart ["form", "arrows", "bows"]) : Cal P w K mg base CX0 1 "parents" s_parents ["chart", "node"] (sp_parents K C_Form C_Chart) := by
  refine D.ok sc_parents (fun vs H Q E h => ?_) (fun cdv f A outer s H vs Q E hr h => ?_)
  · exact pf_len h fun _ => rfl
  replace h := pf2 h
  obtain ⟨v, v1, B, ⟨c, n⟩, rfl, hB, hv, hv1, ok, k⟩ := h
  refine ⟨_, (pss_one (ps_ret (pe_callTy call_tuple_of (by rfl) n_tuple (by decide +kernel) (pa_cons (pe_lc (own := [("start", 2), ("end", 3)]) (g := gTup K 2 (gCons (gName 2) (gCons (gName 3) gNil))) rfl sc_parents.nd (pi_tup (pe_fld (pv 0) rfl)) (blkOk_by (own := [("start", 2), ("end", 3)]) (N := ["chart", "node", "start", "end"]) (sc := defScope s_parents) (by decide +kernel)) (fun _ _ _ _ _ => (pg_tup rfl (pgs_cons (pg_name (i := 2) sc_parents.nd rfl (Or.inl rfl)) (pgs_cons (pg_name (i := 3) sc_parents.nd rfl (Or.inl rfl)) pgs_nil)))) (fun _ _ _ _ _ => pts_one (pt_cmpR (r := rEqD K) (op_eqD hr.units) (pv 3) (pv 1) (nomark _))) (fun _ _ _ _ _ => (pv 2))) pa_nil)))), ?_⟩
  have line := sizeLine_eq
  have ok : ReOk [n] c.2.1 := ok
  have af := ok.af
  have nn := ok.nst n (List.mem_singleton.mpr rfl)
  have hv : chartR K C_Form C_Chart c B v := hv
  have hv1 : dat K (ndD n) B v1 := hv1
  refine s_ret (De.eq (De.tupleL (De.lcD (K := K) (as := c.2.1) (r := fun a => dat K (arD a)) (Di.tupM (f := arD) (fldAr K_Chart (.var hv rfl))) (fun a => decide (a.2 = n)) (fun a => ndD a.1) (by omega) fun a x Bn Hn ha sn sh hx => ?_)) (by unfold parL; rw [List.map_map]; rfl)) hB k
  obtain ⟨y, z, hy, hz, go⟩ := gTup2 sh (dat_pair (d := ndD a.1) (e := ndD a.2) hx)
  exact ⟨_, fun Q q => go Q q, rfl, Dt.eq (Dt.test (De.op (r := rEqD K) (.var hz rfl) (.var (Mo.mo sn hv1) rfl) (Rv.eqD (nd_sm (ok.nas a ha).2).shaped (nd_sm nn).shaped))) (ndD_eqv _ _), fun _ => .var hy rfl⟩
theorem sc_children : FnScope ["chart", "node", "start", "end"] ["chart", "node"] (defScope s_children) := ⟨rfl, rfl, rfl, by decide +kernel, rfl, by decide +kernel, by decide +kernel⟩
theorem ok_children (D : Def K mg "children" s_children ["chart", "node"]) (n_tuple : mg "tuple" = none) (K_Chart : CalC P w K mg base "Chart" C_Chart ["form", "arrows", "bows"]) : Cal P w K mg base CX0 1 "children" s_children ["chart", "node"] (sp_children K C_Form C_Chart) := by
  refine D.ok sc_children (fun vs H Q E h => ?_) (fun cdv f A outer s H vs Q E hr h => ?_)
  · exact pf_len h fun _ => rfl
  replace h := pf2 h
  obtain ⟨v, v1, B, ⟨c, n⟩, rfl, hB, hv, hv1, ok, k⟩ := h
  refine ⟨_, (pss_one (ps_ret (pe_callTy call_tuple_of (by rfl) n_tuple (by decide +kernel) (pa_cons (pe_lc (own := [("start", 2), ("end", 3)]) (g := gTup K 2 (gCons (gName 2) (gCons (gName 3) gNil))) rfl sc_children.nd (pi_tup (pe_fld (pv 0) rfl)) (blkOk_by (own := [("start", 2), ("end", 3)]) (N := ["chart", "node", "start", "end"]) (sc := defScope s_children) (by decide +kernel)) (fun _ _ _ _ _ => (pg_tup rfl (pgs_cons (pg_name (i := 2) sc_children.nd rfl (Or.inl rfl)) (pgs_cons (pg_name (i := 3) sc_children.nd rfl (Or.inl rfl)) pgs_nil)))) (fun _ _ _ _ _ => pts_one (pt_cmpR (r := rEqD K) (op_eqD hr.units) (pv 2) (pv 1) (nomark _))) (fun _ _ _ _ _ => (pv 3))) pa_nil)))), ?_⟩
  have line := sizeLine_eq
  have ok : ReOk [n] c.2.1 := ok
  have af := ok.af
  have nn := ok.nst n (List.mem_singleton.mpr rfl)
  have hv : chartR K C_Form C_Chart c B v := hv
  have hv1 : dat K (ndD n) B v1 := hv1
  refine s_ret (De.eq (De.tupleL (De.lcD (K := K) (as := c.2.1) (r := fun a => dat K (arD a)) (Di.tupM (f := arD) (fldAr K_Chart (.var hv rfl))) (fun a => decide (a.1 = n)) (fun a => ndD a.2) (by omega) fun a x Bn Hn ha sn sh hx => ?_)) (by unfold chiL; rw [List.map_map]; rfl)) hB k
  obtain ⟨y, z, hy, hz, go⟩ := gTup2 sh (dat_pair (d := ndD a.1) (e := ndD a.2) hx)
  exact ⟨_, fun Q q => go Q q, rfl, Dt.eq (Dt.test (De.op (r := rEqD K) (.var hy rfl) (.var (Mo.mo sn hv1) rfl) (Rv.eqD (nd_sm (ok.nas a ha).1).shaped (nd_sm nn).shaped))) (ndD_eqv _ _), fun _ => .var hz rfl⟩
theorem sc_partners : FnScope ["chart", "node", "ends", "one", "other"] ["chart", "node"] (defScope s_partners) := ⟨rfl, rfl, rfl, by decide +kernel, rfl, by decide +kernel, by decide +kernel⟩
theorem ok_partners (D : Def K mg "partners" s_partners ["chart", "node"]) (n_list : mg "list" = none) (C_turned : Cal P w K mg base CX0 1 "turned" s_turned ["pairs"] (sp_turned K)) (n_sorted : mg "sorted" = none) (n_tuple : mg "tuple" = none) (K_Chart : CalC P w K mg base "Chart" C_Chart ["form", "arrows", "bows"]) : Cal P w K mg base CX0 2 "partners" s_partners ["chart", "node"] (sp_partners K C_Form C_Chart) := by
  refine D.ok sc_partners (fun vs H Q E h => ?_) (fun cdv f A outer s H vs Q E hr h => ?_)
  · exact pf_len h fun _ => rfl
  replace h := pf2 h
  obtain ⟨v, v1, B, ⟨c, n⟩, rfl, hB, hv, hv1, ok, k⟩ := h
  refine ⟨_, (pss_cons (ps_set (i := 2) sc_partners.nd rfl (Or.inl rfl) (pe_op op_catS (pe_callTy call_list_of (by rfl) n_list (by decide +kernel) (pa_cons (pe_fld (pv 0) rfl) pa_nil)) (pe_cal C_turned (hr.mono (by decide)) (by rfl) pass0 (pa_cons (pe_fld (pv 0) rfl) pa_nil))))
    (pss_one (ps_ret (pe_callTy call_tuple_of (by rfl) n_tuple (by decide +kernel) (pa_cons (pe_callB (cr_sortedD hr.units) (by rfl) n_sorted (by decide +kernel) (pa_cons (pe_lc (own := [("one", 3), ("other", 4)]) (g := gTup K 2 (gCons (gName 3) (gCons (gName 4) gNil))) rfl sc_partners.nd (pi_list (pv 2)) (blkOk_by (own := [("one", 3), ("other", 4)]) (N := ["chart", "node", "ends", "one", "other"]) (sc := defScope s_partners) (by decide +kernel)) (fun _ _ _ _ _ => (pg_tup rfl (pgs_cons (pg_name (i := 3) sc_partners.nd rfl (Or.inl rfl)) (pgs_cons (pg_name (i := 4) sc_partners.nd rfl (Or.inl rfl)) pgs_nil)))) (fun _ _ _ _ _ => pts_one (pt_cmpR (r := rEqD K) (op_eqD hr.units) (pv 3) (pv 1) (nomark _))) (fun _ _ _ _ _ => (pv 4))) pa_nil)) pa_nil))))), ?_⟩
  have line := sizeLine_eq
  have ok : ReOk [n] c.2.2 := ok
  have af := ok.af
  have nn := ok.nst n (List.mem_singleton.mpr rfl)
  have hv : chartR K C_Form C_Chart c B v := hv
  have hv1 : dat K (ndD n) B v1 := hv1
  have tl : (turn c.2.2).length = c.2.2.length := List.length_map _
  have hA : De (tFld K (tVar 0) "bows") [some v, some v1, none, none, none] B (dat K (seqD true (c.2.2.map arD))) := fldBw K_Chart (.var hv rfl)
  refine s_set (De.eq (De.op (r := rCatS K) (De.listT (fldBw K_Chart (.var hv rfl))) (De.call (args := fun a : Bool × List Ar => [dat K (seqD a.1 (a.2.map arD))]) (res := fun a => dat K (.list ((turn a.2).map arD))) (true, c.2.2) (.one hA) (show c.2.2.length ≤ 100 by omega)) (Rv.catS (by rw [List.length_map, List.length_map]; show c.2.2.length + (turn c.2.2).length ≤ _; omega))) (e := .list ((c.2.2 ++ turn c.2.2).map arD)) (by rw [List.map_append])) hB fun v2 B1 H1 e1 h2 => ?_
  have nm : ∀ a ∈ c.2.2 ++ turn c.2.2, Nm a.1.2 ∧ Nm a.2.2 := fun a ha => by
    rcases List.mem_append.mp ha with z | z
    · exact ok.nas a z
    · obtain ⟨b, hb, rfl⟩ := List.mem_map.mp z
      exact (ok.nas b hb).symm
  refine s_ret (De.eq (De.tupleL (De.sorted (ds := (((c.2.2 ++ turn c.2.2).filter fun a => decide (a.1 = n)).map (·.2)).map ndD) (De.eq (De.lcD (K := K) (as := c.2.2 ++ turn c.2.2) (r := fun a => dat K (arD a)) (Di.listM (f := arD) (.var h2 rfl)) (fun a => decide (a.1 = n)) (fun a => ndD a.2) (by rw [List.length_append]; omega) fun a x Bn Hn ha sn sh hx => ?_) (by rw [List.map_map]; rfl)) (ndKd.alike _) (ndKd.sok _) (ndKd.depths _))) (by rw [srt_map]; rfl)) e1.bh fun v B H e h => k v B H (e1.trans e) h
  obtain ⟨y, z, hy, hz, go⟩ := gTup2 sh (dat_pair (d := ndD a.1) (e := ndD a.2) hx)
  exact ⟨_, fun Q q => go Q q, rfl, Dt.eq (Dt.test (De.op (r := rEqD K) (.var hy rfl) (.var (Mo.mo (e1.bb.trans sn) hv1) rfl) (Rv.eqD (nd_sm (nm a ha).1).shaped (nd_sm nn).shaped))) (ndD_eqv _ _), fun _ => .var hz rfl⟩
theorem sc_ledFrom : FnScope ["chart", "nodes"] ["chart", "nodes"] (defScope s_ledFrom) := ⟨rfl, rfl, rfl, by decide +kernel, rfl, by decide +kernel, by decide +kernel⟩
theorem ok_ledFrom (D : Def K mg "led_from" s_ledFrom ["chart", "nodes"]) (C_reached : Cal P w K mg base CX0 1 "reached" s_reached ["starts", "steps"] (sp_reached K)) (K_Chart : CalC P w K mg base "Chart" C_Chart ["form", "arrows", "bows"]) : Cal P w K mg base CX0 2 "led_from" s_ledFrom ["chart", "nodes"] (sp_ledFrom K C_Form C_Chart) := by
  refine D.ok sc_ledFrom (fun vs H Q E h => ?_) (fun cdv f A outer s H vs Q E hr h => ?_)
  · exact pf_len h fun _ => rfl
  replace h := pf2 h
  obtain ⟨v, v1, B, ⟨c, ⟨wy, st⟩⟩, rfl, hB, hv, hv1, ok, k⟩ := h
  refine ⟨_, (pss_one (ps_ret (pe_cal C_reached (hr.mono (by decide)) (by rfl) pass0 (pa_cons (pv 1) (pa_cons (pe_fld (pv 0) rfl) pa_nil))))), ?_⟩
  have ok : ReOk st c.2.1 := ok
  have hv : chartR K C_Form C_Chart c B v := hv
  have hv1 : dat K (seqD wy (st.map ndD)) B v1 := hv1
  have hA : De (tFld K (tVar 0) "arrows") [some v, some v1] B (dat K (seqD true (c.2.1.map arD))) := fldAr K_Chart (.var hv rfl)
  exact s_ret (De.call (args := fun a : (Bool × List Nd) × (Bool × List Ar) => [dat K (seqD a.1.1 (a.1.2.map ndD)), dat K (seqD a.2.1 (a.2.2.map arD))]) (res := fun a => dat K (.tuple ((ledL a.2.2 a.1.2).map ndD))) ((wy, st), (true, c.2.1)) (.cons (.var hv1 rfl) (.one hA)) ok) hB k
theorem sc_ledTo : FnScope ["chart", "nodes"] ["chart", "nodes"] (defScope s_ledTo) := ⟨rfl, rfl, rfl, by decide +kernel, rfl, by decide +kernel, by decide +kernel⟩
theorem ok_ledTo (D : Def K mg "led_to" s_ledTo ["chart", "nodes"]) (C_reached : Cal P w K mg base CX0 1 "reached" s_reached ["starts", "steps"] (sp_reached K)) (C_turned : Cal P w K mg base CX0 1 "turned" s_turned ["pairs"] (sp_turned K)) (K_Chart : CalC P w K mg base "Chart" C_Chart ["form", "arrows", "bows"]) : Cal P w K mg base CX0 2 "led_to" s_ledTo ["chart", "nodes"] (sp_ledTo K C_Form C_Chart) := by
  refine D.ok sc_ledTo (fun vs H Q E h => ?_) (fun cdv f A outer s H vs Q E hr h => ?_)
  · exact pf_len h fun _ => rfl
  replace h := pf2 h
  obtain ⟨v, v1, B, ⟨c, ⟨wy, st⟩⟩, rfl, hB, hv, hv1, ok, k⟩ := h
  refine ⟨_, (pss_one (ps_ret (pe_cal C_reached (hr.mono (by decide)) (by rfl) pass0 (pa_cons (pv 1) (pa_cons (pe_cal C_turned (hr.mono (by decide)) (by rfl) pass0 (pa_cons (pe_fld (pv 0) rfl) pa_nil)) pa_nil))))), ?_⟩
  have ok : ReOk st c.2.1 := ok
  have af := ok.af
  have hv : chartR K C_Form C_Chart c B v := hv
  have hv1 : dat K (seqD wy (st.map ndD)) B v1 := hv1
  have hA : De (tFld K (tVar 0) "arrows") [some v, some v1] B (dat K (seqD true (c.2.1.map arD))) := fldAr K_Chart (.var hv rfl)
  exact s_ret (De.call (args := fun a : (Bool × List Nd) × (Bool × List Ar) => [dat K (seqD a.1.1 (a.1.2.map ndD)), dat K (seqD a.2.1 (a.2.2.map arD))]) (res := fun a => dat K (.tuple ((ledL a.2.2 a.1.2).map ndD))) ((wy, st), (false, turn c.2.1)) (.cons (.var hv1 rfl) (.one (De.call (args := fun a : Bool × List Ar => [dat K (seqD a.1 (a.2.map arD))]) (res := fun a => dat K (.list ((turn a.2).map arD))) (true, c.2.1) (.one hA) (show c.2.1.length ≤ 100 by omega)))) (turn_ok ok)) hB k
end
end K10

set_option Elab.async false
set_option linter.all false
set_option maxRecDepth 100000
set_option maxHeartbeats 1000000
/-! K10d: orders. -/
namespace K10
open PySem PySem.Spec PyProof.Rows L2 Wb Wv Fm Fq Sb St Ch
abbrev sp_ringAmong (K : PySem.W.Frag) : Sp := Pf (α := Unit) (fun _ => [dat K .none, dat K .none]) (fun _ => False) (fun _ => dat K .none)
abbrev sp_orderOrRing (K : PySem.W.Frag) (CF : Addr) : Sp := Pf (α := Qs × List Ar) (fun a => [formR K CF a.1, dat K (.tuple (a.2.map arD))]) (fun a => OrOk a.1 a.2) (fun a => dat K (.tuple [.str "order", .tuple ((topoL a.1 a.2).map ndD)]))
abbrev sp_orderOf (K : PySem.W.Frag) (CF CC : Addr) : Sp := Pf (α := Cht) (fun c => [chartR K CF CC c]) (fun c => OrOk c.1 c.2.1) (fun c => dat K (.tuple ((topoL c.1 c.2.1).map ndD)))
section
variable {P : Program} {w : World} {K : PySem.W.Frag} {mg : Str → Option Value} {base : Heap} {C_Form C_Chart : Addr}
theorem sc_firstWithoutStart : FnScope ["left", "arrows", "held", "start", "end", "free", "node"] ["left", "arrows"] (defScope s_firstWithoutStart) := ⟨rfl, rfl, rfl, by decide +kernel, rfl, by decide +kernel, by decide +kernel⟩
theorem ok_firstWithoutStart (D : Def K mg "first_without_start" s_firstWithoutStart ["left", "arrows"])  : Cal P w K mg base CX0 1 "first_without_start" s_firstWithoutStart ["left", "arrows"] (spFirst K) := by
  refine D.ok sc_firstWithoutStart (fun vs H Q E h => ?_) (fun cdv f A outer s H vs Q E hr h => ?_)
  · obtain ⟨_, _, _, _, _, _, rfl, _⟩ := h
    rfl
  obtain ⟨B, M, xs, v1, left, as, rfl, hB, hs, hd, hv1, ok, kN, kS⟩ := h
  refine ⟨_, (pss_cons (ps_set (i := 2) sc_firstWithoutStart.nd rfl (Or.inr rfl) (pe_lc (own := [("start", 3), ("end", 4)]) (g := gTup K 2 (gCons (gName 3) (gCons (gName 4) gNil))) rfl sc_firstWithoutStart.nd (pi_tup (pv 1)) (blkOk_by (own := [("start", 3), ("end", 4)]) (N := ["left", "arrows", "held", "start", "end", "free", "node"]) (sc := defScope s_firstWithoutStart) (by decide +kernel)) (fun _ _ _ _ _ => (pg_tup rfl (pgs_cons (pg_name (i := 3) sc_firstWithoutStart.nd rfl (Or.inl rfl)) (pgs_cons (pg_name (i := 4) sc_firstWithoutStart.nd rfl (Or.inl rfl)) pgs_nil)))) (fun _ _ _ _ _ => pts_one (pt_cmpR (r := rInD K) (op_inD hr.u65) (pv 3) (pv 0) rfl)) (fun _ _ _ _ _ => (pv 4))))
    (pss_cons (ps_setLc (i := 5) (own := [("node", 6)]) (g := gName 6) rfl sc_firstWithoutStart.nd rfl rfl (sw_true rfl rfl rfl (by decide +kernel)) (pi_list (pv 0)) (blkOk_by (own := [("node", 6)]) (N := ["left", "arrows", "held", "start", "end", "free", "node"]) (sc := defScope s_firstWithoutStart) (by decide +kernel)) (fun _ _ _ _ _ => (pg_name (i := 6) sc_firstWithoutStart.nd rfl (Or.inl rfl))) (fun _ _ _ _ _ => pts_one (pt_cmpR (r := rNotInD K) (op_notInD hr.u65) (pv 6) (pv 2) rfl)) (fun _ _ _ _ _ => (pv 6)))
    (pss_one (ps_ret (pe_ifExp (pt_truth (pv 5) (by intro _; rfl)) (pe_ix ix_list (pv 5) pe_int (fun _ _ => rfl)) pe_non))))), ?_⟩
  have line := sizeLine_eq
  have lf := ok.sf
  have af := ok.af
  have hL : dat K (.list (left.map ndD)) B (.ref M) := .lst hs hd
  have shL : SeqAt.shaped (.list (left.map ndD)) = true := (ndsL_sm ok.nst (by omega)).shaped
  have hv1 : dat K (.tuple (as.map arD)) B v1 := hv1
  have xl := dpAll_len hd
  rw [List.length_map] at xl
  refine s_set (De.eq (De.lcD (K := K) (as := as) (r := fun a => dat K (arD a)) (Di.tupM (f := arD) (.var hv1 rfl)) (fun a => decide (a.1 ∈ left)) (fun a => ndD a.2) (by omega) fun a x Bn Hn ha sn sh hx => ?_) (e := .list (((as.filter fun a => decide (a.1 ∈ left)).map (·.2)).map ndD)) (by rw [List.map_map]; rfl)) hB fun v2 B1 H1 e1 h2 => ?_
  · obtain ⟨y, z, hy, hz, go⟩ := gTup2 sh (dat_pair (d := ndD a.1) (e := ndD a.2) hx)
    exact ⟨_, fun Q q => go Q q, rfl, Dt.eq (Dt.test (De.op (r := rInD K) (.var hy rfl) (.var (Mo.mo sn hL) rfl) (Rv.inL (nd_sm (ok.nas a ha).1).shaped shL))) (mem_eqv ndKd left a.1), fun _ => .var hz rfl⟩
  have hl : ((as.filter fun a => decide (a.1 ∈ left)).map (·.2)).length ≤ 60 := by rw [List.length_map]; exact Nat.le_trans (List.length_filter_le _ _) af
  have hnm : ∀ z ∈ (as.filter fun a => decide (a.1 ∈ left)).map (·.2), Nm z.2 := fun z hz => by
    obtain ⟨a, ha, rfl⟩ := List.mem_map.mp hz
    exact (ok.nas a (List.mem_filter.mp ha).1).2
  have shH : SeqAt.shaped (.list (((as.filter fun a => decide (a.1 ∈ left)).map (·.2)).map ndD)) = true := (ndsL_sm hnm (by omega)).shaped
  have hL1 := Mo.mo e1.bb hL
  have hxR : ∀ i, i < left.length → ∃ x, xs[i]? = some x := fun i hi => ⟨_, List.getElem?_eq_getElem (by omega)⟩
  -- the free ones, by their places
  let ix : List Nat := (List.range left.length).filter fun i => decide (left.getD i (false, "") ∈ free as left)
  change tSeq _ _ _ [some (.ref M), some v1, some v2, none, none, none, none] H1
  have hi : Di (iList K (tVar 0)) [some (.ref M), some v1, some v2, none, none, none, none] B1 ((List.range left.length).map fun i => idR K xs (left.map ndD) i) := Di.ids (e1.bb.seq hs) (dpMonoAll e1.bb _ _ hd) (by rw [List.length_map]) rfl
  refine s_set (De.lc (K := K) hi (fun i => decide (left.getD i (false, "") ∈ free as left)) (fun i => idR K xs (left.map ndD) i) (by rw [List.length_range]; omega) fun i x Bn Hn hi sn sh hx => ⟨[some (.ref M), some v1, some v2, none, none, none, some x], fun Q q => q, rfl, ?_, fun _ => .var hx rfl⟩) e1.bh fun v5 B2 H2 e2 h5 => ?_
  · have il := List.mem_range.mp hi
    have gl : left[i]? = some (left.getD i (false, "")) := by rw [List.getD_eq_getElem?_getD, List.getElem?_eq_getElem il]; rfl
    have gm : left.getD i (false, "") ∈ left := List.mem_of_getElem? gl
    obtain ⟨_, d, hd1, hd2⟩ := hx
    rw [List.getElem?_map, gl] at hd1
    cases hd1
    refine Dt.eq (Dt.test (De.op (r := rNotInD K) (.var (show dat K _ Bn x from hd2) rfl) (.var (Mo.mo sn h2) rfl) (Rv.notInL (nd_sm (ok.nst _ gm)).shaped shH))) ?_
    rw [mem_eqv ndKd]
    rw [Bool.eq_iff_iff, decide_eq_true_eq]
    exact ⟨fun h => List.mem_filter.mpr ⟨gm, by simpa using h⟩, fun h => by simpa using (List.mem_filter.mp h).2⟩
  have e12 := e1.trans e2
  obtain ⟨N, ys, rfl, hN, hys⟩ := h5
  have el : free as left = ((List.range left.length).filter fun i => decide (left.getD i (false, "") ∈ free as left)).map fun i => left.getD i (false, "") := by
    refine (show free as left = _ from filter_ix left (false, "") _).trans ?_
    congr 1
    refine List.filter_congr fun i hi => ?_
    have il := List.mem_range.mp hi
    have gm : left.getD i (false, "") ∈ left := by rw [List.getD_eq_getElem?_getD, List.getElem?_eq_getElem il]; exact List.getElem_mem il
    rw [Bool.eq_iff_iff, decide_eq_true_eq]
    exact ⟨fun h => List.mem_filter.mpr ⟨gm, by simpa using h⟩, fun h => by simpa using (List.mem_filter.mp h).2⟩
  refine s_retR ⟨.ref N, rfl, !ys.isEmpty, .inl ⟨ys, e2.bh.seq hN, rfl⟩, ?_⟩
  have yl := allR_len hys
  rw [List.length_map] at yl
  cases hf : (List.range left.length).filter fun i => decide (left.getD i (false, "") ∈ free as left) with
  | nil =>
    rw [hf] at yl el
    have : ys = [] := List.eq_nil_of_length_eq_zero yl
    subst this
    exact kN _ (ext_flat e12 hB) el
  | cons i r =>
    rw [hf] at hys el
    obtain ⟨y, yr, rfl, ⟨hy, _⟩, _⟩ := hys
    refine ⟨.ref N, rfl, N, y :: yr, 0, y, rfl, rfl, e2.bh.seq hN, show atI (y :: yr) ((0 : Nat) : Int) = some y from atI_nat rfl, ?_⟩
    have im : i ∈ (List.range left.length).filter fun i => decide (left.getD i (false, "") ∈ free as left) := by rw [hf]; exact List.mem_cons_self
    have il := List.mem_range.mp (List.mem_filter.mp im).1
    refine kS _ i y (left.getD i (false, "")) (ext_flat e12 hB) (by rw [el]; rfl) ?_ hy
    rw [List.getD_eq_getElem?_getD, List.getElem?_eq_getElem il]
    rfl
theorem sc_ringAmong : FnScope ["left", "arrows", "gone_back", "before", "start", "end", "ring"] ["left", "arrows"] (defScope s_ringAmong) := ⟨rfl, rfl, rfl, by decide +kernel, rfl, by decide +kernel, by decide +kernel⟩
theorem ok_ringAmong (D : Def K mg "ring_among" s_ringAmong ["left", "arrows"]) (n_tuple : mg "tuple" = none) : Cal P w K mg base CX0 1 "ring_among" s_ringAmong ["left", "arrows"] (sp_ringAmong K) := by
  refine D.ok sc_ringAmong (fun vs H Q E h => ?_) (fun cdv f A outer s H vs Q E hr h => ?_)
  · exact pf_len h fun _ => rfl
  replace h := pf2 h
  obtain ⟨v, v1, B, u, rfl, hB, hv, hv1, no, k⟩ := h
  refine ⟨_, (pss_cons (ps_set (i := 2) sc_ringAmong.nd rfl (Or.inr rfl) (pe_lst (pa_cons (pe_ix ix_list (pv 0) pe_int (fun _ _ => rfl)) pa_nil)))
    (pss_one (ps_while PassesOwn.never (pt_val pe_bl) (pss_cons (ps_set (i := 3) sc_ringAmong.nd rfl (Or.inl rfl) (pe_ix ix_list (pe_lc (own := [("start", 4), ("end", 5)]) (g := gTup K 2 (gCons (gName 4) (gCons (gName 5) gNil))) rfl sc_ringAmong.nd (pi_tup (pv 1)) (blkOk_by (own := [("start", 4), ("end", 5)]) (N := ["left", "arrows", "gone_back", "before", "start", "end", "ring"]) (sc := defScope s_ringAmong) (by decide +kernel)) (fun _ _ _ _ _ => (pg_tup rfl (pgs_cons (pg_name (i := 4) sc_ringAmong.nd rfl (Or.inl rfl)) (pgs_cons (pg_name (i := 5) sc_ringAmong.nd rfl (Or.inl rfl)) pgs_nil)))) (fun _ _ _ _ _ => pts_one (PW.pt (pw_and (pt_cmpR (r := rEqD K) (op_eqD hr.units) (pv 5) (pe_ix (r := rIxL K) ix_list (pv 2) (pe_un un_neg pe_int) (fun _ _ => rfl)) (nomark _)) (pw_and1 (pt_cmpR (r := rInD K) (op_inD hr.u65) (pv 4) (pv 0) rfl))))) (fun _ _ _ _ _ => (pv 4))) pe_int (fun _ _ => rfl)))
      (pss_cons (ps_if (pt_cmpR (op_inD hr.u65) (pv 3) (pv 2) rfl) (pss_cons (ps_set (i := 6) sc_ringAmong.nd rfl (Or.inl rfl) (pe_slice sl_list (pv 2) (po_some (pe_bm PySem.F.plainAttrs_list PySem.F.slot_list_index PySem.F.type_list_index (mt_indexD hr.u65) (pv 2) (pa_cons (pv 3) pa_nil))) po_none))
        (pss_one (ps_ret (pe_callTy call_tuple_of (by rfl) n_tuple (by decide +kernel) (pa_cons (pe_revL (pv 6)) pa_nil))))) pss_nil)
      (pss_one (ps_expr (pe_bm PySem.F.plainAttrs_list PySem.F.slot_list_append PySem.F.type_list_append mt_append (pv 2) (pa_cons (pv 3) pa_nil))))))))), ?_⟩
  exact no.elim
theorem sc_orderOrRing : FnScope ["form", "arrows", "left", "order", "node"] ["form", "arrows"] (defScope s_orderOrRing) := ⟨rfl, rfl, rfl, by decide +kernel, rfl, by decide +kernel, by decide +kernel⟩
theorem ok_orderOrRing (D : Def K mg "order_or_ring" s_orderOrRing ["form", "arrows"]) (C_nodesOf : Cal P w K mg base CX0 2 "nodes_of" s_nodesOf ["form"] (sp_nodesOf K C_Form)) (n_list : mg "list" = none) (C_firstWithoutStart : Cal P w K mg base CX0 1 "first_without_start" s_firstWithoutStart ["left", "arrows"] (spFirst K)) (C_ringAmong : Cal P w K mg base CX0 1 "ring_among" s_ringAmong ["left", "arrows"] (sp_ringAmong K)) (n_tuple : mg "tuple" = none) : Cal P w K mg base CX0 3 "order_or_ring" s_orderOrRing ["form", "arrows"] (sp_orderOrRing K C_Form) := by
  refine D.ok sc_orderOrRing (fun vs H Q E h => ?_) (fun cdv f A outer s H vs Q E hr h => ?_)
  · exact pf_len h fun _ => rfl
  replace h := pf2 h
  obtain ⟨v, v1, B, ⟨qs, as⟩, rfl, hB, hv, hv1, ok, k⟩ := h
  refine ⟨_, (pss_cons (ps_set (i := 2) sc_orderOrRing.nd rfl (Or.inl rfl) (pe_callTy call_list_of (by rfl) n_list (by decide +kernel) (pa_cons (pe_cal C_nodesOf (hr.mono (by decide)) (by rfl) pass0 (pa_cons (pv 0) pa_nil)) pa_nil)))
    (pss_cons (ps_set (i := 3) sc_orderOrRing.nd rfl (Or.inl rfl) (pe_lst pa_nil))
    (pss_cons (ps_while PassesOwn.never (pt_truth (pv 2) (by intro _; rfl)) (pss_cons (ps_set (i := 4) sc_orderOrRing.nd rfl (Or.inl rfl) (pe_cal C_firstWithoutStart (hr.mono (by decide)) (by rfl) pass0 (pa_cons (pv 2) (pa_cons (pv 1) pa_nil))))
      (pss_cons (ps_if (pt_cmpR op_isN (pv 4) pe_non (nomark _)) (pss_one (ps_ret (pe_tup (pa_cons pe_str (pa_cons (pe_cal C_ringAmong (hr.mono (by decide)) (by rfl) pass0 (pa_cons (pv 2) (pa_cons (pv 1) pa_nil))) pa_nil))))) pss_nil)
      (pss_cons (ps_expr (pe_bm PySem.F.plainAttrs_list PySem.F.slot_list_append PySem.F.type_list_append mt_append (pv 3) (pa_cons (pv 4) pa_nil)))
      (pss_one (ps_expr (pe_bm PySem.F.plainAttrs_list PySem.F.slot_list_remove PySem.F.type_list_remove (mt_removeD hr.u65) (pv 2) (pa_cons (pv 4) pa_nil))))))))
    (pss_one (ps_ret (pe_tup (pa_cons pe_str (pa_cons (pe_callTy call_tuple_of (by rfl) n_tuple (by decide +kernel) (pa_cons (pv 3) pa_nil)) pa_nil)))))))), ?_⟩
  have line := sizeLine_eq
  have ok : OrOk qs as := ok
  have q := ok.q
  have n16 := q.nlen
  obtain ⟨rk, hrk⟩ := ok.rank
  have hv : formR K C_Form qs B v := hv
  have hv1 : dat K (.tuple (as.map arD)) B v1 := hv1
  have k : ∀ (v : V) (B' H' : Hp), Ext B H B' H' → dat K (.tuple [.str "order", .tuple ((topoL qs as).map ndD)]) B' v → Q v H' := k
  have hre : ∀ left : List Nd, (∀ x ∈ left, x ∈ nodesL (names qs)) → left.length ≤ 60 → ReOk left as := fun left hl lf => ⟨fun s hs => q.nd (hl s hs), fun a ha => ⟨q.nd (ok.mem a ha).1, q.nd (ok.mem a ha).2⟩, lf, ok.few⟩
  refine s_raw (c_lstH (K := K) hB (De.call (args := fun qs : Qs => [formR K C_Form qs]) (res := fun qs => dat K (.tuple ((nodesL (names qs)).map ndD))) qs (.cons (.var hv rfl) .nil) q) fun M xs B1 H1 e1 nM hidM hxs => ?_)
  change tSeq _ _ _ [some v, some v1, some (.ref M), none, none] H1
  refine s_raw ⟨Nat.zero_le _, fun N hN => ?_⟩
  have MN : M ≠ N := fun e => by rw [← e, hidM.at_] at hN; cases hN
  have nN : H N = none := e1.oldH hN
  have hv1 := Mo.mo e1.bb hv1
  change tSeq _ _ _ [some v, some v1, some (.ref M), some (.ref N), none] (upd H1 N (.lst []))
  refine whileN (fun m σ J => ∃ B' left ord xs os v4, m = left.length ∧ σ = [some v, some v1, some (.ref M), some (.ref N), v4] ∧ Ext B H B' J ∧ Same B1 B' ∧ Hid B' J M (.lst xs) ∧ Hid B' J N (.lst os) ∧ DpAll K B' xs (left.map ndD) ∧ DpAll K B' os (ord.map ndD) ∧ (∀ x ∈ left, x ∈ nodesL (names qs)) ∧ left.Nodup ∧ left.length + ord.length ≤ 16 ∧ ord ++ topo as left.length left = topoL qs as)
    (fun σ J => ∃ B' os v4, σ = [some v, some v1, some (.ref M), some (.ref N), v4] ∧ Ext B H B' J ∧ Hid B' J N (.lst os) ∧ DpAll K B' os ((topoL qs as).map ndD)) _
    ⟨B1, nodesL (names qs), [], xs, [], none, rfl, rfl, e1.trans (.newH e1.bh hN), Same.refl _, hidM.other MN, .new e1.bh hN, hxs, .nil, fun x hx => hx, asc_nodup (nodes_asc q.asc), by simpa using n16, rfl⟩ ?_ ?_
  · rintro σ J ⟨B2, os, v4, rfl, e2, hid, hos⟩
    dsimp only
    refine s_retR ⟨.ref N, rfl, N, os, rfl, .inl ⟨SqL.of hid.at_, fun T hT => ⟨by rw [line]; show 2 ≤ _; decide, fun T2 hT2 => ?_⟩⟩⟩
    have e3 := e2.trans (Ext.new (o := .tup os) e2.bh hT)
    have e4 := e3.trans (Ext.new (o := .tup [.str "order", .ref T]) e3.bh hT2)
    refine k _ _ _ e4 (.tup (SqT.of upd_same) (.cons (.str _) (.cons (.tup (SqT.of ?_) (dpMonoAll ((new_same (none_of e2.bh hT)).trans (new_same (none_of e3.bh hT2))) _ _ hos)) .nil)))
    rw [upd_ne (fun e => by rw [← e, upd_same] at hT2; cases hT2)]
    exact upd_same
  · rintro m σ J ⟨B2, left, ord, xs2, os, v4, rfl, rfl, e2, s2, hidM2, hidN2, hx2, ho2, sub, nd, few, tp⟩ Y Z hY hZ
    have xl := dpAll_len hx2
    rw [List.length_map] at xl
    refine ⟨.ref M, rfl, !xs2.isEmpty, .inl ⟨xs2, SqL.of hidM2.at_, rfl⟩, ?_⟩
    rcases left.eq_nil_or_concat with rfl | ⟨_, _, el⟩
    · have : xs2 = [] := List.eq_nil_of_length_eq_zero xl
      subst this
      have tp : ord ++ [] = topoL qs as := tp
      rw [List.append_nil] at tp
      exact hZ _ ⟨B2, os, v4, rfl, e2, hidN2, by rw [← tp]; exact ho2⟩
    have ln : left ≠ [] := by rw [el]; simp
    clear el
    have xn : (!xs2.isEmpty) = true := by
      cases xs2 with
      | nil => exact absurd (List.eq_nil_of_length_eq_zero xl.symm) ln
      | cons _ _ => rfl
    rw [if_pos xn]
    refine hY _ ?_
    have hv2 := Mo.mo s2 hv1
    have re := hre left sub (by omega)
    obtain ⟨lk1, lk2⟩ := hid_look hidM2 e2.bh
    have fs := free_some hrk ln
    obtain ⟨y, ys, ef⟩ : ∃ y ys, free as left = y :: ys := by
      cases h : free as left with
      | nil => exact absurd h fs
      | cons y ys => exact ⟨y, ys, rfl⟩
    refine s_raw ⟨.ref M, rfl, v1, rfl, upd B2 M (.lst xs2), M, xs2, v1, left, as, rfl, lk2, SqL.of upd_same, dpMonoAll lk1 _ _ hx2, Mo.mo lk1 hv2, re, (fun _ _ h => absurd h fs), fun H3 i x y' e3 hy hl hx => ?_⟩
    rw [ef] at hy
    cases hy
    have e3 := ext_flat e3 e2.bh
    have e23 := e2.trans e3
    have hidM3 := hidM2.ext e3
    have hidN3 := hidN2.ext e3
    have dy : Dp K B2 x (ndD y) := by
      obtain ⟨d, hd, h⟩ := dpAll_at hx2 hx
      rw [List.getElem?_map, hl] at hd
      cases hd
      exact h
    obtain ⟨ya, rfl⟩ : ∃ a, x = .ref a := by cases dy; exact ⟨_, rfl⟩
    have ym : y ∈ left := List.mem_of_getElem? hl
    change tSeq _ _ _ [some v, some v1, some (.ref M), some (.ref N), some (.ref ya)] H3
    refine s_ifSR ⟨.ref ya, rfl, rfl, _, rfl, ?_⟩
    refine ite2 (fun h => by cases h) (fun _ => ?_)
    dsimp only [tNext]
    have ol := dpAll_len ho2
    rw [List.length_map] at ol
    refine s_drop ⟨.ref N, rfl, .inl ⟨rfl, _, SqL.of hidN3.at_⟩, .ref ya, rfl, N, os, .ref ya, rfl, rfl, hidN3.at_, by omega, ?_⟩
    have hidM4 : Hid B2 (upd H3 N (.lst (os ++ [.ref ya]))) M (.lst xs2) := hidM3.other MN
    have iy : left[left.idxOf y]? = some y := by
      have lt := List.idxOf_lt_length_of_mem ym
      rw [List.getElem?_eq_getElem lt, List.getElem_idxOf]
    have il := List.idxOf_lt_length_of_mem ym
    refine s_dropE ⟨.ref M, rfl, .inl ⟨rfl, _, SqL.of hidM4.at_⟩, .ref ya, rfl, M, xs2, left.map ndD, .ref ya, ndD y, ndD y, left.idxOf y, rfl, rfl, hidM4.at_, dpMonoAll ?_ _ _ hx2, dpMono ?_ _ _ dy, (ndsL_sm re.nst (by omega)).shaped, (nd_sm (re.nst y ym)).shaped, by rw [List.getElem?_map, iy]; rfl, (nd_eqv y y).mpr rfl, fun m z hm hz => ?_, ?_⟩
    · exact (e23.setH (u := .lst (os ++ [.ref ya])) hidN3 nN).bh
    · exact (e23.setH (u := .lst (os ++ [.ref ya])) hidN3 nN).bh
    · rw [List.getElem?_map] at hz
      obtain ⟨z', hz', rfl⟩ := Option.map_eq_some_iff.mp hz
      rw [ndD_eqv, decide_eq_false_iff_not]
      rintro rfl
      obtain ⟨lm, ew⟩ := List.getElem?_eq_some_iff.mp hz'
      have := List.not_of_lt_findIdx (p := (· == z')) (xs := left) hm
      rw [ew] at this
      simp at this
    refine ⟨left.length - 1, by omega, B2, left.erase y, ord ++ [y], xs2.eraseIdx (left.idxOf y), os ++ [.ref ya], _, ?_, rfl, (e23.setH (u := .lst (os ++ [.ref ya])) hidN3 nN).setH hidM4 nM, s2, hidM4.set, hidN3.set.other MN.symm, ?_, ?_, ?_, nd.erase y, ?_, ?_⟩
    · rw [List.length_erase_of_mem ym]
    · rw [List.erase_eq_eraseIdx_of_idxOf rfl, ← erase_map ndD left]
      exact dpAll_erase hx2 _
    · rw [List.map_append]
      exact dpAll_app ho2 (.cons dy .nil)
    · exact fun x hx => sub x (List.mem_of_mem_erase hx)
    · rw [List.length_erase_of_mem ym, List.length_append, List.length_singleton]
      have := List.length_pos_of_mem ym
      omega
    · rw [← tp, List.append_assoc]
      congr 1
      have lp := List.length_pos_of_mem ym
      obtain ⟨n, en⟩ : ∃ n, left.length = n + 1 := ⟨left.length - 1, by omega⟩
      rw [List.length_erase_of_mem ym, en, Nat.add_sub_cancel]
      rw [topo_succ ef]
      rfl
theorem sc_orderOf : FnScope ["chart"] ["chart"] (defScope s_orderOf) := ⟨rfl, rfl, rfl, by decide +kernel, rfl, by decide +kernel, by decide +kernel⟩
theorem ok_orderOf (D : Def K mg "order_of" s_orderOf ["chart"]) (C_orderOrRing : Cal P w K mg base CX0 3 "order_or_ring" s_orderOrRing ["form", "arrows"] (sp_orderOrRing K C_Form)) (K_Chart : CalC P w K mg base "Chart" C_Chart ["form", "arrows", "bows"]) : Cal P w K mg base CX0 4 "order_of" s_orderOf ["chart"] (sp_orderOf K C_Form C_Chart) := by
  refine D.ok sc_orderOf (fun vs H Q E h => ?_) (fun cdv f A outer s H vs Q E hr h => ?_)
  · exact pf_len h fun _ => rfl
  replace h := pf1 h
  obtain ⟨v, B, c, rfl, hB, hv, ok, k⟩ := h
  refine ⟨_, (pss_one (ps_ret (pe_ix ix_tup (pe_cal C_orderOrRing (hr.mono (by decide)) (by rfl) pass0 (pa_cons (pe_fld (pv 0) rfl) (pa_cons (pe_fld (pv 0) rfl) pa_nil))) pe_int (fun _ _ => rfl)))), ?_⟩
  have ok : OrOk c.1 c.2.1 := ok
  have hv : chartR K C_Form C_Chart c B v := hv
  exact s_ret (De.op (r := rIxT K) (De.call (args := fun a : Qs × List Ar => [formR K C_Form a.1, dat K (.tuple (a.2.map arD))]) (res := fun a => dat K (.tuple [.str "order", .tuple ((topoL a.1 a.2).map ndD)])) (c.1, c.2.1) (.cons (fldFm K_Chart (.var hv rfl)) (.one (fldAr K_Chart (.var hv rfl)))) ok) .int (Rv.ixTD rfl)) hB k
end
end K10

set_option Elab.async false
set_option linter.all false
set_option maxRecDepth 100000
set_option maxHeartbeats 4000000
/-! the deal of a law: _law_deal, _law_any, _law_of. -/
namespace K10
open PySem PySem.Spec PyProof.Rows L2 Wb
theorem ints_dp {K : PySem.W.Frag} {H : Hp} : ∀ cs : List Int, DpAll K H (cs.map V.int) (cs.map PyData.int)
  | [] => .nil
  | z :: cs => .cons (.int z) (ints_dp cs)
theorem ints_lay : ∀ cs : List Int, PyData.canLayAll0 (cs.map PyData.int) = true
  | [] => by simp [PyData.canLayAll0]
  | z :: cs => by simp [PyData.canLayAll0, PyData.canLay0, ints_lay cs]
theorem ints_depth : ∀ cs : List Int, PyData.depthAll (cs.map PyData.int) = 0
  | [] => by simp [PyData.depthAll]
  | z :: cs => by simp [PyData.depthAll, PyData.depth, ints_depth cs]
theorem ints_shaped (cs : List Int) : SeqAt.shaped (.list (cs.map PyData.int)) = true := by
  show (PyData.canLay0 (.list (cs.map PyData.int)) && decide (PyData.depth (.list (cs.map PyData.int)) ≤ 64)) = true
  rw [Bool.and_eq_true]
  refine ⟨by simp only [PyData.canLay0]; exact ints_lay cs, decide_eq_true ?_⟩
  simp only [PyData.depth, ints_depth]
  omega
theorem ints_eqv (cs : List Int) : PyData.eqv (.list (cs.map PyData.int)) (.list []) = cs.isEmpty := by
  cases cs with
  | nil => simp [PyData.eqv, PyData.eqvAll]
  | cons z r => simp [PyData.eqv, PyData.eqvAll]

section
variable {P : Program} {w : World} {K : PySem.W.Frag} {mg : Str → Option Value} {base : Heap}
theorem scAny : FnScope ["deal", "bound", "rest"] ["deal", "bound"] (defScope s_any) := ⟨rfl, rfl, rfl, by decide +kernel, rfl, by decide +kernel, by decide +kernel⟩

/-- how many cells are left -/
def left (c : Addr) (H : Hp) : Nat := match H c with
  | some (.lst xs) => xs.length
  | _ => 0

theorem okf_any {f : Addr} {fd : FuncData} (F : Fun K "_law_any" "_law_any" s_any f fd) (noInt : mg "int" = none) : FnOk P w K mg base CX0 1 f fd ["deal", "bound"] spAny := by
  refine F.ok scAny (fun vs H Q E h => ?_) (fun cdv A outer s H vs Q E hr h => ?_)
  · obtain ⟨d, c, bound, rfl, _⟩ := h
    rfl
  obtain ⟨d, c, bound, rfl, D, b0, b1, k⟩ := h
  refine ⟨_, pss_cons (ps_while PassesOwn.never (PW.pt (pw_and (pt_cmpR (op_neD hr.units) (pe_ix ix_list (pv 0) pe_int (fun _ _ => rfl)) (pe_lst pa_nil) (nomark _))
        (pw_and1 (pt_cmpR op_eq (pe_ix ix_list (pe_ix ix_list (pv 0) pe_int (fun _ _ => rfl)) (pe_un un_neg pe_int) (fun _ _ => rfl)) pe_int (nomark _)))))
      (pss_one (ps_expr (pe_bm0 PySem.F.plainAttrs_list PySem.F.slot_list_pop PySem.F.type_list_pop mt_pop (pe_ix ix_list (pv 0) pe_int (fun _ _ => rfl))))))
    (pss_cons (ps_if (pt_cmpR (op_neD hr.units) (pe_ix ix_list (pv 0) pe_int (fun _ _ => rfl)) (pe_lst pa_nil) (nomark _))
      (pss_cons (ps_set (i := 2) scAny.nd rfl (Or.inl rfl) (pe_callTy call_int1 (by rfl) noInt (by decide +kernel) (pa_cons (pe_bm0 PySem.F.plainAttrs_list PySem.F.slot_list_pop PySem.F.type_list_pop mt_pop (pe_ix ix_list (pv 0) pe_int (fun _ _ => rfl))) pa_nil)))
      (pss_cons (ps_expr (pe_bm PySem.F.plainAttrs_list PySem.F.slot_list_append PySem.F.type_list_append mt_append (pe_ix ix_list (pv 0) pe_int (fun _ _ => rfl)) (pa_cons (pe_op op_fdivW (pv 2) (pv 1)) pa_nil)))
      (pss_one (ps_ret (pe_op op_mod (pv 2) (pv 1)))))) pss_nil)
    (pss_cons (ps_asg (pe_op op_mod (pe_callTy call_int1 (by rfl) noInt (by decide +kernel) (pa_cons (pe_op op_add (pe_op op_mul (pe_ix ix_list (pv 0) pe_int (fun _ _ => rfl)) pe_int) pe_int) pa_nil)) pe_int) (pg_sub (pv 0) pe_int set_list))
    (pss_one (ps_ret (pe_op op_mod (pe_callTy call_int1 (by rfl) noInt (by decide +kernel) (pa_cons (pe_op op_fdiv (pe_ix ix_list (pv 0) pe_int (fun _ _ => rfl)) pe_int) pa_nil)) (pv 1))))))  , ?_⟩
  -- the cells that are 0 go
  refine whileI (fun σ H' => σ = [some (.ref d), some (.int bound), none] ∧ Deal H' d c ∧ Same (off H d c) (off H' d c))
    (fun σ H' => σ = [some (.ref d), some (.int bound), none] ∧ Deal H' d c ∧ Same (off H d c) (off H' d c)) (fun _ H' => left c H') ⟨rfl, D, Same.refl _⟩ ?_ ?_
  · -- behind it
    rintro σ G ⟨rfl, D', S'⟩
    obtain ⟨cs, mix, h1, h2, short, nn, m0, m1⟩ := D'.ex
    refine ⟨_, rfl, d, [.ref c, .int mix], 0, .ref c, rfl, rfl, SqL.of h1, rfl, ?_⟩
    refine ⟨Nat.zero_le _, fun l hl => ?_⟩
    have Sl : Same G (upd G l (.lst [])) := new_same hl
    have D2 : Deal (upd G l (.lst [])) d c := D'.same Sl
    have S2 : Same (off H d c) (off (upd G l (.lst [])) d c) := S'.trans (off_mono Sl)
    have h1' := Sl _ _ h1
    have h2' := Sl _ _ h2
    have ne := D'.ne
    refine ⟨.list (cs.map PyData.int), .list [], .lst (SqL.of h2') (ints_dp cs), .lst (SqL.of upd_same) .nil, ints_shaped cs, rfl, _, rfl, ?_⟩
    rw [ints_eqv]
    generalize upd G l (.lst []) = G2 at *
    rcases nil_or_last cs with rfl | ⟨ini, z, rfl⟩
    · -- no cell: the number goes on
      refine iteF ?_
      refine ⟨_, rfl, d, [.ref c, .int mix], 1, .int mix, rfl, rfl, SqL.of h1', rfl, ?_⟩
      refine ⟨_, _, rfl, rfl, .inl ⟨by omega, by omega⟩, _, _, rfl, rfl, .inl ⟨_, rfl, ?_⟩⟩
      refine ⟨_, _, rfl, rfl, (by show (0 : Int) < 2147483647; decide), ?_⟩
      refine ⟨_, rfl, d, [.ref c, .int mix], 1, 1, rfl, rfl, h1', rfl, ?_⟩
      obtain ⟨mix2, hm⟩ : ∃ mix2, mix2 = (mix * 48271 + 83) % 2147483647 := ⟨_, rfl⟩
      have at2 : upd G2 d (.lst ([V.ref c, V.int mix].set 1 (V.int ((mix * 48271 + 83) % 2147483647)))) d = some (.lst [.ref c, .int mix2]) := by
        rw [upd_same, hm]
        rfl
      have q0 : 0 ≤ mix2 := by omega
      have q1 : mix2 < 2147483647 := by omega
      refine ⟨_, rfl, d, [.ref c, .int mix2], 1, .int mix2, rfl, rfl, SqL.of at2, rfl, ?_⟩
      refine ⟨_, _, rfl, rfl, ⟨by decide, by decide⟩, .inl ⟨_, rfl, ?_⟩⟩
      refine ⟨_, rfl, _, _, rfl, rfl, b0, ?_⟩
      refine k _ _ (Int.emod_nonneg _ (by omega)) (Int.emod_lt_of_pos _ b0) ⟨[], mix2, at2, ?_, short, nn, q0, q1⟩ ?_
      · show upd G2 d _ c = _
        rw [upd_ne ne.symm]
        exact h2'
      · show Same _ (off (upd G2 d _) d c)
        rw [off_d]
        exact S2
    · -- a cell
      have e : (ini ++ [z]).isEmpty = false := by simp
      rw [e]
      refine iteT ?_
      have em : (ini ++ [z]).map V.int = ini.map V.int ++ [V.int z] := by simp
      rw [em] at h2'
      have z0 : 0 ≤ z := nn z (by simp)
      refine ⟨_, rfl, d, [.ref c, .int mix], 0, .ref c, rfl, rfl, SqL.of h1', rfl, .inl ⟨rfl, _, SqL.of h2'⟩, c, _, .int z, rfl, rfl, h2', by simp, .inl ⟨_, rfl, ?_⟩⟩
      rw [List.dropLast_concat]
      refine ⟨_, rfl, d, [.ref c, .int mix], 0, .ref c, rfl, rfl, SqL.of ((upd_ne ne).trans h1'), rfl, .inl ⟨rfl, _, SqL.of upd_same⟩, ?_⟩
      refine ⟨_, rfl, _, rfl, _, _, rfl, rfl, ?_, c, _, _, rfl, rfl, upd_same, ?_, ?_⟩
      · exact wide_div b0 (b := 300) (by omega) (by decide) (by decide)
      · rw [List.length_map, sizeLine_eq]
        simp at short
        omega
      refine ⟨_, rfl, _, rfl, _, _, rfl, rfl, b0, ?_⟩
      refine k _ _ (Int.emod_nonneg _ (by omega)) (Int.emod_lt_of_pos _ b0) ⟨ini ++ [z / bound], mix, ?_, ?_, ?_, ?_, m0, m1⟩ ?_
      · rw [upd_ne ne, upd_ne ne]
        exact h1'
      · rw [upd_same]
        simp
      · simpa using short
      · intro y hy
        rcases List.mem_append.mp hy with h | h
        · exact nn y (List.mem_append_left _ h)
        · simp at h
          rw [h]
          exact Int.ediv_nonneg z0 (by omega)
      · rw [off_c, off_c]
        exact S2
  · -- a turn
    rintro σ H' ⟨rfl, D', S'⟩ Y Z hY hZ
    obtain ⟨cs, mix, h1, h2, short, nn, m0, m1⟩ := D'.ex
    refine ⟨_, rfl, d, [.ref c, .int mix], 0, .ref c, rfl, rfl, SqL.of h1, rfl, ?_⟩
    refine ⟨Nat.zero_le _, fun l hl => ?_⟩
    have Sl : Same H' (upd H' l (.lst [])) := new_same hl
    have D2 : Deal (upd H' l (.lst [])) d c := D'.same Sl
    have S2 : Same (off H d c) (off (upd H' l (.lst [])) d c) := S'.trans (off_mono Sl)
    have h1' := Sl _ _ h1
    have h2' := Sl _ _ h2
    have len2 : left c H' = cs.length := by
      unfold left
      rw [h2]
      simp
    refine ⟨.list (cs.map PyData.int), .list [], .lst (SqL.of h2') (ints_dp cs), .lst (SqL.of upd_same) .nil, ints_shaped cs, rfl, _, rfl, ?_⟩
    rw [ints_eqv]
    generalize upd H' l (.lst []) = G at *
    rcases nil_or_last cs with rfl | ⟨ini, z, rfl⟩
    · refine iteF (iteF ?_)
      exact hZ _ ⟨rfl, D2, S2⟩
    · have e : (ini ++ [z]).isEmpty = false := by simp
      rw [e]
      refine iteT ?_
      have em : (ini ++ [z]).map V.int = ini.map V.int ++ [V.int z] := by simp
      rw [em] at h2'
      refine ⟨_, rfl, d, [.ref c, .int mix], 0, .ref c, rfl, rfl, SqL.of h1', rfl, 1, rfl, c, ini.map V.int ++ [V.int z], -1, .int z, rfl, rfl, SqL.of h2', atI_last _ _, rfl, _, rfl, ?_⟩
      refine ite2 (fun hz => ?_) (fun hz => ?_)
      · refine hY _ ?_
        refine ⟨_, rfl, d, [.ref c, .int mix], 0, .ref c, rfl, rfl, SqL.of h1', rfl, .inl ⟨rfl, _, SqL.of h2'⟩, c, _, .int z, rfl, rfl, h2', by simp, ?_⟩
        have ne := D2.ne
        refine ⟨⟨rfl, ⟨ini, mix, ?_, ?_, ?_, fun y hy => nn y (List.mem_append_left _ hy), m0, m1⟩, ?_⟩, ?_⟩
        · rw [upd_ne ne]
          exact h1'
        · rw [upd_same, List.dropLast_concat]
        · simp at short
          omega
        · rw [off_c]
          exact S2
        · rw [len2]
          unfold left
          rw [upd_same, List.dropLast_concat]
          simp
      · exact hZ _ ⟨rfl, D2, S2⟩
end
section
variable {P : Program} {w : World} {K : PySem.W.Frag} {mg : Str → Option Value} {base : Heap}
theorem scOf : FnScope ["deal", "some"] ["deal", "some"] (defScope s_of) := ⟨rfl, rfl, rfl, by decide +kernel, rfl, by decide +kernel, by decide +kernel⟩
theorem okf_of {f fA : Addr} {fd fdA : FuncData} (F : Fun K "_law_of" "_law_of" s_of f fd) (GA : FnOk P w K mg base CX0 1 fA fdA ["deal", "bound"] spAny) (mA : mg "_law_any" = some (.ref fA)) (kA : PySem.W.keepIn K (.ref fA) = true) (bA : Binds K fdA ["deal", "bound"] [])
    (noLen : mg "len" = none) : FnOk P w K mg base CX0 2 f fd ["deal", "some"] (spOf K) := by
  refine F.ok scOf (fun vs H Q E h => ?_) (fun cdv A outer s H vs Q E hr h => ?_)
  · obtain ⟨d, c, x, rfl, _⟩ := h
    rfl
  obtain ⟨d, c, x, rfl, D, k⟩ := h
  refine ⟨_, pss_one (ps_ret (pe_ix ix_seq (pv 1) (pe_call GA hr rfl mA kA bA .nil pass0 (pa_cons (pv 0) (pa_cons (pe_callB call_len (by rfl) noLen (by decide +kernel) (pa_cons (pv 1) pa_nil)) pa_nil))) (fun _ _ => rfl))), ?_⟩
  rcases k with ⟨p, xs, rfl, hs, ne, few, k⟩ | ⟨p, xs, rfl, hs, ne, few, k⟩ | ⟨z, rfl, ne, few, k⟩
  · have pos : 0 < xs.length := List.length_pos_iff.mpr ne
    refine ⟨_, rfl, _, rfl, _, rfl, _, xs.length, rfl, .inl ⟨xs, (off_le H d c).seq hs, rfl⟩, d, c, xs.length, rfl, D, by omega, by omega, fun r H' r0 r1 D' S' => ?_⟩
    obtain ⟨v, hv, at_⟩ := item_at r0 r1
    exact .inl ⟨p, xs, r, v, rfl, rfl, (off_le H' d c).seq (S'.seq hs), at_, k v H' hv D' S'⟩
  · have pos : 0 < xs.length := List.length_pos_iff.mpr ne
    refine ⟨_, rfl, _, rfl, _, rfl, _, xs.length, rfl, .inr ⟨xs, seqT (off_le H d c) hs, rfl⟩, d, c, xs.length, rfl, D, by omega, by omega, fun r H' r0 r1 D' S' => ?_⟩
    obtain ⟨v, hv, at_⟩ := item_at r0 r1
    exact .inr (.inl ⟨p, xs, r, v, rfl, rfl, seqT (off_le H' d c) (seqT S' hs), at_, k v H' hv D' S'⟩)
  · have line := sizeLine_eq
    refine ⟨_, rfl, _, rfl, _, rfl, _, z.length, rfl, ⟨by omega, rfl⟩, d, c, z.length, rfl, D, by omega, by omega, fun r H' r0 r1 D' S' => ?_⟩
    obtain ⟨j, rfl⟩ := Int.eq_ofNat_of_zero_le r0
    have hj : j < z.cps.toList.length := by
      have e : z.cps.toList.length = z.length := by simp [Str.length]
      omega
    exact .inr (.inr ⟨z, (j : Int), z.cps.toList[j], rfl, rfl, by omega, atI_nat (List.getElem?_eq_getElem hj), k _ H' (List.getElem_mem hj) D' S'⟩)

theorem scSource : FnScope ["script", "base", "cells", "cell", "mix"] ["script", "base"] (defScope s_deal) := ⟨rfl, rfl, rfl, by decide +kernel, rfl, by decide +kernel, by decide +kernel⟩
theorem okf_deal {f : Addr} {fd : FuncData} (F : Fun K "_law_deal" "_law_deal" s_deal f fd) (noInt : mg "int" = none) (noAbs : mg "abs" = none) : FnOk P w K mg base CX0 1 f fd ["script", "base"] (spDeal K) := by
  refine F.ok scSource (fun vs H Q E h => ?_) (fun cdv A outer s H vs Q E hr h => ?_)
  · obtain ⟨a, ns, bs, rfl, _⟩ := h
    rfl
  obtain ⟨a, ns, bs, rfl, hs, few, b0, b1, k⟩ := h
  refine ⟨_, pss_cons (ps_setLc (i := 2) (own := [("cell", 3)]) (g := gName 3) (tt := tYes) rfl scSource.nd rfl rfl (sw_true rfl rfl rfl (by decide +kernel)) (pi_list (pe_slice sl_list (pv 0) po_none (po_some pe_int)))
      (blkOk_by (own := [("cell", 3)]) (N := ["script", "base", "cells", "cell", "mix"]) (sc := defScope s_deal) (by decide +kernel)) (fun _ _ _ _ _ => pg_name (i := 3) scSource.nd rfl (Or.inl rfl)) (fun _ _ _ _ _ => pts_nil)
      (fun _ _ _ _ _ => pe_callB call_abs (by rfl) noAbs (by decide +kernel) (pa_cons (pe_callTy call_int1 (by rfl) noInt (by decide +kernel) (pa_cons (pv 3) pa_nil)) pa_nil)))
    (pss_cons (ps_set (i := 4) scSource.nd rfl (Or.inl rfl) (pe_op op_add (pe_op op_mul pe_int (pv 1)) pe_int))
    (pss_cons (ps_for PassesOwn.never rfl (pi_list (pv 2)) (pg_name (i := 3) scSource.nd rfl (Or.inl rfl))
      (pss_one (ps_set (i := 4) scSource.nd rfl (Or.inl rfl) (pe_op op_mod (pe_callTy call_int1 (by rfl) noInt (by decide +kernel) (pa_cons (pe_op op_add (pe_op op_add (pe_op op_mul (pv 4) pe_int) (pe_op op_mod (pv 3) pe_int)) pe_int) pa_nil)) pe_int))))
    (pss_one (ps_ret (pe_lst (pa_cons (pe_revL (pe_lc (own := [("cell", 3)]) (g := gName 3) rfl scSource.nd (pi_list (pv 2))
      (blkOk_by (own := [("cell", 3)]) (N := ["script", "base", "cells", "cell", "mix"]) (sc := defScope s_deal) (by decide +kernel)) (fun _ _ _ _ _ => pg_name (i := 3) scSource.nd rfl (Or.inl rfl))
      (fun _ _ _ _ _ => pts_one (pt_cmpR op_ge (pv 3) (pe_op op_pow pe_int pe_int) (nomark _))) (fun _ _ _ _ _ => pv 3))) (pa_cons (pv 4) pa_nil))))))), ?_⟩
  -- the slice
  refine ⟨_, rfl, 63, rfl, a, ns.map V.int, rfl, hs, fun p hp => ?_⟩
  obtain ⟨ms, em, fewM⟩ : ∃ ms : List Int, cutV (ns.map V.int) none (some 63) = ms.map V.int ∧ ms.length ≤ 63 := by
    refine ⟨(ns.drop (HT.sIx (ns.map V.int).length 0 none)).take (HT.sIx (ns.map V.int).length (ns.map V.int).length (some 63) - HT.sIx (ns.map V.int).length 0 none), ?_, ?_⟩
    · unfold cutV
      rw [List.map_take, List.map_drop]
    · rw [List.length_take, List.length_drop]
      omega
  rw [em]
  have Sp : Same H (upd H p (.lst (ms.map V.int))) := new_same hp
  have atp : upd H p (.lst (ms.map V.int)) p = some (.lst (ms.map V.int)) := upd_same
  generalize upd H p (.lst (ms.map V.int)) = H1 at *
  refine ⟨p, rfl, ⟨_, SqL.of atp⟩, fun D hD => ?_⟩
  -- the cells
  refine lc_list (K := K) (a := p) (xs := ms.map V.int) (fun i G => ∃ acc : List Int, G D = some (.lst (acc.map V.int)) ∧ acc.length = i ∧ (∀ z ∈ acc, 0 ≤ z) ∧ Same H1 G)
    ⟨[], upd_same, rfl, (fun z hz => nomatch hz), new_same hD⟩ (fun i G _ ⟨_, _, _, _, sg⟩ => sg.seq (SqL.of atp)) ?_ ?_
  · rintro i x G hx ⟨acc, hG, hi, hnn, sg⟩
    have hi' : i < ms.length := by
      have := (List.getElem?_eq_some_iff.mp hx).1
      simpa using this
    obtain ⟨z, rfl⟩ : ∃ z, x = V.int z := by
      rw [List.getElem?_map] at hx
      obtain ⟨z, _, e⟩ := Option.map_eq_some_iff.mp hx
      exact ⟨z, e.symm⟩
    refine ⟨rfl, ?_⟩
    refine ⟨_, rfl, .inl ⟨z, rfl, z, rfl, acc.map V.int, hG, ?_, acc ++ [if z < 0 then -z else z], ?_, ?_, ?_, ?_⟩⟩
    · rw [List.length_map, sizeLine_eq]
      omega
    · rw [upd_same]
      simp
    · simp [hi]
    · intro y hy
      rcases List.mem_append.mp hy with q | q
      · exact hnn y q
      · simp at q
        rw [q]
        split <;> omega
    · intro b' o e
      rw [upd_ne (ne_of_none e hD)]
      exact sg b' o e
  rintro G ⟨acc, hG, hi, hnn, sg⟩
  rw [List.length_map] at hi
  -- the first number
  refine ⟨_, rfl, _, _, rfl, rfl, .inl ⟨by decide, by decide⟩, _, _, rfl, rfl, _, rfl, D, rfl, ⟨_, SqL.of hG⟩, for_list (K := K) (a := D) (xs := acc.map V.int) (fun i σ G' => ∃ (mix : Int) (v : Option V), σ = [some (.ref a), some (.int bs), some (.ref D), v, some (.int mix)] ∧ 0 ≤ mix ∧ mix < 2147483647 ∧ G' = G)
    ⟨_, none, rfl, by omega, by omega, rfl⟩ (fun i σ G' _ ⟨_, _, _, _, _, e⟩ => by rw [e]; exact SqL.of hG) ?_ ?_⟩
  · rintro i y σ G' hy ⟨mix, v, rfl, q0, q1, rfl⟩
    obtain ⟨z, rfl⟩ : ∃ z, y = V.int z := by
      rw [List.getElem?_map] at hy
      obtain ⟨z, _, e⟩ := Option.map_eq_some_iff.mp hy
      exact ⟨z, e.symm⟩
    refine ⟨_, rfl, _, _, rfl, rfl, .inl ⟨by omega, by omega⟩, _, rfl, _, _, rfl, rfl, (by show (0 : Int) < 2147483579; decide), _, _, rfl, rfl, _, _, rfl, rfl, .inl ⟨_, rfl, ?_⟩⟩
    refine ⟨_, _, rfl, rfl, (by show (0 : Int) < 2147483647; decide), ?_⟩
    exact ⟨_, _, rfl, Int.emod_nonneg _ (by decide), Int.emod_lt_of_pos _ (by decide), rfl⟩
  rintro σ G' ⟨mix, v, rfl, q0, q1, rfl⟩
  -- the great cells, turned
  refine ⟨_, rfl, D, rfl, ⟨_, SqL.of hG⟩, fun D2 hD2 => ?_⟩
  refine lc_list (K := K) (a := D) (xs := acc.map V.int) (fun i G2 => ∃ big : List Int, G2 D2 = some (.lst (big.map V.int)) ∧ big.length ≤ i ∧ (∀ z ∈ big, 0 ≤ z) ∧ Same G' G2)
    ⟨[], upd_same, Nat.le_refl _, (fun z hz => nomatch hz), new_same hD2⟩ (fun i G2 _ ⟨_, _, _, _, s2⟩ => s2.seq (SqL.of hG)) ?_ ?_
  · rintro i x G2 hx ⟨big, hB, hl, hbn, s2⟩
    have hx2 := hx
    have hi' : i < acc.length := by
      have := (List.getElem?_eq_some_iff.mp hx).1
      simpa using this
    obtain ⟨z, hz, rfl⟩ : ∃ z, z ∈ acc ∧ x = V.int z := by
      rw [List.getElem?_map] at hx
      obtain ⟨z, hz, e⟩ := Option.map_eq_some_iff.mp hx
      exact ⟨z, List.mem_of_getElem? hz, e.symm⟩
    refine ⟨rfl, _, rfl, _, _, rfl, rfl, ⟨by decide, by decide, by decide⟩, _, _, rfl, rfl, _, rfl, ?_⟩
    refine ite2 (fun _ => ?_) (fun _ => ?_)
    · refine ⟨_, rfl, big.map V.int, hB, ?_, big ++ [z], ?_, ?_, ?_, ?_⟩
      · rw [List.length_map, sizeLine_eq]
        omega
      · rw [upd_same]
        simp
      · simp
        omega
      · intro y hy
        rcases List.mem_append.mp hy with q | q
        · exact hbn y q
        · simp at q
          rw [q]
          exact hnn z hz
      · intro b' o e
        rw [upd_ne (ne_of_none e hD2)]
        exact s2 b' o e
    · exact ⟨big, hB, by omega, hbn, s2⟩
  rintro G2 ⟨big, hB, hl, hbn, s2⟩
  rw [List.length_map] at hl
  refine ⟨D2, _, rfl, SqL.of hB, fun c hc => ?_⟩
  have Sc : Same G2 (upd G2 c (.lst (big.map V.int).reverse)) := new_same hc
  have atc : upd G2 c (.lst (big.map V.int).reverse) c = some (.lst (big.reverse.map V.int)) := by rw [upd_same, List.map_reverse]
  generalize upd G2 c (.lst (big.map V.int).reverse) = G3 at *
  refine ⟨_, rfl, (by show 2 ≤ sizeLine; decide), fun d hd => ?_⟩
  have S3 : Same H G3 := ((Sp.trans sg).trans s2).trans Sc
  have S4 : Same G3 (upd G3 d (.lst [.ref c, .int mix])) := new_same hd
  refine k d c _ (S3.free hd) (((Sp.trans sg).trans s2).free hc) ⟨big.reverse, mix, upd_same, S4 _ _ atc, ?_, ?_, q0, q1⟩ (S3.trans S4)
  · simp
    omega
  · intro z hz
    exact hbn z (List.mem_reverse.mp hz)
end
section
variable {P : Program} {w : World} {K : PySem.W.Frag} {mg : Str → Option Value} {base : Heap}
theorem ok_any (D : Def K mg "_law_any" s_any ["deal", "bound"]) (n_int : mg "int" = none) : Cal P w K mg base CX0 1 "_law_any" s_any ["deal", "bound"] spAny := by
  obtain ⟨f, fd, F, m, b, o⟩ := D
  exact ⟨f, fd, okf_any F n_int, m, F.kp, b, o⟩
theorem ok_of (D : Def K mg "_law_of" s_of ["deal", "some"]) (A : Cal P w K mg base CX0 1 "_law_any" s_any ["deal", "bound"] spAny) (n_len : mg "len" = none) : Cal P w K mg base CX0 2 "_law_of" s_of ["deal", "some"] (spOf K) := by
  obtain ⟨f, fd, F, m, b, o⟩ := D
  obtain ⟨fA, fdA, GA, mA, kA, bA, _⟩ := A
  exact ⟨f, fd, okf_of F GA mA kA bA n_len, m, F.kp, b, o⟩
theorem ok_deal (D : Def K mg "_law_deal" s_deal ["script", "base"]) (n_int : mg "int" = none) (n_abs : mg "abs" = none) : Cal P w K mg base CX0 1 "_law_deal" s_deal ["script", "base"] (spDeal K) := by
  obtain ⟨f, fd, F, m, b, o⟩ := D
  exact ⟨f, fd, okf_deal F n_int n_abs, m, F.kp, b, o⟩
end
end K10

set_option Elab.async false
set_option linter.all false
set_option maxRecDepth 100000
set_option maxHeartbeats 4000000
/-! Wy3: a drawn comprehension whose list stays hidden. -/
namespace Wv
open PySem PySem.Spec PyProof.Rows L2 Wb
section
variable {α : Type} {R R1 R2 : α → Rel} {pre : α → Prop} {res : α → Rel} {vs : List V} {H : Hp} {Q : VK} {E : XK}
variable {K : PySem.W.Frag} {σ : L2.St} {B H : Hp} {te : TE} {tt : TT} {d c : Addr} {Q : VK}
theorem c_lcM {α : Type} {as : List α} {r : α → Rel} {wi : TI} {g : TG} {vs : List Nat} (L : Dl B H d c) (hi : Di wi σ B (as.map r)) (few : as.length < sizeLine) (Pv : Nat → List PyData → Prop) (h0 : Pv 0 [])
    (hs : ∀ i a v B1 H1 out, as[i]? = some a → Dl B1 H1 d c → Same B B1 → r a B1 v → Pv i out → ∀ (Y : V → Hp → Prop) (N : Hp → Prop), (∀ y B4 H4 x, ExtD d c B1 H1 B4 H4 → dat K x B4 y → Pv (i + 1) (out ++ [x]) → Y y H4) →
      (∀ B4 H4, ExtD d c B1 H1 B4 H4 → Pv (i + 1) out → N H4) → g v (wipe σ vs) H1 fun σ2 H2 => wipe σ2 vs = wipe σ vs ∧ tt σ2 H2 fun b H3 => if b = true then te σ2 H3 Y else N H3)
    (hd : ∀ out D xs B' H', ExtD d c B H B' H' → H D = none → Ml d c B' H' D xs → AllR (out.map (dat K)) B' xs → Pv as.length out → Q (.ref D) H') : tLc wi g tt te vs σ H Q := hi B H (Same.refl _) L.bh _ fun J B2 H2 e hw => fun D hD => by
  have eD := ExtD.of L e
  have hw' : Walk J as.length (fun H => Same B2 H) (fun i H x H' => ∃ R, (as.map r)[i]? = some R ∧ ∀ Bc, Same B2 Bc → Same Bc H → ∃ Bn, Ext Bc H Bn H' ∧ R Bn x) := by
    have := hw
    unfold Wk at this
    rw [List.length_map] at this
    exact this
  refine lc_it hw' (fun i H' => ∃ B' xs out, ExtD d c B2 H2 B' H' ∧ Ml d c B' H' D xs ∧ AllR (out.map (dat K)) B' xs ∧ Pv i out ∧ out.length ≤ i) ?_ (fun i H' _ ⟨B', xs, out, e', _⟩ => e'.bb.trans e'.bh) ?_ ?_
  · exact ⟨B2, [], [], (Ml.new eD.dl hD).2, (Ml.new eD.dl hD).1, rfl, h0, Nat.le_refl _⟩
  · rintro i x H' H'' hi' ⟨Bc, xs, out, e', m, hxs, pv, lo⟩ ⟨R, hR, y⟩
    obtain ⟨Bn, e2, hx⟩ := y Bc e'.bb e'.bh
    rw [List.getElem?_map] at hR
    obtain ⟨a, ha, rfl⟩ := Option.map_eq_some_iff.mp hR
    have e2 := ExtD.of e'.dl e2
    have e12 := e'.trans eD.dl e2
    have len := allR_len hxs
    rw [List.length_map] at len
    refine hs i a x Bn H'' out ha e2.dl ((eD.bb.trans e'.bb).trans e2.bb) hx pv _ _ (fun y B4 H4 z e4 hz pz => ?_) fun B4 H4 e4 pz => ?_
    · have e14 := e12.trans eD.dl e4
      have m4 := (m.ext e2).ext e4
      refine ⟨xs, m4.at_, by omega, B4, xs ++ [y], out ++ [z], e14.setL m4 hD, (Ml.set e4.dl m4).1, ?_, pz, by simp; omega⟩
      rw [List.map_append]
      exact allR_snoc (MoA.mo (e2.bb.trans e4.bb) hxs) hz
    · exact ⟨B4, xs, out, e12.trans eD.dl e4, (m.ext e2).ext e4, MoA.mo (e2.bb.trans e4.bb) hxs, pz, by omega⟩
  · rintro H' ⟨B', xs, out, e', m, hxs, pv, lo⟩
    have hBD : H D = none := by
      cases h : H D with
      | none => rfl
      | some o =>
        rw [e.hh D o h] at hD
        cases hD
    exact hd out D xs B' H' (eD.trans L e') hBD m hxs pv
end
end Wv

set_option Elab.async false
set_option linter.all false
set_option maxRecDepth 100000
set_option maxHeartbeats 1000000
/-! We6: lists made out of a hidden list, hidden too. -/
namespace Wv
open PySem PySem.Spec PyProof.Rows L2 Wb
section
variable {d c : Addr} {B H : Hp}
/-- what is new was not there before -/
theorem ExtD.old {B' H' : Hp} {p : Addr} (L : Dl B H d c) (e : ExtD d c B H B' H') (h : H' p = none) : H p = none := by
  cases z : H p with
  | none => rfl
  | some o =>
    by_cases n1 : p = d
    · rw [n1] at h
      exact absurd h (Deal.atD e.deal).1
    · by_cases n2 : p = c
      · rw [n2] at h
        exact absurd h (Deal.atD e.deal).2
      · rw [e.keep z n1 n2] at h
        cases h
end
/-- te makes (or is) a hidden list, new since Hz, of so many things of a kind, while the list at M holds xs -/
def Dm (te : TE) (σ : L2.St) (d c M : Addr) (xs : List V) (B B0 Hz : Hp) (S : Rel) (n : Nat) : Prop := ∀ B1 H1, ExtD d c B0 Hz B1 H1 → Same B B1 → Ml d c B1 H1 M xs → ∀ Q : VK, (∀ p zs B2 H2, ExtD d c B1 H1 B2 H2 → Ml d c B2 H2 p zs → Hz p = none → zs.length = n → (∀ z ∈ zs, S B2 z) → Q (.ref p) H2) → te σ H1 Q
section
variable {K : PySem.W.Frag} {σ : L2.St} {d c M : Addr} {B B0 H Hz : Hp} {xs : List V} {S : Rel} {te tf : TE} {E : XK} {i j n m : Nat}
theorem Dm.var [mo : Mo S] (fr : Hz M = none) (h : σ[j]? = some (some (.ref M))) (hx : ∀ z ∈ xs, S B z) : Dm (tVar j) σ d c M xs B B0 Hz S xs.length := fun B1 H1 e s ml Q q => ⟨.ref M, h, q M xs B1 H1 (.refl e.dl) ml fr rfl fun z hz => mo.mo s (hx z hz)⟩
theorem Dm.cat [mo : Mo S] (L : Dl B0 Hz d c) (h1 : Dm te σ d c M xs B B0 Hz S n) (h2 : Dm tf σ d c M xs B B0 Hz S m) (few : n + m ≤ 1000) : Dm (tOp (rCatS K) te tf) σ d c M xs B B0 Hz S (n + m) := fun B1 H1 e0 s ml Q q =>
  h1 B1 H1 e0 s ml _ fun p zs B2 H2 e m1 _ l1 s1 => h2 B2 H2 (e0.trans L e) (s.trans e.bb) (ml.ext e) _ fun p2 zs2 B3 H3 e2 m2 _ l2 s2 => by
    have m1 := m1.ext e2
    refine ⟨p, p2, zs, zs2, rfl, rfl, SqL.of m1.at_, SqL.of m2.at_, by rw [sizeLine_eq]; omega, fun u hu => ?_⟩
    obtain ⟨m3, e3⟩ := Ml.new (xs := zs ++ zs2) e2.dl hu
    refine q u _ B3 _ ((e.trans e0.dl e2).trans e0.dl e3) m3 (ExtD.old L ((e0.trans L e).trans L e2) hu) (by rw [List.length_append]; omega) fun z hz => ?_
    rcases List.mem_append.mp hz with h | h
    · exact mo.mo e2.bb (s1 z h)
    · exact s2 z h
theorem Dm.one [mo : Mo S] (L : Dl B0 Hz d c) (h : Dw te σ d c B S) : Dm (tLst (tCons te tNil)) σ d c M xs B B0 Hz S 1 := fun B1 H1 e0 s ml Q q =>
  h B1 H1 s e0.dl _ fun v B2 H2 e hv => ⟨by rw [sizeLine_eq]; show 1 ≤ _; omega, fun u hu => by
    obtain ⟨m3, e3⟩ := Ml.new (xs := [v]) e.dl hu
    exact q u _ B2 _ (e.trans e0.dl e3) m3 (ExtD.old L (e0.trans L e) hu) rfl fun z hz => by rw [List.mem_singleton.mp hz]; exact hv⟩
theorem Dm.oneIx [mo : Mo S] {r : Nat} {v : V} (L : Dl B0 Hz d c) (hj : σ[j]? = some (some (.ref M))) (hi : σ[i]? = some (some (.int (r : Int)))) (hv : xs[r]? = some v) (hx : ∀ z ∈ xs, S B z) : Dm (tLst (tCons (tOp (rIxL K) (tVar j) (tVar i)) tNil)) σ d c M xs B B0 Hz S 1 := fun B1 H1 e0 s ml Q q =>
  ⟨.ref M, hj, .int r, hi, M, xs, r, v, rfl, rfl, SqL.of ml.at_, atIn hv, by rw [sizeLine_eq]; show 1 ≤ _; omega, fun u hu => by
    obtain ⟨m3, e3⟩ := Ml.new (xs := [v]) e0.dl hu
    exact q u _ B1 _ e3 m3 (ExtD.old L e0 hu) rfl fun z hz => by rw [List.mem_singleton.mp hz]; exact mo.mo s (hx v (List.mem_of_getElem? hv))⟩
theorem Dm.slFrom [mo : Mo S] {r : Nat} (L : Dl B0 Hz d c) (hj : σ[j]? = some (some (.ref M))) (hi : σ[i]? = some (some (.int (r : Int)))) (hr : r ≤ xs.length) (hx : ∀ z ∈ xs, S B z) : Dm (L2.tSl (rSlL K) (tVar j) (tPart (tVar i)) tNoPart) σ d c M xs B B0 Hz S (xs.length - r) := fun B1 H1 e0 s ml Q q =>
  ⟨.ref M, hj, .int r, hi, r, rfl, M, xs, rfl, SqL.of ml.at_, fun u hu => by
    obtain ⟨m3, e3⟩ := Ml.new (xs := cutV xs (some (r : Int)) none) e0.dl hu
    refine q u _ B1 _ e3 m3 (ExtD.old L e0 hu) ?_ fun z hz => mo.mo s (hx z (List.mem_of_mem_drop (List.mem_of_mem_take hz)))
    unfold cutV
    rw [HT.sIx_none, HT.sIx_nat, List.length_take, List.length_drop, Nat.min_eq_left hr, Nat.min_self]⟩
theorem Dm.slTo [mo : Mo S] {r : Nat} (L : Dl B0 Hz d c) (hj : σ[j]? = some (some (.ref M))) (hi : σ[i]? = some (some (.int (r : Int)))) (hr : r ≤ xs.length) (hx : ∀ z ∈ xs, S B z) : Dm (L2.tSl (rSlL K) (tVar j) tNoPart (tPart (tVar i))) σ d c M xs B B0 Hz S r := fun B1 H1 e0 s ml Q q =>
  ⟨.ref M, hj, .int r, hi, r, rfl, M, xs, rfl, SqL.of ml.at_, fun u hu => by
    obtain ⟨m3, e3⟩ := Ml.new (xs := cutV xs none (some (r : Int))) e0.dl hu
    refine q u _ B1 _ e3 m3 (ExtD.old L e0 hu) ?_ fun z hz => mo.mo s (hx z (List.mem_of_mem_drop (List.mem_of_mem_take hz)))
    unfold cutV
    rw [HT.sIx_none, HT.sIx_nat, List.length_take, List.length_drop, Nat.min_eq_left hr]
    omega⟩
/-- hidden lists, one by one -/
def Dms (ta : TA) (σ : L2.St) (d c M : Addr) (xs : List V) (B B0 Hz : Hp) (S : Rel) (lo hi k : Nat) : Prop := ∀ B1 H1, ExtD d c B0 Hz B1 H1 → Same B B1 → Ml d c B1 H1 M xs → ∀ Q : List V → Hp → Prop,
  (∀ vs B2 H2, ExtD d c B1 H1 B2 H2 → vs.length = k → (∀ v ∈ vs, ∃ p zs, v = .ref p ∧ Ml d c B2 H2 p zs ∧ Hz p = none ∧ lo ≤ zs.length ∧ zs.length ≤ hi ∧ ∀ z ∈ zs, S B2 z) → Q vs H2) → ta σ H1 Q
theorem Dms.nil {lo hi : Nat} : Dms tNil σ d c M xs B B0 Hz S lo hi 0 := fun B1 H1 e s ml Q q => q [] B1 H1 (.refl e.dl) rfl fun v h => nomatch h
theorem Dms.cons [mo : Mo S] {tr : TA} {lo hi k : Nat} (L : Dl B0 Hz d c) (h : Dm te σ d c M xs B B0 Hz S n) (t : Dms tr σ d c M xs B B0 Hz S lo hi k) (l1 : lo ≤ n) (l2 : n ≤ hi) : Dms (tCons te tr) σ d c M xs B B0 Hz S lo hi (k + 1) := fun B1 H1 e0 s ml Q q =>
  h B1 H1 e0 s ml _ fun p zs B2 H2 e m1 fr ln sz => t B2 H2 (e0.trans L e) (s.trans e.bb) (ml.ext e) _ fun vs B3 H3 e2 lv hvs => q _ B3 H3 (e.trans e0.dl e2) (by simp [lv]) fun v hv => by
    rcases List.mem_cons.mp hv with rfl | hv
    · exact ⟨p, zs, rfl, m1.ext e2, fr, by omega, by omega, fun z hz => mo.mo e2.bb (sz z hz)⟩
    · exact hvs v hv
/-- one of some hidden lists -/
theorem c_ixHid {tr : TA} {lo hi k r : Nat} {B1 : Hp} {Q : VK} (e0 : ExtD d c B0 Hz B1 H) (s : Same B B1) (ml : Ml d c B1 H M xs) (h : Dms tr σ d c M xs B B0 Hz S lo hi k) (k1 : k ≤ 1000) (hi2 : σ[i]? = some (some (.int (r : Int)))) (hr : r < k)
    (q : ∀ p zs B2 H2, ExtD d c B1 H B2 H2 → Ml d c B2 H2 p zs → Hz p = none → lo ≤ zs.length → zs.length ≤ hi → (∀ z ∈ zs, S B2 z) → Q (.ref p) H2) : tOp (rIxL K) (tLst tr) (tVar i) σ H Q :=
  h B1 H e0 s ml _ fun vs B2 H2 e lv hvs => ⟨by rw [sizeLine_eq]; omega, fun u hu => by
    have hv : vs[r]? = some (vs[r]'(by omega)) := List.getElem?_eq_getElem (by omega)
    obtain ⟨p, zs, ep, mp, fr, l1, l2, sz⟩ := hvs _ (List.getElem_mem (show r < vs.length by omega))
    have e3 : ExtD d c B2 H2 B2 (upd H2 u (.lst vs)) := .of e.dl (.own e.bh hu)
    refine ⟨.int r, hi2, u, vs, r, vs[r]'(by omega), rfl, rfl, SqL.of upd_same, atIn hv, ?_⟩
    rw [ep]
    exact q p zs B2 _ (e.trans e0.dl e3) (mp.ext e3) fr l1 l2 sz⟩
end
end Wv

set_option Elab.async false
set_option linter.all false
set_option maxRecDepth 100000
set_option maxHeartbeats 2000000
/-! Ch2: names, questions, arrows and bows as they are drawn; least and greatest. -/
namespace Ch
open PySem PySem.Spec PyProof.Rows L2 Wb Wv Fm Fq Sb St
/-! ### least, greatest -/
section
variable {α : Type} {dt : α → PyData} {κ : α → NestedKey}
def minO (dt : α → PyData) (a : α) (l : List α) : α := l.foldl (fun a y => if PySem.W.dataLt (dt y) (dt a) = true then y else a) a
def maxO (dt : α → PyData) (a : α) (l : List α) : α := l.foldl (fun a y => if PySem.W.dataLt (dt a) (dt y) = true then y else a) a
theorem minD_map : ∀ (l : List α) (a : α), PySem.W.minD (dt a) (l.map dt) = dt (minO dt a l)
  | [], _ => rfl
  | y :: l, a => by
    show PySem.W.minD (if PySem.W.dataLt (dt y) (dt a) = true then dt y else dt a) (l.map dt) = dt (minO dt (if PySem.W.dataLt (dt y) (dt a) = true then y else a) l)
    split <;> exact minD_map l _
theorem maxD_map : ∀ (l : List α) (a : α), PySem.W.maxD (dt a) (l.map dt) = dt (maxO dt a l)
  | [], _ => rfl
  | y :: l, a => by
    show PySem.W.maxD (if PySem.W.dataLt (dt a) (dt y) = true then dt y else dt a) (l.map dt) = dt (maxO dt (if PySem.W.dataLt (dt a) (dt y) = true then y else a) l)
    split <;> exact maxD_map l _
theorem minO_mem : ∀ (l : List α) (a : α), minO dt a l ∈ a :: l
  | [], a => List.mem_cons_self
  | y :: l, a => by
    have h := minO_mem l (if PySem.W.dataLt (dt y) (dt a) = true then y else a)
    show minO dt _ l ∈ _
    rcases List.mem_cons.mp h with e | e
    · rw [e]
      split
      · exact List.mem_cons_of_mem _ List.mem_cons_self
      · exact List.mem_cons_self
    · exact List.mem_cons_of_mem _ (List.mem_cons_of_mem _ e)
theorem minO_asc {a : α} {l : List α} (h : Asc dt (a :: l)) : minO dt a l = a := by
  induction l with
  | nil => rfl
  | cons y l ih =>
    obtain ⟨h1, h2⟩ := List.pairwise_cons.mp h
    show minO dt (if PySem.W.dataLt (dt y) (dt a) = true then y else a) l = a
    rw [if_neg (by rw [lt_asymm (h1 y List.mem_cons_self)]; decide)]
    exact ih (List.pairwise_cons.mpr ⟨fun x hx => h1 x (List.mem_cons_of_mem _ hx), (List.pairwise_cons.mp h2).2⟩)
theorem Kd.nn (k : Kd dt κ) (a : α) : dt a ≠ .none := by
  obtain ⟨xs, e⟩ := k.tupD a
  rw [e]
  exact PyData.noConfusion
theorem Kd.alikeAll (k : Kd dt κ) (l : List α) : PySem.W.AlikeAll (l.map dt) := ⟨fun x hx y hy => k.alike l x hx y hy, fun x hx => by
  obtain ⟨a, _, rfl⟩ := List.mem_map.mp hx
  exact k.nn a⟩
variable {K : PySem.W.Frag} {σ : L2.St} {B : Hp} {te : TE}
theorem De.minL (k : Kd dt κ) {a : α} {l : List α} (h : De te σ B (dat K (.list ((a :: l).map dt)))) : De (tCB (rMinD K) (tCons te tNil)) σ B (dat K (dt (minO dt a l))) :=
  De.cb (.one h) fun vs B1 H s1 s2 hvs Q q => by
    obtain ⟨v, r, rfl, hv, hr⟩ := hvs
    have hr : r = [] := hr
    subst hr
    cases hv with
    | lst hs hd =>
      refine ⟨_, _, dt a, l.map dt, rfl, s2.seq hs, dpMonoAll s2 _ _ hd, k.alikeAll (a :: l), k.depths (a :: l), fun i x hx hi => ?_⟩
      rw [minD_map] at hi
      obtain ⟨d, hd2, g⟩ := dpAll_at hd hx
      rw [List.map_cons, hi] at hd2
      cases hd2
      exact q _ _ _ (.refl s2) g
theorem De.maxL (k : Kd dt κ) {a : α} {l : List α} (h : De te σ B (dat K (.list ((a :: l).map dt)))) : De (tCB (rMaxD K) (tCons te tNil)) σ B (dat K (dt (maxO dt a l))) :=
  De.cb (.one h) fun vs B1 H s1 s2 hvs Q q => by
    obtain ⟨v, r, rfl, hv, hr⟩ := hvs
    have hr : r = [] := hr
    subst hr
    cases hv with
    | lst hs hd =>
      refine ⟨_, _, dt a, l.map dt, rfl, s2.seq hs, dpMonoAll s2 _ _ hd, k.alikeAll (a :: l), k.depths (a :: l), fun i x hx hi => ?_⟩
      rw [maxD_map] at hi
      obtain ⟨d, hd2, g⟩ := dpAll_at hd hx
      rw [List.map_cons, hi] at hd2
      cases hd2
      exact q _ _ _ (.refl s2) g
end
/-! ### what is drawn -/
def NmsP (n : Nat) (x : PyData) : Prop := ∃ zs : List Str, x = .list (zs.map .str) ∧ zs.length = n ∧ (∀ z ∈ zs, NmL 1 8 z) ∧ zs.Pairwise Sl
def QsP (n : Nat) (x : PyData) : Prop := ∃ qs : Qs, x = qsD qs ∧ FmOk qs ∧ 1 ≤ qs.length ∧ qs.length ≤ n ∧ ∀ q ∈ qs, q.2 ≤ 3
def LnP (ns : List Str) (m n : Nat) (x : PyData) : Prop := ∃ as bs : List Ar, x = .tuple [.tuple (as.map arD), .tuple (bs.map arD)] ∧ LnOk ns as bs ∧ as.length ≤ m ∧ bs.length ≤ n
theorem mkQ : ∀ {zs : List Str} {ds : List PyData}, Each (fun z x => ∃ m : Nat, x = encQ (z, m) ∧ 2 ≤ m ∧ m ≤ 3) zs ds → ∃ qs : Qs, ds = qs.map encQ ∧ names qs = zs ∧ ∀ q ∈ qs, 2 ≤ q.2 ∧ q.2 ≤ 3 := by
  intro zs
  induction zs with
  | nil =>
    intro ds h
    have : ds = [] := List.eq_nil_of_length_eq_zero h.1
    subst this
    exact ⟨[], rfl, rfl, fun q h => nomatch h⟩
  | cons z zs ih =>
    intro ds h
    cases ds with
    | nil => cases h.1
    | cons y ds =>
      obtain ⟨m, hy, hm⟩ := h.2 0 z y rfl rfl
      obtain ⟨qs, e1, e2, e3⟩ := ih (ds := ds) ⟨Nat.succ.inj h.1, fun i a x ha hx => h.2 (i + 1) a x (by simpa using ha) (by simpa using hx)⟩
      refine ⟨(z, m) :: qs, by rw [hy, e1]; rfl, by unfold names at *; rw [List.map_cons, e2], fun q hq => ?_⟩
      rcases List.mem_cons.mp hq with rfl | hq
      · exact hm
      · exact e3 q hq
theorem mkQs {zs : List Str} {ds : List PyData} {n : Nat} (h : Each (fun z x => ∃ m : Nat, x = encQ (z, m) ∧ 2 ≤ m ∧ m ≤ 3) zs ds) (z1 : 1 ≤ zs.length) (z3 : zs.length ≤ n) (z8 : zs.length ≤ 8) (hz : ∀ z ∈ zs, NmL 1 8 z) (hs : zs.Pairwise Sl) : QsP n (.tuple ds) := by
  obtain ⟨qs, e, en, hq⟩ := mkQ h
  have ln : qs.length = zs.length := by rw [← en, names_len]
  exact ⟨qs, by rw [e]; rfl, ⟨by omega, fun q h => ⟨(hq q h).1, by have := (hq q h).2; omega⟩, by rw [en]; exact hz, by rw [en]; exact hs⟩, by omega, by omega, fun q h => (hq q h).2⟩
def pool8 : List Str := ["a", "ab", "b", "debts", "pets", "pipe", "y", "z"]
theorem pool8_ok : pool8.Nodup ∧ ∀ z ∈ pool8, NmL 1 8 z := by
  have h1 : pool8.Nodup := by decide +kernel
  have h2 : ∀ z ∈ pool8, 1 ≤ z.length ∧ z.length ≤ 8 ∧ ∀ c ∈ z.cps.toList, 97 ≤ c ∧ c ≤ 122 := by decide +kernel
  exact ⟨h1, h2⟩
def stems : List Str := ["kkkkkkkk", "moss", "abaab"]
theorem stems_ok : ∀ z ∈ stems, NmL 1 8 z := by
  have h2 : ∀ z ∈ stems, 1 ≤ z.length ∧ z.length ≤ 8 ∧ ∀ c ∈ z.cps.toList, 97 ≤ c ∧ c ≤ 122 := by decide +kernel
  exact h2
def signs8 : List Nat := (Str.ofString "aeghmqtz").cps.toList
theorem signs8_ok : signs8.Nodup ∧ signs8.length = 8 ∧ ∀ c ∈ signs8, 97 ≤ c ∧ c ≤ 122 := by decide +kernel
def stemmed (z : Str) (r : Int) (c : Nat) : Str := cutS z none (some r) ++ ⟨#[c]⟩ ++ cutS z (some (r + 1)) none
theorem stemmed_inj {z : Str} {r : Int} {a b : Nat} (h : stemmed z r a = stemmed z r b) : a = b := by
  have h := congrArg (fun s : Str => s.cps.toList) h
  unfold stemmed at h
  simp only [app_cps] at h
  have h := List.append_cancel_right h
  have h := List.append_cancel_left h
  exact (List.cons.inj h).1
theorem stemmed_ok {z : Str} {r : Int} (hz : NmL 1 8 z) (r0 : 0 ≤ r) (r8 : r < 8) : (signs8.map (stemmed z r)).Nodup ∧ (signs8.map (stemmed z r)).length = 8 ∧ ∀ y ∈ signs8.map (stemmed z r), NmL 1 8 y := by
  obtain ⟨h1, h2, h3⟩ := signs8_ok
  refine ⟨List.pairwise_map.mpr (h1.imp fun ne e => ne (stemmed_inj e)), by rw [List.length_map, h2], fun y hy => ?_⟩
  obtain ⟨c, hc, rfl⟩ := List.mem_map.mp hy
  exact hz.stem (h3 c hc) r0 r8
/-! ### lists of one's own -/
section
variable {K : PySem.W.Frag} {σ : L2.St} {B H : Hp} {te tl : TE} {d c : Addr} {Q : VK}
theorem cutV_to (xs : List V) (n : Nat) : cutV xs none (some (n : Int)) = xs.take n := by
  unfold cutV
  rw [HT.sIx_none, HT.sIx_nat, List.drop_zero, Nat.sub_zero]
  rcases Nat.le_total n xs.length with h | h
  · rw [Nat.min_eq_left h]
  · rw [Nat.min_eq_right h, List.take_length, List.take_of_length_le h]
theorem cutV_from (xs : List V) (n : Nat) : cutV xs (some (n : Int)) none = xs.drop n := by
  unfold cutV
  rw [HT.sIx_none, HT.sIx_nat]
  rcases Nat.le_total n xs.length with h | h
  · rw [Nat.min_eq_left h, List.take_of_length_le (by rw [List.length_drop]; exact Nat.le_refl _)]
  · rw [Nat.min_eq_right h, List.drop_length, List.drop_eq_nil_of_le h]
    exact List.take_nil
theorem Di.itlR {Rs : List Rel} [m : MoA Rs] {a : Addr} (h : lstR K Rs B (.ref a)) : Di (fun _ H R => R (Itl K a) H) σ B Rs := fun B1 H s1 s2 Q q => by
  obtain ⟨v, hv, a', ha, _, r⟩ := Di.list (K := K) (De.var (i := 0) (σ := [some (.ref a)]) h rfl) B1 H s1 s2 Q q
  cases hv
  cases ha
  exact r
/-- a list opened while a deal goes on -/
theorem Ml.open {M : Addr} {xs : List V} {B0 H0 : Hp} (L0 : Dl B0 H0 d c) (e : ExtD d c B0 H0 B H) (m : Ml d c B H M xs) (h : H0 M = none) : ExtD d c B0 H0 (upd B M (.lst xs)) H := e.settle m h
theorem Dw.lcL {g : TG} {vs : List Nat} {P0 : List PyData → Prop} {S : Rel} (h : Dw tl σ d c B (datP K (listOf P0))) (k : ∀ a ds B', P0 ds → Same B B' → dat K (.list ds) B' (.ref a) → Dw (tLc (fun _ H R => R (Itl K a) H) g tYes te vs) σ d c B' S) :
    Dw (tLc (iList K tl) g tYes te vs) σ d c B S := fun B1 H s L Q q =>
  h B1 H s L _ fun v B2 H2 e ⟨x, ⟨ds, hx, hp⟩, hv⟩ => by
    subst hx
    have hv' := hv
    obtain ⟨a, xs, rfl, hs, hR⟩ := dat_lstR hv'
    exact ⟨a, rfl, ⟨xs, e.bh.seq hs⟩, k a ds B2 hp (s.trans e.bb) hv B2 H2 (Same.refl _) e.dl Q fun v B3 H3 e3 h3 => q v B3 H3 (e.trans L e3) h3⟩
end
section
variable {α : Type} {R R1 R2 : α → Rel} {pre : α → Prop} {res : α → Rel} {vs : List V} {H : Hp} {Q : VK} {E : XK}
theorem dpf3 (h : DPf (fun a => [R a, R1 a, R2 a]) pre res vs H Q E) : ∃ d v v1 v2 c B a, vs = [.ref d, v, v1, v2] ∧ Dl B H d c ∧ R a B v ∧ R1 a B v1 ∧ R2 a B v2 ∧ pre a ∧ ∀ v B' H', ExtD d c B H B' H' → res a B' v → Q v H' := by
  obtain ⟨d, c, B, a, us, rfl, L, hr, hp, k⟩ := h
  obtain ⟨v, r, rfl, h1, v1, r1, rfl, h2, v2, r2, rfl, h3, h4⟩ := hr
  have h4 : r2 = [] := h4
  subst h4
  exact ⟨d, v, v1, v2, c, B, a, rfl, L, h1, h2, h3, hp, k⟩
end
section
variable {K : PySem.W.Frag} {σ : L2.St} {d c : Addr} {E : XK}
theorem eqv_nilL : ∀ ds : List PyData, PyData.eqv (.list ds) (.list []) = ds.isEmpty
  | [] => rfl
  | _ :: _ => rfl
/-- while part != []: order.append(part.pop(any(deal, len(part)))) -/
theorem w_pops {D : Ends} {B0 H0 B' H' : Hp} {O p : Addr} {os xs : List V} {zs ps : List Nd} (L0 : Dl B0 H0 d c) (e : ExtD d c B0 H0 B' H') (hd : σ[0]? = some (some (.ref d))) (hO : σ[5]? = some (some (.ref O))) (hp : σ[7]? = some (some (.ref p)))
    (mO : Ml d c B' H' O os) (mp : Ml d c B' H' p xs) (ne : p ≠ O) (nO : H0 O = none) (np : H0 p = none) (hos : DpAll K B' os (zs.map ndD)) (hxs : DpAll K B' xs (ps.map ndD)) (nm : ∀ z ∈ ps, Nm z.2) (few : zs.length + ps.length ≤ 100)
    (k : ∀ B2 H2 os2 zs2, ExtD d c B0 H0 B2 H2 → Same B' B2 → Ml d c B2 H2 O os2 → DpAll K B2 os2 ((zs ++ zs2).map ndD) → zs2.Perm ps → (∀ M ys, Ml d c B' H' M ys → M ≠ O → M ≠ p → Ml d c B2 H2 M ys) → D.nx σ H2) :
    tWhile (tTest (tOp (rNeD K) (tVar 7) (tLst tNil))) (tDrop (tBM K "list" rAppend (tVar 5) (tCons (tBM K "list" rPopAt (tVar 7) (tCons (tCall spAny [] E (tCons (tVar 0) (tCons (tCB (Wv.rLen K) (tCons (tVar 7) tNil)) tNil))) tNil)) tNil))) D σ H' := by
  have line := sizeLine_eq
  refine whileN (fun m τ J => ∃ B2 os2 xs2 zs2 ps2, m = ps2.length ∧ τ = σ ∧ ExtD d c B0 H0 B2 J ∧ Same B' B2 ∧ Ml d c B2 J O os2 ∧ Ml d c B2 J p xs2 ∧ DpAll K B2 os2 ((zs ++ zs2).map ndD) ∧ DpAll K B2 xs2 (ps2.map ndD) ∧ (zs2 ++ ps2).Perm ps ∧ ∀ M ys, Ml d c B' H' M ys → M ≠ O → M ≠ p → Ml d c B2 J M ys)
    (fun τ J => τ = σ ∧ D.nx σ J) _ ⟨B', os, xs, [], ps, rfl, rfl, e, Same.refl _, mO, mp, by rw [List.append_nil]; exact hos, hxs, List.Perm.refl _, fun M ys h _ _ => h⟩ (fun τ J ⟨h, g⟩ => by rw [h]; exact g) ?_
  rintro m τ J ⟨B2, os2, xs2, zs2, ps2, rfl, rfl, e2, s2, mO2, mp2, ho2, hx2, pm, keep⟩ Y Z hY hZ
  have nm2 : ∀ z ∈ ps2, Nm z.2 := fun z hz => nm z (pm.mem_iff.mp (List.mem_append_right _ hz))
  have pl := pm.length_eq
  rw [List.length_append] at pl
  refine ⟨.ref p, hp, Nat.zero_le _, fun u hu => ?_⟩
  have e3 : ExtD d c B2 J B2 (upd J u (.lst [])) := .of e2.dl (.own e2.bh hu)
  have e23 := e2.trans L0 e3
  refine ⟨.list (ps2.map ndD), .list [], .lst (SqL.of (mp2.ext e3).at_) (dpMonoAll e3.bh _ _ hx2), .lst (SqL.of upd_same) .nil, (ndsL_sm nm2 (by omega)).shaped, rfl, _, rfl, ?_⟩
  rw [eqv_nilL]
  cases ps2 with
  | nil =>
    refine hZ _ ⟨rfl, k B2 _ os2 zs2 e23 s2 (mO2.ext e3) ho2 (by rw [List.append_nil] at pm; exact pm) fun M ys h n1 n2 => (keep M ys h n1 n2).ext e3⟩
  | cons z0 pr =>
    refine hY _ ?_
    have mO3 := mO2.ext e3
    have mp3 := mp2.ext e3
    have xl := dpAll_len hx2
    rw [List.length_map, List.length_cons] at xl
    have ol := dpAll_len ho2
    rw [List.length_map, List.length_append] at ol
    have plc : (z0 :: pr).length = pr.length + 1 := rfl
    refine ⟨.ref O, hO, .inl ⟨rfl, _, SqL.of mO3.at_⟩, c_popAny (K := K) e23.dl hd hp mp3 (by omega) (by omega) fun r x H4 hx e4 mp4 => ?_⟩
    have lr := (List.getElem?_eq_some_iff.mp hx).1
    obtain ⟨y, hy⟩ : ∃ y, (z0 :: pr)[r]? = some y := ⟨_, List.getElem?_eq_getElem (by rw [plc]; omega)⟩
    obtain ⟨dd, hdd, dx⟩ := dpAll_at hx2 hx
    rw [List.getElem?_map, hy] at hdd
    cases hdd
    have mO4 := (mO3.ext e4).other (o := .lst (xs2.eraseIdx r)) (Ne.symm ne)
    have e24 := (e23.trans L0 e4).setL (ys := xs2.eraseIdx r) mp4 np
    have mp5 := (Ml.set (ys := xs2.eraseIdx r) e4.dl mp4).1
    have pe := erase_perm (z0 :: pr) r y hy
    have pp : (zs2 ++ [y] ++ (z0 :: pr).eraseIdx r).Perm ps := by
      rw [List.append_assoc]
      exact (List.Perm.append_left zs2 pe).trans pm
    refine ⟨O, os2, x, rfl, rfl, mO4.at_, by omega, ((z0 :: pr).eraseIdx r).length, ?_, B2, os2 ++ [x], xs2.eraseIdx r, zs2 ++ [y], (z0 :: pr).eraseIdx r, rfl, rfl, e24.setL mO4 nO, s2, (Ml.set e24.dl mO4).1, mp5.other ne, ?_, ?_, pp, fun M ys h n1 n2 => ?_⟩
    · rw [List.length_eraseIdx_of_lt (by rw [plc]; omega)]
      exact Nat.sub_lt (by rw [plc]; omega) (by decide)
    · rw [← List.append_assoc, List.map_append]
      exact dpAll_app ho2 (.cons dx .nil)
    · rw [← erase_map]
      exact dpAll_erase hx2 r
    · exact (((keep M ys h n1 n2).ext (e3.trans e2.dl e4)).other n2).other n1
end
/-! ### arrows and bows out of an order -/
theorem fwd_idx {ord : List Nd} {i j : Nat} {x y : Nd} (nd : ord.Nodup) (hi : ord[i]? = some x) (hj : ord[j]? = some y) (lt : i < j) : ord.idxOf x < ord.idxOf y := by
  have key : ∀ {i : Nat} {x : Nd}, ord[i]? = some x → ord.idxOf x = i := fun {i x} h => by
    obtain ⟨l, e⟩ := List.getElem?_eq_some_iff.mp h
    rw [← e]
    exact List.Nodup.idxOf_getElem nd i l
  rw [key hi, key hj]
  exact lt
structure NdOrd (ns : List Str) (ord : List Nd) : Prop where
  len : ord.length = 2 * ns.length
  nd : ord.Nodup
  mem : ∀ x ∈ ord, x ∈ nodesL ns
  ab : ∀ (i j : Nat) (x y : Nd), i < j → ord[i]? = some x → ord[j]? = some y → x.1 = true → y.1 = true
theorem ord_of {ns : List Str} {z1 z2 : List Nd} (asc : ns.Pairwise Sl) (h1 : z1.Perm (ns.map fun z => (false, z))) (h2 : z2.Perm (ns.map fun z => (true, z))) : NdOrd ns (z1 ++ z2) where
  len := by rw [List.length_append, h1.length_eq, h2.length_eq, List.length_map, List.length_map]; omega
  nd := ((h1.append h2).nodup_iff).mpr (asc_nodup (nodes_asc asc))
  mem := fun x hx => ((h1.append h2).mem_iff).mp hx
  ab := fun i j x y lt hi hj t => by
    have l1 : z1.length = ns.length := by rw [h1.length_eq, List.length_map]
    have nf : ∀ x ∈ z1, x.1 = false := fun x hx => by
      obtain ⟨z, _, rfl⟩ := List.mem_map.mp (h1.mem_iff.mp hx)
      rfl
    have nt : ∀ x ∈ z2, x.1 = true := fun x hx => by
      obtain ⟨z, _, rfl⟩ := List.mem_map.mp (h2.mem_iff.mp hx)
      rfl
    rcases Nat.lt_or_ge i z1.length with a | a
    · rw [List.getElem?_append_left a] at hi
      rw [nf x (List.mem_of_getElem? hi)] at t
      cases t
    · rw [List.getElem?_append_right (by omega)] at hj
      exact nt y (List.mem_of_getElem? hj)
def Fw (ord : List Nd) (a : Ar) : Prop := ∃ i j : Nat, i < j ∧ ord[i]? = some a.1 ∧ ord[j]? = some a.2
theorem lnOk_of {ns : List Str} {ord : List Nd} (o : NdOrd ns ord) {as bs : List Ar} (ha : ∀ a ∈ as, Fw ord a) (hb : ∀ b ∈ bs, ∃ a, Fw ord a ∧ b = (minO ndD a.1 [a.2], maxO ndD a.1 [a.2])) : LnOk ns (setO arD as) (setO arD bs) where
  aasc := setO_asc arKd _
  basc := setO_asc arKd _
  amem := fun a h => by
    obtain ⟨i, j, _, hi, hj⟩ := ha a ((setO_mem arD as a).mp h)
    exact ⟨o.mem _ (List.mem_of_getElem? hi), o.mem _ (List.mem_of_getElem? hj)⟩
  bmem := fun b h => by
    obtain ⟨a, ⟨i, j, _, hi, hj⟩, rfl⟩ := hb b ((setO_mem arD bs b).mp h)
    have m1 := o.mem _ (List.mem_of_getElem? hi)
    have m2 := o.mem _ (List.mem_of_getElem? hj)
    have e1 : minO ndD a.1 [a.2] = if PySem.W.dataLt (ndD a.2) (ndD a.1) = true then a.2 else a.1 := rfl
    have e2 : maxO ndD a.1 [a.2] = if PySem.W.dataLt (ndD a.1) (ndD a.2) = true then a.2 else a.1 := rfl
    rw [e1, e2]
    refine ⟨?_, ?_⟩ <;> (dsimp only; split <;> assumption)
  afw := fun a h t => by
    obtain ⟨i, j, lt, hi, hj⟩ := ha a ((setO_mem arD as a).mp h)
    exact o.ab i j _ _ lt hi hj t
  rank := ⟨ord.idxOf, fun a h => by
    obtain ⟨i, j, lt, hi, hj⟩ := ha a ((setO_mem arD as a).mp h)
    exact fwd_idx o.nd hi hj lt⟩
  blt := fun b h => by
    obtain ⟨a, ⟨i, j, lt, hi, hj⟩, rfl⟩ := hb b ((setO_mem arD bs b).mp h)
    have e1 : minO ndD a.1 [a.2] = if PySem.W.dataLt (ndD a.2) (ndD a.1) = true then a.2 else a.1 := rfl
    have e2 : maxO ndD a.1 [a.2] = if PySem.W.dataLt (ndD a.1) (ndD a.2) = true then a.2 else a.1 := rfl
    have ne : a.1 ≠ a.2 := fun e => by
      have := fwd_idx o.nd hi hj lt
      rw [e] at this
      omega
    rw [e1, e2]
    rcases ndKd.tot ne with g | g
    · rw [if_pos g, if_neg (by rw [lt_asymm g]; decide)]
      exact g
    · rw [if_pos g, if_neg (by rw [lt_asymm g]; decide)]
      exact g
theorem setO_len (l : List Ar) : (setO arD l).length ≤ l.length := nodup_len (asc_nodup (setO_asc arKd l)) fun x hx => (setO_mem arD l x).mp hx
section
variable {K : PySem.W.Frag} {σ : L2.St} {d c : Addr} {B H : Hp} {E : XK}
/-- order[at], order[at + 1 + any(deal, len(order) - 1 - at)] -/
theorem a_fwd {Q : List V → Hp → Prop} {O : Addr} {ord : List Nd} {t : Nat} (L : Dl B H d c) (h0 : σ[0]? = some (some (.ref d))) (h5 : σ[5]? = some (some (.ref O))) (h11 : σ[11]? = some (some (.int (t : Int)))) (hord : dat K (.list (ord.map ndD)) B (.ref O)) (few : ord.length ≤ 100) (lt : t + 1 < ord.length)
    (k : ∀ (a : Ar) u1 u2 B' H', Fw ord a → ExtD d c B H B' H' → dat K (ndD a.1) B' u1 → dat K (ndD a.2) B' u2 → Q [u1, u2] H') :
    (tCons (tOp (rIxL K) (tVar 5) (tVar 11)) (tCons (tOp (rIxL K) (tVar 5) (tOp (rI0 fun i j => V.int (i + j)) (tOp (rI0 fun i j => V.int (i + j)) (tVar 11) (tC (.int 1))) (tCall spAny [] E (tCons (tVar 0) (tCons (tOp (rI0 fun i j => V.int (i - j)) (tOp (rI0 fun i j => V.int (i - j)) (tCB (Wv.rLen K) (tCons (tVar 5) tNil)) (tC (.int 1))) (tVar 11)) tNil))))) tNil)) σ H Q := by
  obtain ⟨_, xs, eO, hs, hR⟩ := dat_lstR hord
  cases eO
  have hx := allR_dp hR
  have xl := dpAll_len hx
  rw [List.length_map] at xl
  have at_ : ∀ {j : Nat} {y : Nd}, ord[j]? = some y → ∃ u, xs[j]? = some u ∧ dat K (ndD y) B u := fun {j y} h => by
    have lj := (List.getElem?_eq_some_iff.mp h).1
    refine ⟨_, List.getElem?_eq_getElem (by omega), ?_⟩
    obtain ⟨dd, hd, g⟩ := dpAll_at hx (List.getElem?_eq_getElem (show j < xs.length by omega))
    rw [List.getElem?_map, h] at hd
    cases hd
    exact g
  obtain ⟨y1, g1⟩ : ∃ y, ord[t]? = some y := ⟨_, List.getElem?_eq_getElem (by omega)⟩
  obtain ⟨u1, x1, d1⟩ := at_ g1
  refine ⟨.ref O, h5, .int (t : Int), h11, O, xs, (t : Int), u1, rfl, rfl, L.bh.seq hs, atI_nat x1, ?_⟩
  refine ⟨.ref O, h5, .int (t : Int), h11, (t : Int), 1, rfl, rfl, c_any (K := K) (n := (ord.length : Int) - 1 - t) L h0 (.op (.op (De.eq (De.lenL (.var hord h5)) (by rw [List.length_map])) .int Rv.I0) (.var (Dp.int (t : Int)) h11) Rv.I0) (by omega) (by omega) fun r B' H' r0 r1 e => ?_⟩
  obtain ⟨r, rfl⟩ := Int.eq_ofNat_of_zero_le r0
  obtain ⟨y2, g2⟩ : ∃ y, ord[t + 1 + r]? = some y := ⟨_, List.getElem?_eq_getElem (by omega)⟩
  obtain ⟨u2, x2, d2⟩ := at_ g2
  refine ⟨(t : Int) + 1, (r : Int), rfl, rfl, O, xs, ((t + 1 + r : Nat) : Int), u2, rfl, by congr 1, e.bh.seq (e.bb.seq hs), atI_nat x2, ?_⟩
  exact k (y1, y2) u1 u2 B' H' ⟨t, t + 1 + r, by omega, g1, g2⟩ e (Mo.mo e.bb d1) (Mo.mo e.bb d2)
end
theorem a_one {σ : L2.St} {H : Hp} {te : TE} {Q : List V → Hp → Prop} (h : te σ H fun v H1 => Q [v] H1) : tCons te tNil σ H Q := h
theorem e_tup {σ : L2.St} {H : Hp} {ta : TA} {Q : VK} (h : ta σ H fun xs H1 => xs.length ≤ sizeLine ∧ ∀ p, H1 p = none → Q (.ref p) (upd H1 p (.tup xs))) : tTup ta σ H Q := h
theorem e_lst {σ : L2.St} {H : Hp} {ta : TA} {Q : VK} (h : ta σ H fun xs H1 => xs.length ≤ sizeLine ∧ ∀ p, H1 p = none → Q (.ref p) (upd H1 p (.lst xs))) : tLst ta σ H Q := h
/-! ### what is led to, as the law walks -/
def lack (as : List Ar) (l : List Nd) : Nat := (as.filter fun a => !decide (a.2 ∈ l)).length
def nexts (as : List Ar) (l : List Nd) (h : Nd) : List Nd := (as.filter fun a => decide (a.1 = h) && !decide (a.2 ∈ l)).map (·.2)
structure LInv (as : List Ar) (st : List Nd) (t : Nat) (l : List Nd) : Prop where
  le : t ≤ l.length
  sta : ∀ s ∈ st, s ∈ l
  sub : ∀ x ∈ l, Led as st x
  clo : ∀ i a, i < t → a ∈ as → l[i]? = some a.1 → a.2 ∈ l
  len : l.length + lack as l ≤ st.length + as.length
theorem filter_add {α : Type} {p q r : α → Bool} (h1 : ∀ a, p a = true → r a = true) (h2 : ∀ a, q a = true → r a = true) (h3 : ∀ a, p a = true → q a = true → False) : ∀ l : List α, (l.filter p).length + (l.filter q).length ≤ (l.filter r).length
  | [] => Nat.le_refl _
  | a :: l => by
    have ih := filter_add h1 h2 h3 l
    have g1 := h1 a
    have g2 := h2 a
    have g3 := h3 a
    rw [List.filter_cons, List.filter_cons, List.filter_cons]
    cases hp : p a <;> cases hq : q a <;> cases hr : r a <;> simp_all <;> omega
theorem lack_next (as : List Ar) (l : List Nd) (h : Nd) : lack as (l ++ nexts as l h) + (nexts as l h).length ≤ lack as l := by
  unfold lack
  rw [show (nexts as l h).length = (as.filter fun a => decide (a.1 = h) && !decide (a.2 ∈ l)).length from List.length_map _]
  have key : ∀ a ∈ as, (!decide (a.2 ∈ l ++ nexts as l h)) = ((!decide (a.2 ∈ l ++ nexts as l h)) && !(decide (a.1 = h) && !decide (a.2 ∈ l))) := fun a ha => by
    cases e : decide (a.1 = h) && !decide (a.2 ∈ l) with
    | false => simp
    | true =>
      have : a.2 ∈ l ++ nexts as l h := List.mem_append_right _ (List.mem_map.mpr ⟨a, List.mem_filter.mpr ⟨ha, e⟩, rfl⟩)
      simp [this]
  rw [List.filter_congr key]
  refine filter_add (fun a h1 => ?_) (fun a h1 => ?_) (fun a h1 h2 => ?_) as
  · have := (Bool.and_eq_true_iff.mp h1).1
    simp at this ⊢
    exact this.1
  · exact (Bool.and_eq_true_iff.mp h1).2
  · have := (Bool.and_eq_true_iff.mp h1).2
    rw [h2] at this
    cases this
theorem LInv.begin (as : List Ar) (st : List Nd) : LInv as st 0 st where
  le := Nat.zero_le _
  sta := fun _ h => h
  sub := fun x hx => ⟨x, hx, .refl x⟩
  clo := fun i a h => absurd h (Nat.not_lt_zero _)
  len := Nat.add_le_add_left (List.length_filter_le _ _) _
theorem LInv.step {as : List Ar} {st l : List Nd} {t : Nat} {h : Nd} (v : LInv as st t l) (hh : l[t]? = some h) : LInv as st (t + 1) (l ++ nexts as l h) where
  le := by
    have := (List.getElem?_eq_some_iff.mp hh).1
    rw [List.length_append]
    omega
  sta := fun s hs => List.mem_append_left _ (v.sta s hs)
  sub := fun x hx => by
    rcases List.mem_append.mp hx with z | z
    · exact v.sub x z
    · obtain ⟨a, ha, rfl⟩ := List.mem_map.mp z
      obtain ⟨ha, c⟩ := List.mem_filter.mp ha
      have e : a.1 = h := of_decide_eq_true (Bool.and_eq_true_iff.mp c).1
      obtain ⟨s, hs, le⟩ := v.sub h (List.mem_of_getElem? hh)
      exact ⟨s, hs, .snoc le (by rw [← e]; exact ha)⟩
  clo := fun i a hi ha e => by
    have it : i < l.length := Nat.lt_of_lt_of_le hi (List.getElem?_eq_some_iff.mp hh).1
    rw [List.getElem?_append_left it] at e
    rcases Nat.lt_or_eq_of_le (Nat.le_of_lt_succ hi) with g | g
    · exact List.mem_append_left _ (v.clo i a g ha e)
    · subst g
      rw [hh] at e
      cases e
      by_cases m : a.2 ∈ l
      · exact List.mem_append_left _ m
      · exact List.mem_append_right _ (List.mem_map.mpr ⟨a, List.mem_filter.mpr ⟨ha, by simp [m]⟩, rfl⟩)
  len := by
    have := lack_next as l h
    have := v.len
    rw [List.length_append]
    omega
theorem LInv.done {as : List Ar} {st l : List Nd} (v : LInv as st l.length l) : setO ndD l = ledL as st := ledL_eq (setO_asc ndKd l) fun t => (setO_mem ndD l t).trans (led_closed v.sta (fun a ha h => by
  obtain ⟨i, hi, e⟩ := List.getElem_of_mem h
  exact v.clo i a hi ha (by rw [List.getElem?_eq_getElem hi, e])) v.sub t)
/-! ### an order, as the law makes it -/
theorem free_law {as : List Ar} {ns found left : List Nd} (mem : ∀ a ∈ as, a.1 ∈ ns) (hl : left = ns.filter fun n => !decide (n ∈ found)) : (ns.filter fun n => (!decide (n ∈ found)) && (((as.filter fun a => decide (a.2 = n) && !decide (a.1 ∈ found)).map (·.1)).isEmpty)) = free as left := by
  unfold free
  rw [hl, List.filter_filter]
  refine List.filter_congr fun n hn => ?_
  rw [Bool.and_comm]
  congr 1
  rw [Bool.eq_iff_iff, List.isEmpty_iff, List.map_eq_nil_iff, List.filter_eq_nil_iff, Bool.not_eq_true', decide_eq_false_iff_not]
  constructor
  · intro h m
    obtain ⟨a, ha, rfl⟩ := List.mem_map.mp m
    obtain ⟨ha, c⟩ := List.mem_filter.mp ha
    have c := (List.mem_filter.mp (of_decide_eq_true c)).2
    exact h a ha (by simp only [decide_true, Bool.true_and]; exact c)
  · intro h a ha c
    obtain ⟨c1, c2⟩ := Bool.and_eq_true_iff.mp c
    refine h (List.mem_map.mpr ⟨a, List.mem_filter.mpr ⟨ha, decide_eq_true (List.mem_filter.mpr ⟨mem a ha, c2⟩)⟩, of_decide_eq_true c1⟩)
theorem free_asc {as : List Ar} {left : List Nd} (h : Asc ndD left) : Asc ndD (free as left) := h.sublist List.filter_sublist
theorem left_erase {ns found left : List Nd} {y : Nd} (nd : ns.Nodup) (hl : left = ns.filter fun n => !decide (n ∈ found)) (hy : y ∈ left) : left.erase y = ns.filter fun n => !decide (n ∈ found ++ [y]) := by
  have ndl : left.Nodup := by rw [hl]; exact nd.filter _
  rw [ndl.erase_eq_filter, hl, List.filter_filter]
  refine List.filter_congr fun n _ => ?_
  rw [Bool.eq_iff_iff]
  simp only [Bool.and_eq_true, bne_iff_ne, ne_eq, Bool.not_eq_true', decide_eq_false_iff_not, List.mem_append, List.mem_singleton, not_or]
  exact And.comm
theorem ids_dp {α : Type} {dt : α → PyData} {K : PySem.W.Frag} {B : Hp} {xs : List V} {l : List α} {df : α} : ∀ {ix : List Nat} {ys : List V}, AllR (ix.map fun i => idR K xs (l.map dt) i) B ys → (∀ i ∈ ix, i < l.length) → DpAll K B ys ((ix.map fun i => l.getD i df).map dt) ∧ ∀ (j : Nat) (x : V), ys[j]? = some x → ∃ i, ix[j]? = some i ∧ xs[i]? = some x
  | [], ys, h, _ => by
    have h : ys = [] := h
    subst h
    exact ⟨.nil, fun j x e => by simp at e⟩
  | i :: ix, ys, h, lt => by
    obtain ⟨y, r, rfl, ⟨g1, d, g2, g3⟩, h2⟩ := h
    obtain ⟨i1, i2⟩ := ids_dp h2 fun j hj => lt j (List.mem_cons_of_mem _ hj)
    have il := lt i List.mem_cons_self
    rw [List.getElem?_map, List.getElem?_eq_getElem il] at g2
    cases g2
    refine ⟨.cons (by show Dp K B y (dt (l.getD i df)); rw [List.getD_eq_getElem?_getD, List.getElem?_eq_getElem il]; exact g3) i1, fun j x e => ?_⟩
    cases j with
    | zero => cases e; exact ⟨i, rfl, g1⟩
    | succ j => exact i2 j x e
section
variable {K : PySem.W.Frag} {σ : L2.St} {d c : Addr} {B H : Hp} {E : XK} {T : Rel} {te : TE} {i j : Nat} {rest : TS} {D : Ends} {Q : VK} {g : TG} {tt : TT} {vs : List Nat}
theorem s_unW (L : Dl B H d c) (h : Dw te σ d c B T) (k : ∀ v B' H', ExtD d c B H B' H' → T B' v → gTup K 2 (gCons (gName i) (gCons (gName j) gNil)) v σ H' fun σ2 H2 => rest D σ2 H2) : tSeq (tAsg te (gTup K 2 (gCons (gName i) (gCons (gName j) gNil)))) rest D σ H :=
  h B H (Same.refl _) L _ k
theorem c_lcAny0 {n : Int} {te0 : TE} (L : Dl B H d c) (hd : σ[i]? = some (some (.ref d))) (hn : De te0 σ B (dat K (.int n))) (n0 : 0 < n) (n1 : n < 2 ^ 60)
    (go : ∀ r B' H', 0 ≤ r → r < n → ExtD d c B H B' H' → tLc (fun _ H R => R (Itr 0 r.toNat) H) g tt te vs σ H' Q) :
    tLc (iRng1 (tCons (tCall spAny [] E (tCons (tVar i) (tCons te0 tNil))) tNil)) g tt te vs σ H Q :=
  c_any (K := K) L hd hn n0 (Int.lt_trans n1 (by decide)) fun r B' H' r0 r1 e => ⟨r, rfl, by omega, by omega, go r B' H' r0 r1 e⟩
end
theorem nds_of {ns : List Nd} : ∀ {ds : List PyData}, (∀ y ∈ ds, y ∈ ns.map ndD) → ∃ st : List Nd, ds = st.map ndD ∧ ∀ x ∈ st, x ∈ ns
  | [], _ => ⟨[], rfl, fun x h => nomatch h⟩
  | d :: ds, h => by
    obtain ⟨x, hx, rfl⟩ := List.mem_map.mp (h d List.mem_cons_self)
    obtain ⟨st, e, hs⟩ := nds_of fun y hy => h y (List.mem_cons_of_mem _ hy)
    refine ⟨x :: st, by rw [e]; rfl, fun y hy => ?_⟩
    rcases List.mem_cons.mp hy with rfl | g
    · exact hx
    · exact hs y g
def endsL (bs : List Ar) (n : Nd) : List Nd := (bs.filter fun b => decide (b.1 = n) || decide (b.2 = n)).map fun b => if b.1 = n then b.2 else b.1
theorem ends_perm {n : Nd} : ∀ {bs : List Ar}, (∀ b ∈ bs, b.1 ≠ b.2) → (endsL bs n).Perm (((bs ++ turn bs).filter fun a => decide (a.1 = n)).map (·.2))
  | [], _ => List.Perm.refl _
  | b :: bs, h => by
    have ih := ends_perm (n := n) fun b hb => h b (List.mem_cons_of_mem _ hb)
    have ne := h b List.mem_cons_self
    have p : (b :: bs ++ turn (b :: bs)).Perm (b :: (b.2, b.1) :: (bs ++ turn bs)) := by
      show (b :: (bs ++ (b.2, b.1) :: turn bs)).Perm _
      exact List.Perm.cons _ List.perm_middle
    refine List.Perm.trans ?_ ((p.filter _).map _).symm
    unfold endsL at ih ⊢
    rw [List.filter_cons, List.filter_cons, List.filter_cons]
    by_cases h1 : b.1 = n
    · have h2 : ¬ b.2 = n := fun e => ne (h1.trans e.symm)
      simp only [h1, h2, decide_true, decide_false, Bool.true_or, if_true, if_false, List.map_cons]
      exact ih.cons _
    · by_cases h2 : b.2 = n
      · simp only [h1, h2, decide_true, decide_false, Bool.or_true, if_true, if_false, List.map_cons]
        exact ih.cons _
      · simp only [h1, h2, decide_false, Bool.or_false, if_false]
        exact ih
theorem ends_srt {n : Nd} {bs : List Ar} (h : ∀ b ∈ bs, b.1 ≠ b.2) : srt ndD (endsL bs n) = ptnL bs n := srt_eq ndKd (ends_perm h)
theorem topo_sub' {as : List Ar} : ∀ {n : Nat} {left : List Nd} {z : Nd}, z ∈ topo as n left → z ∈ left
  | 0, left, z, h => absurd h List.not_mem_nil
  | n + 1, left, z, h => by
    cases e : free as left with
    | nil =>
      have : topo as (n + 1) left = [] := by
        show (match free as left with | [] => [] | x :: _ => x :: topo as n (left.erase x)) = _
        rw [e]
      rw [this] at h
      cases h
    | cons y ys =>
      rw [topo_succ e] at h
      rcases List.mem_cons.mp h with rfl | g
      · exact free_sub (by rw [e]; exact List.mem_cons_self)
      · exact List.mem_of_mem_erase (topo_sub' g)
theorem topo_sub {qs : Qs} {as : List Ar} {z : Nd} (h : z ∈ topoL qs as) : z ∈ nodesL (names qs) := topo_sub' h
end Ch

set_option Elab.async false
set_option linter.all false
set_option maxRecDepth 100000
set_option maxHeartbeats 2000000
/-! K10e: names, questions. -/
namespace K10
open PySem PySem.Spec PyProof.Rows L2 Wb Wv Fm Fq Sb St Ch
abbrev sp_lnames (K : PySem.W.Frag) : Sp := DPf (α := Nat) (fun n => [dat K (.int (n : Int))]) (fun n => n ≤ 8) (fun n => datP K (NmsP n))
abbrev sp_lquestions (K : PySem.W.Frag) : Sp := DPf (α := Nat) (fun n => [dat K (.int (n : Int))]) (fun n => 1 ≤ n ∧ n ≤ 8) (fun n => datP K (QsP n))
abbrev sp_lnodes (K : PySem.W.Frag) : Sp := Pf (α := Qs) (fun qs => [dat K (qsD qs)]) (fun qs => qs.length ≤ 8) (fun qs => dat K (.list ((nodesL (names qs)).map ndD)))
abbrev sp_llines (K : PySem.W.Frag) : Sp := DPf (α := Qs × Nat × Nat) (fun a => [dat K (qsD a.1), dat K (.int (a.2.1 : Int)), dat K (.int (a.2.2 : Int))]) (fun a => FmOk a.1 ∧ 1 ≤ a.1.length ∧ a.2.1 ≤ 20 ∧ a.2.2 ≤ 20) (fun a => datP K (LnP (names a.1) a.2.1 a.2.2))
section
variable {P : Program} {w : World} {K : PySem.W.Frag} {mg : Str → Option Value} {base : Heap} {C_Form C_Chart : Addr}
theorem sc_lnames : FnScope ["deal", "many", "pool", "found", "stem", "at", "sign"] ["deal", "many"] (defScope s_lnames) := ⟨rfl, rfl, rfl, by decide +kernel, rfl, by decide +kernel, by decide +kernel⟩
theorem ok_lnames (D : Def K mg "_law_names" s_lnames ["deal", "many"]) (C_any : Cal P w K mg base CX0 1 "_law_any" s_any ["deal", "bound"] spAny) (C_of : Cal P w K mg base CX0 2 "_law_of" s_of ["deal", "some"] (spOf K)) (n_len : mg "len" = none) (n_sorted : mg "sorted" = none) : Cal P w K mg base CX0 3 "_law_names" s_lnames ["deal", "many"] (sp_lnames K) := by
  refine D.ok sc_lnames (fun vs H Q E h => ?_) (fun cdv f A outer s H vs Q E hr h => ?_)
  · exact dpf_len h fun _ => rfl
  replace h := dpf1 h
  obtain ⟨d, vn, c, B, n, rfl, L, hn, n8, k⟩ := h
  refine ⟨_, (pss_cons (ps_par (i := 2) (j := 3) rfl sc_lnames.nd rfl rfl (by decide) rfl rfl (pa_cons (pe_lst (pa_cons pe_str (pa_cons pe_str (pa_cons pe_str (pa_cons pe_str (pa_cons pe_str (pa_cons pe_str (pa_cons pe_str (pa_cons pe_str pa_nil))))))))) (pa_cons (pe_lst pa_nil) pa_nil)) (by rfl))
    (pss_cons (ps_if (pt_cmpR op_eq (pe_cal C_any (hr.mono (by decide)) (by rfl) pass0 (pa_cons (pv 0) (pa_cons pe_int pa_nil))) pe_int (nomark _)) (pss_cons (ps_set (i := 4) sc_lnames.nd rfl (Or.inr rfl) (pe_cal C_of (hr.mono (by decide)) (by rfl) pass0 (pa_cons (pv 0) (pa_cons (pe_lst (pa_cons pe_str (pa_cons pe_str (pa_cons pe_str pa_nil)))) pa_nil))))
      (pss_cons (ps_set (i := 5) sc_lnames.nd rfl (Or.inr rfl) (pe_cal C_any (hr.mono (by decide)) (by rfl) pass0 (pa_cons (pv 0) (pa_cons (pe_callB call_len (by rfl) n_len (by decide +kernel) (pa_cons (pv 4) pa_nil)) pa_nil))))
      (pss_one (ps_setLc (i := 2) (own := [("sign", 6)]) (g := gName 6) (tt := tYes) rfl sc_lnames.nd rfl rfl (sw_true rfl rfl rfl (by decide +kernel)) (pi_str pe_str) (blkOk_by (own := [("sign", 6)]) (N := ["deal", "many", "pool", "found", "stem", "at", "sign"]) (sc := defScope s_lnames) (by decide +kernel)) (fun _ _ _ _ _ => (pg_name (i := 6) sc_lnames.nd rfl (Or.inl rfl))) (fun _ _ _ _ _ => pts_nil) (fun _ _ _ _ _ => (pe_op op_add_str (pe_op op_add_str (pe_slice (r := rSlS) sl_str (pv 4) po_none (po_some (pv 5))) (pv 6)) (pe_slice (r := rSlS) sl_str (pv 4) (po_some (pe_op op_add (pv 5) pe_int)) po_none))))))) pss_nil)
    (pss_cons (ps_while PassesOwn.never (pt_cmpR op_lt (pe_callB call_len (by rfl) n_len (by decide +kernel) (pa_cons (pv 3) pa_nil)) (pv 1) (nomark _)) (pss_one (ps_expr (pe_bm PySem.F.plainAttrs_list PySem.F.slot_list_append PySem.F.type_list_append mt_append (pv 3) (pa_cons (pe_bm PySem.F.plainAttrs_list PySem.F.slot_list_pop PySem.F.type_list_pop mt_popAt (pv 2) (pa_cons (pe_cal C_any (hr.mono (by decide)) (by rfl) pass0 (pa_cons (pv 0) (pa_cons (pe_callB call_len (by rfl) n_len (by decide +kernel) (pa_cons (pv 2) pa_nil)) pa_nil))) pa_nil)) pa_nil)))))
    (pss_one (ps_ret (pe_callB (cr_sortedD hr.units) (by rfl) n_sorted (by decide +kernel) (pa_cons (pv 3) pa_nil))))))), ?_⟩
  have n8 : n ≤ 8 := n8
  have hn := dat_int hn
  subst hn
  have line := sizeLine_eq
  refine s_parR ⟨by rw [line]; show 8 ≤ _; decide, fun M hM => ⟨Nat.zero_le _, fun F hF => ?_⟩⟩
  obtain ⟨mM, e0⟩ := Ml.new (xs := pool8.map V.str) L hM
  have MF : M ≠ F := fun e => by rw [← e] at hF; rw [show (upd H M _) M = _ from upd_same] at hF; cases hF
  have nF : H F = none := by
    have h : (upd H M _) F = none := hF
    rw [upd_ne MF.symm] at h
    exact h
  obtain ⟨mF, e1⟩ := Ml.new (xs := []) e0.dl hF
  have e01 := e0.trans L e1
  have mM := mM.ext e1
  change tSeq _ _ _ [some (.ref d), some (.int (n : Int)), some (.ref M), some (.ref F), none, none, none] (upd (upd H M (.lst (pool8.map V.str))) F (.lst []))
  refine seqI (fun σ J => ∃ (B' : Hp) (Pp : Addr) (ps : List Str) (v4 v5 v6 : Option V), σ = [some (.ref d), some (.int (n : Int)), some (.ref Pp), some (.ref F), v4, v5, v6] ∧ ExtD d c B H B' J ∧ Ml d c B' J F [] ∧ Ml d c B' J Pp (ps.map .str) ∧ Pp ≠ F ∧ H Pp = none ∧ ps.Nodup ∧ ps.length = 8 ∧ ∀ z ∈ ps, NmL 1 8 z) ?_ ?_
  · rintro σ1 J1 ⟨B1, Pp, ps, v4, v5, v6, rfl, eJ, mF1, mP1, PF, nP, ndp, lp, okp⟩
    refine whileN (fun m σ J => ∃ (B' : Hp) (zs ps : List Str), m = n - zs.length ∧ σ = [some (.ref d), some (.int (n : Int)), some (.ref Pp), some (.ref F), v4, v5, v6] ∧ ExtD d c B H B' J ∧ Ml d c B' J F (zs.map .str) ∧ Ml d c B' J Pp (ps.map .str) ∧ zs.length ≤ n ∧ zs.length + ps.length = 8 ∧ (zs ++ ps).Nodup ∧ ∀ z ∈ zs ++ ps, NmL 1 8 z)
      (fun σ J => ∃ (B' : Hp) (zs : List Str), σ = [some (.ref d), some (.int (n : Int)), some (.ref Pp), some (.ref F), v4, v5, v6] ∧ ExtD d c B H B' J ∧ Ml d c B' J F (zs.map .str) ∧ zs.length = n ∧ zs.Nodup ∧ ∀ z ∈ zs, NmL 1 8 z) _
      ⟨B1, [], ps, rfl, rfl, eJ, mF1, mP1, Nat.zero_le _, by simpa using lp, ndp, okp⟩ ?_ ?_
    · rintro σ J ⟨B2, zs, rfl, e2, mF2, lz, ndz, okz⟩
      have eD := e2.settle mF2 nF
      have hrow : dat K (.list (zs.map .str)) (upd B2 F (.lst (zs.map V.str))) (.ref F) := .lst (SqL.of upd_same) (strs_dpAll zs)
      refine s_ret (De.sorted (.var hrow rfl) (alike_str zs) (sortok_str zs) (depth_str zs)) eD.bh fun v B' H' e h => ?_
      obtain ⟨ys, perm, es, asc⟩ := sorted_strs ndz
      rw [es] at h
      exact k _ _ _ (eD.trans L (.of eD.dl e)) ⟨_, ⟨ys, rfl, by rw [perm.length_eq, lz], fun z hz => okz z (perm.mem_iff.mp hz), asc⟩, h⟩
    · rintro m σ J ⟨B2, zs, ps2, rfl, rfl, e2, mF2, mP2, lz, l8, nd2, ok2⟩ Y Z hY hZ
      refine ⟨_, rfl, _, (zs.map V.str).length, rfl, .inl ⟨_, SqL.of mF2.at_, rfl⟩, _, rfl, _, _, rfl, rfl, _, rfl, ?_⟩
      rw [List.length_map]
      refine ite2 (fun h => hY _ ?_) (fun h => hZ _ ?_)
      · have lt : zs.length < n := by have := of_decide_eq_true h; omega
        refine ⟨_, rfl, .inl ⟨rfl, _, SqL.of mF2.at_⟩, c_popAny (K := K) e2.dl rfl rfl mP2 (by rw [List.length_map]; omega) (by rw [List.length_map]; omega) fun r x H3 hx e3 mP3 => ?_⟩
        rw [List.getElem?_map] at hx
        obtain ⟨y, hy, rfl⟩ := Option.map_eq_some_iff.mp hx
        have lr : r < ps2.length := (List.getElem?_eq_some_iff.mp hy).1
        have mF3 := (mF2.ext e3).other (o := .lst ((ps2.map V.str).eraseIdx r)) PF.symm
        have mP4 := (Ml.set (ys := (ps2.map V.str).eraseIdx r) e3.dl mP3).1
        have e23 := (e2.trans L e3).setL (ys := (ps2.map V.str).eraseIdx r) mP3 nP
        have ym := List.mem_of_getElem? hy
        have pe := erase_perm ps2 r y hy
        have pp : (zs ++ [y] ++ ps2.eraseIdx r).Perm (zs ++ ps2) := by
          rw [List.append_assoc]
          exact List.Perm.append_left zs pe
        refine ⟨F, _, .str y, rfl, rfl, mF3.at_, by rw [List.length_map]; omega, n - (zs.length + 1), by omega, B2, zs ++ [y], ps2.eraseIdx r, by simp, rfl, e23.setL mF3 nF, ?_, ?_, by simp; omega, ?_, pp.nodup_iff.mpr nd2, fun z hz => ok2 z (pp.mem_iff.mp hz)⟩
        · rw [List.map_append]
          exact (Ml.set e23.dl mF3).1
        · have := mP4.other (o := .lst (zs.map V.str ++ [V.str y])) PF
          rw [← erase_map V.str ps2 r]
          exact this
        · rw [List.length_eraseIdx_of_lt lr]
          simp
          omega
      · have ge : ¬ zs.length < n := fun q => h (decide_eq_true (by omega))
        have ns := List.nodup_append.mp nd2
        exact ⟨B2, zs, rfl, e2, mF2, by omega, ns.1, fun z hz => ok2 z (List.mem_append_left _ hz)⟩
  · intro Z hZ
    have L1 := e01.dl
    refine s_ifR (t_any0 (K := K) L1 rfl .int (by decide) (by decide) fun b B3 H3 e3 => ?_)
    have e13 := e01.trans L e3
    refine ite2 (fun _ => ?_) (fun _ => ?_)
    · refine s_w e13.dl (Dw.ofL (K := K) (ds := stems.map .str) rfl (De.lstD (.cons .str (.cons .str (.cons .str .nil))) (by rw [line]; show 3 ≤ _; decide)) (by decide) (by show 3 ≤ 1000; decide)) fun v4 B4 H4 e4 h4 => ?_
      obtain ⟨x, hx, h4⟩ := h4
      obtain ⟨z, hz, rfl⟩ := List.mem_map.mp hx
      have okz := stems_ok z hz
      have h4 := dat_str h4
      subst h4
      have e14 := e13.trans L e4
      refine s_w e14.dl (Dw.any (K := K) rfl (De.lenS (.var (Dp.str z) rfl) (by have := okz.2.1; omega)) (by have := okz.1; omega) (by have := okz.2.1; omega)) fun v5 B5 H5 e5 h5 => ?_
      obtain ⟨r, ⟨r0, r1⟩, rfl⟩ := h5
      have e15 := e14.trans L e5
      have z8 := okz.2.1
      obtain ⟨s1, s2, s3⟩ := stemmed_ok okz r0 (show r < 8 by omega)
      refine s_rawE (c_lcM (K := K) e15.dl (as := signs8) (r := fun c => dat K (.str ⟨#[c]⟩)) (Di.str .str) (by show 8 < _; omega) (fun i out => out = (signs8.take i).map fun c => .str (stemmed z r c)) rfl (fun i a x B6 H6 out ha L6 sb hx ho Y N hY hN => ?_) fun out Dd xs B6 H6 e6 nD mD hR ho => ?_)
      · have hx := dat_str hx
        subst hx
        refine ⟨rfl, ?_⟩
        dsimp only [tYes]
        rw [if_pos rfl]
        refine De.op (T := dat K (.str (stemmed z r a))) (De.op (De.slS (K := K) (.var (Dp.str z) rfl) .none (.some (K := K) (.var (Dp.int r) rfl)) (by omega)) (.var (Dp.str ⟨#[a]⟩) rfl) (Rv.addS ?_)) (De.slS (K := K) (.var (Dp.str z) rfl) (.some (K := K) (.op (.var (Dp.int r) rfl) .int Rv.I0)) .none (by omega)) (Rv.addS ?_) B6 H6 (Same.refl _) L6.bh _ fun y B7 H7 e7 hy => hY y B7 H7 _ (.of L6 e7) hy ?_
        · have : (⟨#[a]⟩ : Str).length = 1 := rfl
          have := cutS_len z none (some r)
          omega
        · rw [app_len]
          have : (⟨#[a]⟩ : Str).length = 1 := rfl
          have := cutS_len z none (some r)
          have := cutS_len z (some (r + 1)) none
          omega
        · rw [take_snoc ha, List.map_append, ho]
          rfl
      · have e16 := e15.trans L e6
        have mF5 := mF.ext ((e3.trans L1 e4).trans L1 e5)
        have DF : Dd ≠ F := fun e => by rw [e, mF5.at_] at nD; cases nD
        have nD : H Dd = none := ExtD.old L e15 nD
        have mF6 := mF5.ext e6
        have hxs : xs = (signs8.map (stemmed z r)).map V.str := by
          have : signs8.take signs8.length = signs8 := List.take_length
          rw [this] at ho
          refine strs_vals (K := K) (B := B6) ?_
          rw [← show out = (signs8.map (stemmed z r)).map PyData.str by rw [ho, List.map_map]; rfl]
          exact hR
        refine hZ _ _ ⟨B6, Dd, signs8.map (stemmed z r), _, _, _, rfl, e16, mF6, by rw [← hxs]; exact mD, DF, nD, s1, s2, s3⟩
    · exact hZ _ _ ⟨B3, M, pool8, _, _, _, rfl, e13, mF.ext e3, mM.ext e3, MF, hM, pool8_ok.1, by decide +kernel, pool8_ok.2⟩
theorem sc_lquestions : FnScope ["deal", "most", "name"] ["deal", "most"] (defScope s_lquestions) := ⟨rfl, rfl, rfl, by decide +kernel, rfl, by decide +kernel, by decide +kernel⟩
theorem ok_lquestions (D : Def K mg "_law_questions" s_lquestions ["deal", "most"]) (C_lnames : Cal P w K mg base CX0 3 "_law_names" s_lnames ["deal", "many"] (sp_lnames K)) (C_any : Cal P w K mg base CX0 1 "_law_any" s_any ["deal", "bound"] spAny) (n_tuple : mg "tuple" = none) : Cal P w K mg base CX0 4 "_law_questions" s_lquestions ["deal", "most"] (sp_lquestions K) := by
  refine D.ok sc_lquestions (fun vs H Q E h => ?_) (fun cdv f A outer s H vs Q E hr h => ?_)
  · exact dpf_len h fun _ => rfl
  replace h := dpf1 h
  obtain ⟨d, vn, c, B, n, rfl, L, hn, ⟨n1, n8⟩, k⟩ := h
  refine ⟨_, (pss_one (ps_ret (pe_callTy call_tuple_of (by rfl) n_tuple (by decide +kernel) (pa_cons (pe_lc (own := [("name", 2)]) (g := gName 2) (tt := tYes) rfl sc_lquestions.nd (pi_list (pe_cal C_lnames (hr.mono (by decide)) (by rfl) pass0 (pa_cons (pv 0) (pa_cons (pe_op op_add pe_int (pe_cal C_any (hr.mono (by decide)) (by rfl) pass0 (pa_cons (pv 0) (pa_cons (pv 1) pa_nil)))) pa_nil)))) (blkOk_by (own := [("name", 2)]) (N := ["deal", "most", "name"]) (sc := defScope s_lquestions) (by decide +kernel)) (fun _ _ _ _ _ => (pg_name (i := 2) sc_lquestions.nd rfl (Or.inl rfl))) (fun _ _ _ _ _ => pts_nil) (fun _ _ _ _ _ => (pe_tup (pa_cons (pv 2) (pa_cons (pe_op op_add pe_int (pe_cal C_any (hr.mono (by decide)) (by rfl) pass0 (pa_cons (pv 0) (pa_cons pe_int pa_nil)))) pa_nil))))) pa_nil)))), ?_⟩
  have n1 : 1 ≤ n := n1
  have n8 : n ≤ 8 := n8
  have hn := dat_int hn
  subst hn
  have line := sizeLine_eq
  refine s_retW L (Dw.tupleL (P := fun ds => QsP n (.tuple ds)) (Ch.Dw.lcL (K := K) (P0 := fun ds => ∃ m : Nat, 1 ≤ m ∧ m ≤ n ∧ NmsP m (.list ds)) ?_ fun a ds B' ⟨m, m1, m2, zs, e, lz, hz, asc⟩ s h => ?_)) fun v B1 H1 e ⟨x, ⟨ds, hx, hq⟩, hv⟩ => k v B1 H1 e ⟨x, by rw [hx]; exact hq, hv⟩
  · refine Dw.def (S := datP K (listOf fun ds => ∃ m : Nat, 1 ≤ m ∧ m ≤ n ∧ NmsP m (.list ds))) rfl (.one (Dw.op (Dw.int) (Dw.any (K := K) rfl (.var (Dp.int (n : Int)) rfl) (by omega) (by omega)) fun _ => Rv.intP)) fun B vs hv => ?_
    obtain ⟨x, r, rfl, ⟨j, ⟨a, b, ha, hb, hj⟩, hx⟩, hr⟩ := hv
    subst ha
    refine ⟨j.toNat, ⟨x, r, rfl, ?_, hr⟩, (by show j.toNat ≤ 8; omega), fun B v ⟨y, ⟨zs, ey, lz, hz, asc⟩, hv⟩ => ⟨_, ⟨_, ey, j.toNat, by omega, by omega, zs, rfl, lz, hz, asc⟩, hv⟩⟩
    rw [hx, show ((j.toNat : Nat) : Int) = j by omega]
    exact .int _
  · cases e
    refine .cv (Dw.lc (K := K) (as := zs) (r := fun z => dat K (.str z)) (fun z x => ∃ m : Nat, x = encQ (z, m) ∧ 2 ≤ m ∧ m ≤ 3) ((Di.itl h).conv (by rw [List.map_map]; rfl)) (by omega) fun z x Bn hz sb hx => ⟨[some (.ref d), some (.int (n : Int)), some x], fun _ _ _ q => q, rfl, ?_⟩) fun B2 u h2 => ?_
    · refine Dw.cv (Dw.tup (K := K) (Dwa.cons (.of (.var hx rfl)) (Dwa.one (Dw.op Dw.int (Dw.any (K := K) rfl .int (by decide) (by decide)) fun _ => Rv.intP))) (by rw [line]; show 2 ≤ _; decide)) fun B v hv => ?_
      obtain ⟨a, xs, rfl, hs, x1, r1, rfl, hx1, x2, r2, rfl, ⟨j, ⟨p, q, hp, hq, hj⟩, hx2⟩, hr⟩ := hv
      have hr : r2 = [] := hr
      subst hr
      subst hp
      refine ⟨_, ⟨j.toNat, rfl, by omega, by omega⟩, .tup hs (.cons hx1 (.cons ?_ .nil))⟩
      rw [hx2, show ((j.toNat : Nat) : Int) = j by omega]
      exact .int _
    · obtain ⟨x, ⟨ds, hx, hE⟩, h2⟩ := h2
      exact ⟨x, ⟨ds, hx, mkQs hE (by omega) (by omega) (by omega) hz asc⟩, h2⟩
end
end K10

set_option Elab.async false
set_option linter.all false
set_option maxRecDepth 100000
set_option maxHeartbeats 600000
/-! K10f: arrows and bows drawn. -/
namespace K10
open PySem PySem.Spec PyProof.Rows L2 Wb Wv Fm Fq Sb St Ch
section
variable {P : Program} {w : World} {K : PySem.W.Frag} {mg : Str → Option Value} {base : Heap} {C_Form C_Chart : Addr}
theorem sc_lnodes : FnScope ["questions", "name", "many"] ["questions"] (defScope s_lnodes) := ⟨rfl, rfl, rfl, by decide +kernel, rfl, by decide +kernel, by decide +kernel⟩
theorem ok_lnodes (D : Def K mg "_law_nodes" s_lnodes ["questions"])  : Cal P w K mg base CX0 1 "_law_nodes" s_lnodes ["questions"] (sp_lnodes K) := by
  refine D.ok sc_lnodes (fun vs H Q E h => ?_) (fun cdv f A outer s H vs Q E hr h => ?_)
  · exact pf_len h fun _ => rfl
  replace h := pf1 h
  obtain ⟨v, B, qs, rfl, hB, hv, q4, k⟩ := h
  refine ⟨_, (pss_one (ps_ret (pe_op op_catS (pe_lc (own := [("name", 1), ("many", 2)]) (g := gTup K 2 (gCons (gName 1) (gCons (gName 2) gNil))) (tt := tYes) rfl sc_lnodes.nd (pi_tup (pv 0)) (blkOk_by (own := [("name", 1), ("many", 2)]) (N := ["questions", "name", "many"]) (sc := defScope s_lnodes) (by decide +kernel)) (fun _ _ _ _ _ => (pg_tup rfl (pgs_cons (pg_name (i := 1) sc_lnodes.nd rfl (Or.inl rfl)) (pgs_cons (pg_name (i := 2) sc_lnodes.nd rfl (Or.inl rfl)) pgs_nil)))) (fun _ _ _ _ _ => pts_nil) (fun _ _ _ _ _ => (pe_tup (pa_cons pe_str (pa_cons (pv 1) pa_nil))))) (pe_lc (own := [("name", 1), ("many", 2)]) (g := gTup K 2 (gCons (gName 1) (gCons (gName 2) gNil))) (tt := tYes) rfl sc_lnodes.nd (pi_tup (pv 0)) (blkOk_by (own := [("name", 1), ("many", 2)]) (N := ["questions", "name", "many"]) (sc := defScope s_lnodes) (by decide +kernel)) (fun _ _ _ _ _ => (pg_tup rfl (pgs_cons (pg_name (i := 1) sc_lnodes.nd rfl (Or.inl rfl)) (pgs_cons (pg_name (i := 2) sc_lnodes.nd rfl (Or.inl rfl)) pgs_nil)))) (fun _ _ _ _ _ => pts_nil) (fun _ _ _ _ _ => (pe_tup (pa_cons pe_str (pa_cons (pv 1) pa_nil)))))))), ?_⟩
  have line := sizeLine_eq
  have q4 : qs.length ≤ 8 := q4
  have hv : dat K (qsD qs) B v := hv
  refine s_ret (De.eq (De.op (r := rCatS K) (De.lcA (K := K) (as := qs) (r := fun q => dat K (encQ q)) (Di.tupM (.var hv rfl)) (fun q => ndD (false, q.1)) (by omega) fun q x Bn Hn _ _ sh hx => ?_) (De.lcA (K := K) (as := qs) (r := fun q => dat K (encQ q)) (Di.tupM (.var hv rfl)) (fun q => ndD (true, q.1)) (by omega) fun q x Bn Hn _ _ sh hx => ?_) (Rv.catS (by rw [List.length_map, List.length_map]; omega))) ?_) hB k
  · obtain ⟨y, z, hy, hz, go⟩ := gTup2 sh (dat_pair hx)
    exact ⟨_, fun Q q => go Q q, rfl, De.tupD (ds := [.str "a", .str q.1]) (.cons .str (.cons (.var hy rfl) .nil)) (by rw [line]; show 2 ≤ _; decide)⟩
  · obtain ⟨y, z, hy, hz, go⟩ := gTup2 sh (dat_pair hx)
    exact ⟨_, fun Q q => go Q q, rfl, De.tupD (ds := [.str "b", .str q.1]) (.cons .str (.cons (.var hy rfl) .nil)) (by rw [line]; show 2 ≤ _; decide)⟩
  · unfold nodesL names
    rw [List.map_append, List.map_map, List.map_map, List.map_map, List.map_map]
    rfl
theorem sc_llines : FnScope ["deal", "questions", "arrows", "bows", "row", "order", "half", "part", "first", "second", "turn", "at", "pair"] ["deal", "questions", "arrows", "bows"] (defScope s_llines) := ⟨rfl, rfl, rfl, by decide +kernel, rfl, by decide +kernel, by decide +kernel⟩
theorem ok_llines (D : Def K mg "_law_lines" s_llines ["deal", "questions", "arrows", "bows"]) (C_lnodes : Cal P w K mg base CX0 1 "_law_nodes" s_lnodes ["questions"] (sp_lnodes K)) (n_len : mg "len" = none) (C_any : Cal P w K mg base CX0 1 "_law_any" s_any ["deal", "bound"] spAny) (n_range : mg "range" = none) (n_min : mg "min" = none) (n_max : mg "max" = none) (n_set : mg "set" = none) (n_sorted : mg "sorted" = none) (n_tuple : mg "tuple" = none) : Cal P w K mg base CX0 2 "_law_lines" s_llines ["deal", "questions", "arrows", "bows"] (sp_llines K) := by
  refine D.ok sc_llines (fun vs H Q E h => ?_) (fun cdv f A outer s H vs Q E hr h => ?_)
  · exact dpf_len h fun _ => rfl
  replace h := dpf3 h
  obtain ⟨d, v, v1, v2, c, B, ⟨qs, m, n⟩, rfl, L, hv, hv1, hv2, ⟨q, q1, m20, n20⟩, k⟩ := h
  refine ⟨_, (pss_cons (ps_par (i := 4) (j := 5) rfl sc_llines.nd rfl rfl (by decide) rfl rfl (pa_cons (pe_cal C_lnodes (hr.mono (by decide)) (by rfl) pass0 (pa_cons (pv 1) pa_nil)) (pa_cons (pe_lst pa_nil) pa_nil)) (by rfl))
    (pss_cons (ps_set (i := 6) sc_llines.nd rfl (Or.inl rfl) (pe_op op_fdiv (pe_callB call_len (by rfl) n_len (by decide +kernel) (pa_cons (pv 4) pa_nil)) pe_int))
    (pss_cons (ps_for PassesOwn.never rfl (pi_list (pe_lst (pa_cons (pe_slice sl_list (pv 4) po_none (po_some (pv 6))) (pa_cons (pe_slice sl_list (pv 4) (po_some (pv 6)) po_none) pa_nil)))) (pg_name (i := 7) sc_llines.nd rfl (Or.inl rfl)) (pss_one (ps_while PassesOwn.never (pt_cmpR (op_neD hr.units) (pv 7) (pe_lst pa_nil) (nomark _)) (pss_one (ps_expr (pe_bm PySem.F.plainAttrs_list PySem.F.slot_list_append PySem.F.type_list_append mt_append (pv 5) (pa_cons (pe_bm PySem.F.plainAttrs_list PySem.F.slot_list_pop PySem.F.type_list_pop mt_popAt (pv 7) (pa_cons (pe_cal C_any (hr.mono (by decide)) (by rfl) pass0 (pa_cons (pv 0) (pa_cons (pe_callB call_len (by rfl) n_len (by decide +kernel) (pa_cons (pv 7) pa_nil)) pa_nil))) pa_nil)) pa_nil)))))))
    (pss_cons (ps_par (i := 8) (j := 9) rfl sc_llines.nd rfl rfl (by decide) rfl rfl (pa_cons (pe_lst pa_nil) (pa_cons (pe_lst pa_nil) pa_nil)) (by rfl))
    (pss_cons (ps_for PassesOwn.never rfl (pi_range1 rfl n_range (pa_cons (pe_cal C_any (hr.mono (by decide)) (by rfl) pass0 (pa_cons (pv 0) (pa_cons (pe_op op_add (pv 2) pe_int) pa_nil))) pa_nil)) (pg_name (i := 10) sc_llines.nd rfl (Or.inl rfl)) (pss_cons (ps_set (i := 11) sc_llines.nd rfl (Or.inl rfl) (pe_cal C_any (hr.mono (by decide)) (by rfl) pass0 (pa_cons (pv 0) (pa_cons (pe_op op_sub (pe_callB call_len (by rfl) n_len (by decide +kernel) (pa_cons (pv 5) pa_nil)) pe_int) pa_nil))))
      (pss_one (ps_expr (pe_bm PySem.F.plainAttrs_list PySem.F.slot_list_append PySem.F.type_list_append mt_append (pv 8) (pa_cons (pe_tup (pa_cons (pe_ix ix_list (pv 5) (pv 11) (fun _ _ => rfl)) (pa_cons (pe_ix ix_list (pv 5) (pe_op op_add (pe_op op_add (pv 11) pe_int) (pe_cal C_any (hr.mono (by decide)) (by rfl) pass0 (pa_cons (pv 0) (pa_cons (pe_op op_sub (pe_op op_sub (pe_callB call_len (by rfl) n_len (by decide +kernel) (pa_cons (pv 5) pa_nil)) pe_int) (pv 11)) pa_nil)))) (fun _ _ => rfl)) pa_nil))) pa_nil))))))
    (pss_cons (ps_for PassesOwn.never rfl (pi_range1 rfl n_range (pa_cons (pe_cal C_any (hr.mono (by decide)) (by rfl) pass0 (pa_cons (pv 0) (pa_cons (pe_op op_add (pv 3) pe_int) pa_nil))) pa_nil)) (pg_name (i := 10) sc_llines.nd rfl (Or.inl rfl)) (pss_cons (ps_set (i := 11) sc_llines.nd rfl (Or.inl rfl) (pe_cal C_any (hr.mono (by decide)) (by rfl) pass0 (pa_cons (pv 0) (pa_cons (pe_op op_sub (pe_callB call_len (by rfl) n_len (by decide +kernel) (pa_cons (pv 5) pa_nil)) pe_int) pa_nil))))
      (pss_cons (ps_set (i := 12) sc_llines.nd rfl (Or.inl rfl) (pe_lst (pa_cons (pe_ix ix_list (pv 5) (pv 11) (fun _ _ => rfl)) (pa_cons (pe_ix ix_list (pv 5) (pe_op op_add (pe_op op_add (pv 11) pe_int) (pe_cal C_any (hr.mono (by decide)) (by rfl) pass0 (pa_cons (pv 0) (pa_cons (pe_op op_sub (pe_op op_sub (pe_callB call_len (by rfl) n_len (by decide +kernel) (pa_cons (pv 5) pa_nil)) pe_int) (pv 11)) pa_nil)))) (fun _ _ => rfl)) pa_nil))))
      (pss_one (ps_expr (pe_bm PySem.F.plainAttrs_list PySem.F.slot_list_append PySem.F.type_list_append mt_append (pv 9) (pa_cons (pe_tup (pa_cons (pe_callB (id := "min") (r := rMinD K) (cr_minD rfl hr.units) (by rfl) n_min (by decide +kernel) (pa_cons (pv 12) pa_nil)) (pa_cons (pe_callB (id := "max") (r := rMaxD K) (cr_maxD rfl hr.units) (by rfl) n_max (by decide +kernel) (pa_cons (pv 12) pa_nil)) pa_nil))) pa_nil)))))))
    (pss_one (ps_ret (pe_tup (pa_cons (pe_callTy call_tuple_of (by rfl) n_tuple (by decide +kernel) (pa_cons (pe_callB (id := "sorted") (r := rSortedS K P w) (cr_sortedS rfl hr.units) (by rfl) n_sorted (by decide +kernel) (pa_cons (pe_callTy (T := "set") (r := rSetN K P w) (cr_setN rfl hr.units) (by rfl) n_set (by decide +kernel) (pa_cons (pv 8) pa_nil)) pa_nil)) pa_nil)) (pa_cons (pe_callTy call_tuple_of (by rfl) n_tuple (by decide +kernel) (pa_cons (pe_callB (id := "sorted") (r := rSortedS K P w) (cr_sortedS rfl hr.units) (by rfl) n_sorted (by decide +kernel) (pa_cons (pe_callTy (T := "set") (r := rSetN K P w) (cr_setN rfl hr.units) (by rfl) n_set (by decide +kernel) (pa_cons (pv 9) pa_nil)) pa_nil)) pa_nil)) pa_nil))))))))))), ?_⟩
  have line := sizeLine_eq
  have q : FmOk qs := q
  have q1 : 1 ≤ qs.length := q1
  have q8 := q.few
  have m20 : m ≤ 20 := m20
  have n20 : n ≤ 20 := n20
  have hv1 := dat_int (K := K) hv1
  have hv2 := dat_int (K := K) hv2
  subst hv1 hv2
  have hv : dat K (qsD qs) B v := hv
  have k : ∀ v B' H', ExtD d c B H B' H' → datP K (LnP (names qs) m n) B' v → Q v H' := k
  have nl : (nodesL (names qs)).length = 2 * qs.length := by rw [nodes_len, names_len]
  have hname : (names qs).length = qs.length := names_len qs
  refine s_parR (d_ev L (De.call (args := fun qs : Qs => [dat K (qsD qs)]) (res := fun qs => dat K (.list ((nodesL (names qs)).map ndD))) qs (.one (.var hv rfl)) q8) fun v4 B1 H1 e1 h4 => ⟨Nat.zero_le _, fun O hO => ?_⟩)
  have nO : H O = none := ExtD.old L e1 hO
  obtain ⟨mO, eO⟩ := Ml.new (xs := []) e1.dl hO
  have e2 := e1.trans L eO
  change tSeq _ _ _ [some (.ref d), some v, some (.int (m : Int)), some (.int (n : Int)), some v4, some (.ref O), none, none, none, none, none, none, none] (upd H1 O (.lst []))
  refine s_w e2.dl (Dw.of (De.eq (De.op (De.lenL (.var h4 rfl)) (.int (K := K) (n := 2)) (Rv.I (f := fun i j => i / j) ⟨by decide, by decide⟩)) (e := .int (qs.length : Int)) (by rw [List.length_map, nl]; congr 1; omega))) fun v6 B2 H2 e3 h6 => ?_
  have h6 := dat_int h6
  subst h6
  have e4 := e2.trans L e3
  have mO := mO.ext e3
  have h4 := Mo.mo e3.bb h4
  obtain ⟨a4, xs4, rfl, hs4, hR4⟩ := dat_lstR h4
  have hx4 := allR_dp hR4
  have l4 := dpAll_len hx4
  rw [List.length_map, nl] at l4
  change tSeq _ _ _ [some (.ref d), some v, some (.int (m : Int)), some (.int (n : Int)), some (.ref a4), some (.ref O), some (.int (qs.length : Int)), none, none, none, none, none, none] H2
  refine s_forL ⟨.ref a4, rfl, .int (qs.length : Int), rfl, (qs.length : Int), rfl, a4, xs4, rfl, e4.bh.seq hs4, fun p0 hp0 => ?_⟩
  obtain ⟨m0, f0⟩ := Ml.new (xs := cutV xs4 none (some (qs.length : Int))) e4.dl hp0
  have n0 : H p0 = none := ExtD.old L e4 hp0
  have p0O : p0 ≠ O := fun e => by rw [e, mO.at_] at hp0; cases hp0
  have e5 := e4.trans L f0
  have mO := mO.ext f0
  refine ⟨.ref a4, rfl, .int (qs.length : Int), rfl, (qs.length : Int), rfl, a4, xs4, rfl, e5.bh.seq hs4, fun p1 hp1 => ?_⟩
  obtain ⟨m1, f1⟩ := Ml.new (xs := cutV xs4 (some (qs.length : Int)) none) e5.dl hp1
  have n1 : H p1 = none := ExtD.old L e5 hp1
  have p1O : p1 ≠ O := fun e => by rw [e, mO.at_] at hp1; cases hp1
  have p10 : p1 ≠ p0 := fun e => by rw [e, m0.at_] at hp1; cases hp1
  have e6 := e5.trans L f1
  have mO := mO.ext f1
  have m0 := m0.ext f1
  refine ⟨by rw [line]; show 2 ≤ _; decide, fun a7 ha7 => ⟨a7, rfl, ⟨_, SqL.of upd_same⟩, ?_⟩⟩
  have f2 : ExtD d c B2 _ (upd B2 a7 (.lst [.ref p0, .ref p1])) (upd _ a7 (.lst [.ref p0, .ref p1])) := .of e6.dl (Ext.new e6.bh ha7)
  have e7 := e6.trans L f2
  have mO := mO.ext f2
  have m0 := m0.ext f2
  have m1 := m1.ext f2
  have hl7 : lstR K [eqR (.ref p0), eqR (.ref p1)] (upd B2 a7 (.lst [.ref p0, .ref p1])) (.ref a7) := ⟨a7, _, rfl, SqL.of upd_same, _, _, rfl, rfl, _, _, rfl, rfl, rfl⟩
  have hd0 : DpAll K B2 (cutV xs4 none (some (qs.length : Int))) (((names qs).map fun z => (false, z)).map ndD) := by
    rw [cutV_to]
    have h := dpAll_take qs.length hx4
    rw [← List.map_take] at h
    unfold nodesL at h
    rwa [List.take_left' (by rw [List.length_map, hname])] at h
  have hd1 : DpAll K B2 (cutV xs4 (some (qs.length : Int)) none) (((names qs).map fun z => (true, z)).map ndD) := by
    rw [cutV_from]
    have h := dpAll_drop qs.length hx4
    rw [← List.map_drop] at h
    unfold nodesL at h
    rwa [List.drop_left' (by rw [List.length_map, hname])] at h
  generalize hB3 : upd B2 a7 (.lst [.ref p0, .ref p1]) = B3 at e7 mO m0 m1 hl7 f2
  generalize upd _ a7 (.lst [.ref p0, .ref p1]) = H3 at e7 mO m0 m1 f2
  have s23 : Same B2 B3 := f2.bb
  have hd0 := dpMonoAll s23 _ _ hd0
  have hd1 := dpMonoAll s23 _ _ hd1
  have nm0 : ∀ z ∈ (names qs).map fun z => ((false, z) : Ch.Nd), Nm z.2 := fun z hz => by
    obtain ⟨y, hy, rfl⟩ := List.mem_map.mp hz
    exact NmL.nm (q.nm y hy)
  have nm1 : ∀ z ∈ (names qs).map fun z => ((true, z) : Ch.Nd), Nm z.2 := fun z hz => by
    obtain ⟨y, hy, rfl⟩ := List.mem_map.mp hz
    exact NmL.nm (q.nm y hy)
  refine s_forD L e7 (Di.itlR hl7) (fun i σ B' H' => ∃ os v7, σ = [some (.ref d), some v, some (.int (m : Int)), some (.int (n : Int)), some (.ref a4), some (.ref O), some (.int (qs.length : Int)), v7, none, none, none, none, none] ∧ Ml d c B' H' O os ∧
      ((i = 0 ∧ os = [] ∧ Ml d c B' H' p0 (cutV xs4 none (some (qs.length : Int))) ∧ Ml d c B' H' p1 (cutV xs4 (some (qs.length : Int)) none)) ∨ (i = 1 ∧ Ml d c B' H' p1 (cutV xs4 (some (qs.length : Int)) none) ∧ ∃ z1 : List Ch.Nd, DpAll K B' os (z1.map ndD) ∧ z1.Perm ((names qs).map fun z => (false, z))) ∨
        (i = 2 ∧ ∃ z1 z2 : List Ch.Nd, DpAll K B' os ((z1 ++ z2).map ndD) ∧ z1.Perm ((names qs).map fun z => (false, z)) ∧ z2.Perm ((names qs).map fun z => (true, z)))))
    (fun B4 H4 e => ⟨[], none, rfl, mO.ext e, .inl ⟨rfl, rfl, m0.ext e, m1.ext e⟩⟩) ?_ ?_
  · rintro B4 i R x σ' Bc Hc Bn Hn s4 hR e8 sc ⟨os, v7, rfl, mO8, cs⟩ e9 hx
    have e89 := e8.trans L e9
    have sB : Same B3 Bn := (s4.trans sc).trans e9.bb
    have mO9 := mO8.ext e9
    rcases cs with ⟨rfl, rfl, a0, a1⟩ | ⟨rfl, a1, z1, ho, z1p⟩ | ⟨rfl, _⟩
    · cases hR
      have hx : x = .ref p0 := hx
      subst hx
      exact w_pops (K := K) (zs := []) L e89 rfl rfl rfl mO9 (a0.ext e9) p0O nO n0 .nil (dpMonoAll sB _ _ hd0) nm0 (by rw [List.length_map, hname]; simp; omega) fun B5 H5 os2 zs2 e10 s10 mo2 ho2 pm keep => ⟨B5, e10, (sc.trans e9.bb).trans s10, os2, _, rfl, mo2, .inr (.inl ⟨rfl, keep p1 _ (a1.ext e9) p1O p10, zs2, ho2, pm⟩)⟩
    · cases hR
      have hx : x = .ref p1 := hx
      subst hx
      have lz := z1p.length_eq
      rw [List.length_map, hname] at lz
      exact w_pops (K := K) (zs := z1) L e89 rfl rfl rfl mO9 (a1.ext e9) p1O nO n1 (dpMonoAll e9.bb _ _ ho) (dpMonoAll sB _ _ hd1) nm1 (by rw [List.length_map, hname]; omega) fun B5 H5 os2 zs2 e10 s10 mo2 ho2 pm keep => ⟨B5, e10, (sc.trans e9.bb).trans s10, os2, _, rfl, mo2, .inr (.inr ⟨rfl, z1, zs2, ho2, z1p, pm⟩)⟩
    · cases hR
  · rintro σ' B4 H4 e8 s4 ⟨os, v7, rfl, mO8, cs⟩
    obtain ⟨z1, z2, ho, p1', p2'⟩ : ∃ z1 z2 : List Ch.Nd, DpAll K B4 os ((z1 ++ z2).map ndD) ∧ z1.Perm ((names qs).map fun z => (false, z)) ∧ z2.Perm ((names qs).map fun z => (true, z)) := by
      rcases cs with ⟨h, _⟩ | ⟨h, _⟩ | ⟨_, h⟩
      · cases h
      · cases h
      · exact h
    have od := ord_of q.asc p1' p2'
    generalize z1 ++ z2 = ord at ho od
    clear p1' p2' cs
    have ol := od.len
    rw [hname] at ol
    have e9 := e8.settle mO8 nO
    have hord : dat K (.list (ord.map ndD)) (upd B4 O (.lst os)) (.ref O) := .lst (SqL.of upd_same) (dpMonoAll (new_same mO8.no) _ _ ho)
    generalize upd B4 O (.lst os) = B5 at e9 hord
    have lenO : ∀ {σ : L2.St} {B6 : Hp}, σ[5]? = some (some (.ref O)) → Same B5 B6 → De (tCB (Wv.rLen K) (tCons (tVar 5) tNil)) σ B6 (dat K (.int ((2 * qs.length : Nat) : Int))) := fun hσ s => De.eq (De.lenL (.var (Mo.mo s hord) hσ)) (by rw [List.length_map, ol])
    refine s_parR ⟨Nat.zero_le _, fun F hF => ⟨Nat.zero_le _, fun S hS => ?_⟩⟩
    obtain ⟨mF, f3⟩ := Ml.new (xs := []) e9.dl hF
    have nF : H F = none := ExtD.old L e9 hF
    have e10 := e9.trans L f3
    have nS : H S = none := ExtD.old L e10 hS
    obtain ⟨mS, f4⟩ := Ml.new (xs := []) e10.dl hS
    have e11 := e10.trans L f4
    have mF := mF.ext f4
    have SF : S ≠ F := fun e => by rw [e] at hS; rw [show (upd H4 F _) F = _ from upd_same] at hS; cases hS
    change tSeq _ _ _ [some (.ref d), some v, some (.int (m : Int)), some (.int (n : Int)), some (.ref a4), some (.ref O), some (.int (qs.length : Int)), v7, some (.ref F), some (.ref S), none, none, none] (upd (upd H4 F (.lst [])) S (.lst []))
    generalize upd (upd H4 F (.lst [])) S (.lst []) = H5 at e11 mF mS
    refine s_forR (c_any (K := K) e11.dl rfl (.op (.var (Dp.int (m : Int)) rfl) .int Rv.I0) (by omega) (by omega) fun r B6 H6 r0 r1 e12 => ⟨r, rfl, by omega, by omega, ?_⟩)
    have e13 := e11.trans L e12
    refine s_forD L e13 (Di.itr (K := K)) (fun i σ B' H' => ∃ (fs : List Ar) (xs : List V) (v10 v11 v12 : Option V), σ = [some (.ref d), some v, some (.int (m : Int)), some (.int (n : Int)), some (.ref a4), some (.ref O), some (.int (qs.length : Int)), v7, some (.ref F), some (.ref S), v10, v11, v12] ∧ Same B5 B' ∧ Ml d c B' H' F xs ∧ Ml d c B' H' S [] ∧ DpAll K B' xs (fs.map arD) ∧ fs.length = i ∧ ∀ a ∈ fs, Fw ord a)
      (fun B7 H7 e => ⟨[], [], none, none, none, rfl, e12.bb.trans e.bb, (mF.ext e12).ext e, (mS.ext e12).ext e, .nil, rfl, fun a h => nomatch h⟩) ?_ ?_
    · rintro B7 i R x σ' Bc Hc Bn Hn s7 hR e14 sc ⟨fs, xs, v10, v11, v12, rfl, s5, mF7, mS7, hxs, fl, fw⟩ e15 hx
      have il : i < r.toNat := by have := (List.getElem?_eq_some_iff.mp hR).1; rwa [List.length_map, List.length_range] at this
      have e16 := e14.trans L e15
      have s5 := s5.trans e15.bb
      have mF8 := mF7.ext e15
      have mS8 := mS7.ext e15
      change tSeq _ _ _ [some (.ref d), some v, some (.int (m : Int)), some (.int (n : Int)), some (.ref a4), some (.ref O), some (.int (qs.length : Int)), v7, some (.ref F), some (.ref S), some x, v11, v12] Hn
      refine s_w e16.dl (Dw.any (K := K) rfl (.op (lenO rfl s5) .int Rv.I0) (by omega) (by omega)) fun v11 B8 H8 e17 h11 => ?_
      obtain ⟨at_, ⟨t0, t1⟩, rfl⟩ := h11
      have e18 := e16.trans L e17
      have s5 := s5.trans e17.bb
      have mF9 := mF8.ext e17
      have mS9 := mS8.ext e17
      obtain ⟨t, rfl⟩ := Int.eq_ofNat_of_zero_le t0
      refine s_dropE ⟨.ref F, rfl, .inl ⟨rfl, _, SqL.of mF9.at_⟩, ?_⟩
      refine a_one (e_tup (a_fwd (K := K) (t := t) e18.dl rfl rfl rfl (Mo.mo s5 hord) (by omega) (by omega) fun a u1 u2 B9 H9 fa e19 hu1 hu2 => ⟨by rw [line]; show 2 ≤ _; decide, fun T hT => ?_⟩))
      have mF10 := mF9.ext e19
      have e20 := e18.trans L e19
      have f5 : ExtD d c B9 H9 (upd B9 T (.tup [u1, u2])) (upd H9 T (.tup [u1, u2])) := .of e20.dl (Ext.new e20.bh hT)
      have mF11 := mF10.ext f5
      have e21 := e20.trans L f5
      have xl := dpAll_len hxs
      rw [List.length_map] at xl
      have nT : Same B9 (upd B9 T (.tup [u1, u2])) := f5.bb
      refine ⟨F, xs, .ref T, rfl, rfl, mF11.at_, by omega, ?_⟩
      refine ⟨_, e21.setL mF11 nF, (((sc.trans e15.bb).trans e17.bb).trans e19.bb).trans nT, fs ++ [a], xs ++ [.ref T], _, _, _, rfl, (s5.trans e19.bb).trans nT, (Ml.set e21.dl mF11).1, ((mS9.ext e19).ext f5).other SF, ?_, by rw [List.length_append, fl]; rfl, fun b hb => ?_⟩
      · rw [List.map_append]
        exact dpAll_app (dpMonoAll (((e15.bb.trans e17.bb).trans e19.bb).trans nT) _ _ hxs) (.cons (.tup (SqT.of upd_same) (.cons (Mo.mo nT hu1) (.cons (Mo.mo nT hu2) .nil))) .nil)
      · rcases List.mem_append.mp hb with h | h
        · exact fw b h
        · rw [List.mem_singleton.mp h]
          exact fa
    · rintro σ' B7 H7 e14 s7 ⟨fs, xs, v10, v11, v12, rfl, s5, mF7, mS7, hxs, fl, fw⟩
      rw [List.length_map, List.length_range] at fl
      have fm : fs.length ≤ m := by omega
      clear fl
      have e15 := e14.settle mF7 nF
      have hF2 : dat K (.list (fs.map arD)) (upd B7 F (.lst xs)) (.ref F) := .lst (SqL.of upd_same) (dpMonoAll (new_same mF7.no) _ _ hxs)
      have mS8 : Ml d c (upd B7 F (.lst xs)) H7 S [] := ⟨mS7.at_, by rw [upd_ne SF]; exact mS7.no, mS7.nd, mS7.nc⟩
      have s5 := s5.trans (new_same (o := .lst xs) mF7.no)
      generalize upd B7 F (.lst xs) = B8 at e15 hF2 mS8 s5
      change tSeq _ _ _ [some (.ref d), some v, some (.int (m : Int)), some (.int (n : Int)), some (.ref a4), some (.ref O), some (.int (qs.length : Int)), v7, some (.ref F), some (.ref S), v10, v11, v12] H7
      refine s_forR (c_any (K := K) e15.dl rfl (.op (.var (Dp.int (n : Int)) rfl) .int Rv.I0) (by omega) (by omega) fun r B9 H9 r0 r1 e16 => ⟨r, rfl, by omega, by omega, ?_⟩)
      have e17 := e15.trans L e16
      refine s_forD L e17 (Di.itr (K := K)) (fun i σ B' H' => ∃ (gs : List Ar) (ys : List V) (v10 v11 v12 : Option V), σ = [some (.ref d), some v, some (.int (m : Int)), some (.int (n : Int)), some (.ref a4), some (.ref O), some (.int (qs.length : Int)), v7, some (.ref F), some (.ref S), v10, v11, v12] ∧ Same B8 B' ∧ Ml d c B' H' S ys ∧ DpAll K B' ys (gs.map arD) ∧ gs.length = i ∧ ∀ b ∈ gs, ∃ a, Fw ord a ∧ b = (minO ndD a.1 [a.2], maxO ndD a.1 [a.2]))
        (fun B10 H10 e => ⟨[], [], _, _, _, rfl, e16.bb.trans e.bb, (mS8.ext e16).ext e, .nil, rfl, fun a h => nomatch h⟩) ?_ ?_
      · rintro B10 i R x σ' Bc Hc Bn Hn s10 hR e18 sc ⟨gs, ys, w10, w11, w12, rfl, s8, mS9, hys, gl, gw⟩ e19 hx
        have il : i < r.toNat := by have := (List.getElem?_eq_some_iff.mp hR).1; rwa [List.length_map, List.length_range] at this
        have e20 := e18.trans L e19
        have s8 := s8.trans e19.bb
        have mS10 := mS9.ext e19
        change tSeq _ _ _ [some (.ref d), some v, some (.int (m : Int)), some (.int (n : Int)), some (.ref a4), some (.ref O), some (.int (qs.length : Int)), v7, some (.ref F), some (.ref S), some x, w11, w12] Hn
        refine s_w e20.dl (Dw.any (K := K) rfl (.op (lenO rfl (s5.trans s8)) .int Rv.I0) (by omega) (by omega)) fun v11 B11 H11 e21 h11 => ?_
        obtain ⟨at_, ⟨t0, t1⟩, rfl⟩ := h11
        have e22 := e20.trans L e21
        have s8 := s8.trans e21.bb
        have mS11 := mS10.ext e21
        obtain ⟨t, rfl⟩ := Int.eq_ofNat_of_zero_le t0
        change tSeq _ _ _ [some (.ref d), some v, some (.int (m : Int)), some (.int (n : Int)), some (.ref a4), some (.ref O), some (.int (qs.length : Int)), v7, some (.ref F), some (.ref S), some x, some (.int (t : Int)), w12] H11
        refine s_raw (e_lst (a_fwd (K := K) (t := t) e22.dl rfl rfl rfl (Mo.mo (s5.trans s8) hord) (by omega) (by omega) fun a u1 u2 B12 H12 fa e23 hu1 hu2 => ⟨by rw [line]; show 2 ≤ _; decide, fun T hT => ?_⟩))
        have e24 := e22.trans L e23
        have f5 : ExtD d c B12 H12 (upd B12 T (.lst [u1, u2])) (upd H12 T (.lst [u1, u2])) := .of e24.dl (Ext.new e24.bh hT)
        have mS12 := (mS11.ext e23).ext f5
        have e25 := e24.trans L f5
        have nT : Same B12 (upd B12 T (.lst [u1, u2])) := f5.bb
        have hp : dat K (.list ([a.1, a.2].map ndD)) (upd B12 T (.lst [u1, u2])) (.ref T) := .lst (SqL.of upd_same) (.cons (Mo.mo nT hu1) (.cons (Mo.mo nT hu2) .nil))
        have sB : Same Bc (upd B12 T (.lst [u1, u2])) := ((e19.bb.trans e21.bb).trans e23.bb).trans nT
        have s8 := (s8.trans e23.bb).trans nT
        generalize upd B12 T (.lst [u1, u2]) = B13 at e25 mS12 hp sB s8
        generalize upd H12 T (.lst [u1, u2]) = H13 at e25 mS12
        have yl := dpAll_len hys
        rw [List.length_map] at yl
        refine s_dropE ⟨.ref S, rfl, .inl ⟨rfl, _, SqL.of mS12.at_⟩, ?_⟩
        refine (Da.one (De.tupD (K := K) (ds := [ndD (minO ndD a.1 [a.2]), ndD (maxO ndD a.1 [a.2])]) (.cons (De.minL ndKd (a := a.1) (l := [a.2]) (.var hp rfl)) (.cons (De.maxL ndKd (a := a.1) (l := [a.2]) (.var hp rfl)) .nil)) (by rw [line]; show 2 ≤ _; decide))) B13 H13 (Same.refl _) e25.bh _ fun vs B14 H14 e26 hvs => ?_
        obtain ⟨u, r', rfl, hu, hr'⟩ := hvs
        have hr' : r' = [] := hr'
        subst hr'
        have e27 := e25.trans L (.of e25.dl e26)
        have mS13 := mS12.ext (.of e25.dl e26)
        refine ⟨S, ys, u, rfl, rfl, mS13.at_, by omega, ?_⟩
        refine ⟨B14, e27.setL mS13 nS, (sc.trans sB).trans e26.bb, gs ++ [(minO ndD a.1 [a.2], maxO ndD a.1 [a.2])], ys ++ [u], _, _, _, rfl, s8.trans e26.bb, (Ml.set e27.dl mS13).1, ?_, by rw [List.length_append, gl]; rfl, fun b hb => ?_⟩
        · rw [List.map_append]
          exact dpAll_app (dpMonoAll (sB.trans e26.bb) _ _ hys) (.cons hu .nil)
        · rcases List.mem_append.mp hb with h | h
          · exact gw b h
          · rw [List.mem_singleton.mp h]
            exact ⟨a, fa, rfl⟩
      · rintro σ' B10 H10 e18 s10 ⟨gs, ys, w10, w11, w12, rfl, s8, mS9, hys, gl, gw⟩
        rw [List.length_map, List.length_range] at gl
        have gm : gs.length ≤ n := by omega
        have e19 := e18.settle mS9 nS
        have hS2 : dat K (.list (gs.map arD)) (upd B10 S (.lst ys)) (.ref S) := .lst (SqL.of upd_same) (dpMonoAll (new_same mS9.no) _ _ hys)
        have s8 := s8.trans (new_same (o := .lst ys) mS9.no)
        generalize upd B10 S (.lst ys) = B11 at e19 hS2 s8
        dsimp only
        refine s_ret (De.tupD (K := K) (ds := [.tuple ((setO arD fs).map arD), .tuple ((setO arD gs).map arD)]) (.cons (De.tupleL (Ch.De.setO (P := P) (w := w) arKd (.var (Mo.mo s8 hF2) rfl) (by omega))) (.cons (De.tupleL (Ch.De.setO (P := P) (w := w) arKd (.var hS2 rfl) (by omega))) .nil)) (by rw [line]; show 2 ≤ _; decide)) e19.bh fun u B12 H12 e20 hu => ?_
        refine k u B12 H12 (e19.trans L (.of e19.dl e20)) ⟨_, ⟨_, _, rfl, lnOk_of od fw gw, Nat.le_trans (setO_len fs) fm, Nat.le_trans (setO_len gs) gm⟩, hu⟩
end
end K10

set_option Elab.async false
set_option linter.all false
set_option maxRecDepth 100000
set_option maxHeartbeats 1000000
/-! K10g: the law's own walks. -/
namespace K10
open PySem PySem.Spec PyProof.Rows L2 Wb Wv Fm Fq Sb St Ch
abbrev sp_lled (K : PySem.W.Frag) : Sp := Pf (α := List Ar × List Ch.Nd) (fun a => [dat K (.tuple (a.1.map arD)), dat K (.list (a.2.map ndD))]) (fun a => ReOk a.2 a.1 ∧ a.2.length + a.1.length ≤ 60) (fun a => dat K (.list ((ledL a.1 a.2).map ndD)))
abbrev sp_lorder (K : PySem.W.Frag) : Sp := Pf (α := Qs × List Ar) (fun a => [dat K (.list ((nodesL (names a.1)).map ndD)), dat K (.tuple (a.2.map arD))]) (fun a => OrOk a.1 a.2) (fun a => dat K (.tuple ((topoL a.1 a.2).map ndD)))
section
variable {P : Program} {w : World} {K : PySem.W.Frag} {mg : Str → Option Value} {base : Heap} {C_Form C_Chart : Addr}
theorem sc_lled : FnScope ["arrows", "nodes", "found", "at", "start", "end"] ["arrows", "nodes"] (defScope s_lled) := ⟨rfl, rfl, rfl, by decide +kernel, rfl, by decide +kernel, by decide +kernel⟩
theorem ok_lled (D : Def K mg "_law_led" s_lled ["arrows", "nodes"]) (n_list : mg "list" = none) (n_len : mg "len" = none) (n_set : mg "set" = none) (n_sorted : mg "sorted" = none) : Cal P w K mg base CX0 1 "_law_led" s_lled ["arrows", "nodes"] (sp_lled K) := by
  refine D.ok sc_lled (fun vs H Q E h => ?_) (fun cdv f A outer s H vs Q E hr h => ?_)
  · exact pf_len h fun _ => rfl
  replace h := pf2 h
  obtain ⟨v, v1, B, ⟨as, st⟩, rfl, hB, hv, hv1, ⟨ok, few⟩, k⟩ := h
  refine ⟨_, (pss_cons (ps_asg (pe_tup (pa_cons (pe_callTy call_list_of (by rfl) n_list (by decide +kernel) (pa_cons (pv 1) pa_nil)) (pa_cons pe_int pa_nil))) (pg_tup rfl (pgs_cons (pg_name (i := 2) sc_lled.nd rfl (Or.inr rfl)) (pgs_cons (pg_name (i := 3) sc_lled.nd rfl (Or.inr rfl)) pgs_nil))))
    (pss_cons (ps_while PassesOwn.never (pt_cmpR op_lt (pv 3) (pe_callB call_len (by rfl) n_len (by decide +kernel) (pa_cons (pv 2) pa_nil)) (nomark _)) (pss_cons (ps_set (i := 2) sc_lled.nd rfl (Or.inr rfl) (pe_op op_catS (pv 2) (pe_lc (own := [("start", 4), ("end", 5)]) (g := gTup K 2 (gCons (gName 4) (gCons (gName 5) gNil))) rfl sc_lled.nd (pi_tup (pv 0)) (blkOk_by (own := [("start", 4), ("end", 5)]) (N := ["arrows", "nodes", "found", "at", "start", "end"]) (sc := defScope s_lled) (by decide +kernel)) (fun _ _ _ _ _ => (pg_tup rfl (pgs_cons (pg_name (i := 4) sc_lled.nd rfl (Or.inl rfl)) (pgs_cons (pg_name (i := 5) sc_lled.nd rfl (Or.inl rfl)) pgs_nil)))) (fun _ _ _ _ _ => pts_one (PW.pt (pw_and (pt_cmpR (r := rEqD K) (op_eqD hr.units) (pv 4) (pe_ix (r := rIxL K) ix_list (pv 2) (pv 3) (fun _ _ => rfl)) (nomark _)) (pw_and1 (pt_cmpR (r := rNotInD K) (op_notInD hr.u65) (pv 5) (pv 2) rfl))))) (fun _ _ _ _ _ => (pv 5)))))
      (pss_one (ps_set (i := 3) sc_lled.nd rfl (Or.inr rfl) (pe_op op_add (pv 3) pe_int)))))
    (pss_one (ps_ret (pe_callB (id := "sorted") (r := rSortedS K P w) (cr_sortedS rfl hr.units) (by rfl) n_sorted (by decide +kernel) (pa_cons (pe_callTy (T := "set") (r := rSetN K P w) (cr_setN rfl hr.units) (by rfl) n_set (by decide +kernel) (pa_cons (pv 2) pa_nil)) pa_nil)))))), ?_⟩
  have line := sizeLine_eq
  have ok : ReOk st as := ok
  have few : st.length + as.length ≤ 60 := few
  have hv : dat K (.tuple (as.map arD)) B v := hv
  have hv1 : dat K (.list (st.map ndD)) B v1 := hv1
  have k : ∀ (v : V) (B' H' : Hp), Ext B H B' H' → dat K (.list ((ledL as st).map ndD)) B' v → Q v H' := k
  refine s_un2 (R := dat K (.list (st.map ndD))) (S := dat K (.int 0)) (De.tup (Da.cons (De.listL (.var hv1 rfl)) (.one .int)) (by rw [line]; show 2 ≤ _; decide)) hB fun v2 v3 B1 H1 e1 h2 h3 => ?_
  have h3 := dat_int h3
  subst h3
  change tSeq _ _ _ [some v, some v1, some v2, some (.int 0), none, none] H1
  refine whileN (fun m σ J => ∃ (B' : Hp) (l : List Ch.Nd) (u : V) (t : Nat) (v4 v5 : Option V), m = lack as l + (l.length - t) ∧ σ = [some v, some v1, some u, some (.int (t : Int)), v4, v5] ∧ Ext B H B' J ∧ dat K (.list (l.map ndD)) B' u ∧ LInv as st t l)
    (fun σ J => ∃ (B' : Hp) (l : List Ch.Nd) (u : V) (v3 v4 v5 : Option V), σ = [some v, some v1, some u, v3, v4, v5] ∧ Ext B H B' J ∧ dat K (.list (l.map ndD)) B' u ∧ LInv as st l.length l) _
    ⟨B1, st, v2, 0, none, none, rfl, rfl, e1, h2, LInv.begin as st⟩ ?_ ?_
  · rintro σ J ⟨B2, l, u, v3, v4, v5, rfl, e2, hu, iv⟩
    have := iv.len
    refine s_ret (Ch.De.setO (P := P) (w := w) ndKd (.var hu rfl) (by omega)) e2.bh fun v B' H' e h => k v B' H' (e2.trans e) ?_
    rw [iv.done] at h
    exact h
  · rintro m σ J ⟨B2, l, u, t, v4, v5, rfl, rfl, e2, hu, iv⟩ Y Z hY hZ
    have len := iv.len
    have nml : ∀ z ∈ l, Nm z.2 := fun z hz => ok.nod (iv.sub z hz)
    refine (Dt.test (K := K) (De.op (.var (Dp.int (t : Int)) rfl) (De.lenL (.var hu rfl)) Rv.I0b)) B2 J (Same.refl _) e2.bh _ fun B3 H3 e3 => ?_
    rw [List.length_map]
    have e23 := e2.trans e3
    have hu3 := Mo.mo e3.bb hu
    refine ite2 (fun h => hY _ ?_) (fun h => hZ _ ?_)
    · have lt : t < l.length := by have := of_decide_eq_true h; omega
      obtain ⟨hh, gh⟩ : ∃ y, l[t]? = some y := ⟨_, List.getElem?_eq_getElem lt⟩
      have iv2 := iv.step gh
      have nxl : (nexts as l hh).length ≤ as.length := by unfold nexts; rw [List.length_map]; exact List.length_filter_le _ _
      refine s_set (De.eq (De.op (r := rCatS K) (.var hu3 rfl) (De.lcD (K := K) (as := as) (r := fun a => dat K (arD a)) (Di.tupM (f := arD) (.var (Mo.mo e23.bb hv) rfl)) (fun a => decide (a.1 = hh) && !decide (a.2 ∈ l)) (fun a => ndD a.2) (by omega) fun a x Bn Hn ha sn sh hx => ?_) (Rv.catS (by rw [List.length_map, List.length_map]; have := List.length_filter_le (fun a : Ar => decide (a.1 = hh) && !decide (a.2 ∈ l)) as; omega))) (e := .list ((l ++ nexts as l hh).map ndD)) (by unfold nexts; rw [List.map_append, List.map_map]; rfl)) e23.bh fun v6 B4 H4 e4 h6 => ?_
      · obtain ⟨y, z, hy, hz, go⟩ := gTup2 sh (dat_pair (d := ndD a.1) (e := ndD a.2) hx)
        have hun := Mo.mo sn hu3
        exact ⟨_, fun Q q => go Q q, rfl, Dt.and (Dt.eq (Dt.test (De.op (r := rEqD K) (.var hy rfl) (De.op (r := rIxL K) (.var hun rfl) (.var (Dp.int (t : Int)) rfl) (Rv.ixLD (ds := l.map ndD) (d := ndD hh) (atI_nat (by rw [List.getElem?_map, gh]; rfl)))) (Rv.eqD (nd_sm (ok.nas a ha).1).shaped (nd_sm (nml hh (List.mem_of_getElem? gh))).shaped))) (ndD_eqv _ _)) fun _ => Dt.eq (Dt.test (De.op (r := rNotInD K) (.var hz rfl) (.var hun rfl) (Rv.notInL (nd_sm (ok.nas a ha).2).shaped (ndsL_sm nml (by omega)).shaped))) (by rw [mem_eqv ndKd]), fun _ => .var hz rfl⟩
      refine s_setE (De.op (.var (Dp.int (t : Int)) rfl) (.int (K := K) (n := 1)) Rv.I0) e4.bh fun v7 B5 H5 e5 h7 => ?_
      have h7 := dat_int h7
      subst h7
      refine ⟨lack as (l ++ nexts as l hh) + ((l ++ nexts as l hh).length - (t + 1)), ?_, B5, l ++ nexts as l hh, v6, t + 1, _, _, rfl, rfl, (e23.trans e4).trans e5, Mo.mo e5.bb h6, iv2⟩
      have := lack_next as l hh
      rw [List.length_append]
      omega
    · have : t = l.length := by
        have := iv.le
        have : ¬ t < l.length := fun q => h (decide_eq_true (by omega))
        omega
      subst this
      exact ⟨B3, l, u, _, _, _, rfl, e23, hu3, iv⟩
theorem sc_lorder : FnScope ["nodes", "arrows", "found", "turn", "free", "node", "start", "end"] ["nodes", "arrows"] (defScope s_lorder) := ⟨rfl, rfl, rfl, by decide +kernel, rfl, by decide +kernel, by decide +kernel⟩
theorem ok_lorder (D : Def K mg "_law_order" s_lorder ["nodes", "arrows"]) (n_range : mg "range" = none) (n_len : mg "len" = none) (n_min : mg "min" = none) (n_tuple : mg "tuple" = none) : Cal P w K mg base CX0 1 "_law_order" s_lorder ["nodes", "arrows"] (sp_lorder K) := by
  refine D.ok sc_lorder (fun vs H Q E h => ?_) (fun cdv f A outer s H vs Q E hr h => ?_)
  · exact pf_len h fun _ => rfl
  replace h := pf2 h
  obtain ⟨v, v1, B, ⟨qs, as⟩, rfl, hB, hv, hv1, ok, k⟩ := h
  refine ⟨_, (pss_cons (ps_set (i := 2) sc_lorder.nd rfl (Or.inr rfl) (pe_lst pa_nil))
    (pss_cons (ps_for PassesOwn.never rfl (pi_range1 rfl n_range (pa_cons (pe_callB call_len (by rfl) n_len (by decide +kernel) (pa_cons (pv 0) pa_nil)) pa_nil)) (pg_name (i := 3) sc_lorder.nd rfl (Or.inl rfl)) (pss_cons (ps_setLc (i := 4) (own := [("node", 5)]) (g := gName 5) rfl sc_lorder.nd rfl rfl (sw_true rfl rfl rfl (by decide +kernel)) (pi_list (pv 0)) (blkOk_by (own := [("node", 5)]) (N := ["nodes", "arrows", "found", "turn", "free", "node", "start", "end"]) (sc := defScope s_lorder) (by decide +kernel)) (fun _ _ _ _ _ => (pg_name (i := 5) sc_lorder.nd rfl (Or.inr rfl))) (fun _ _ _ _ _ => pts_one (PW.pt (pw_and (pt_cmpR (r := rNotInD K) (op_notInD hr.u65) (pv 5) (pv 2) rfl) (pw_and1 (pt_cmpR (r := rEqD K) (op_eqD hr.units) (pe_lc (own := [("start", 6), ("end", 7)]) (g := gTup K 2 (gCons (gName 6) (gCons (gName 7) gNil))) (wi := iTup K (tVar 1)) rfl sc_lorder.nd (pi_tup (pv 1)) (by exact blkOk_by (own := [("start", 6), ("end", 7)]) (N := ["nodes", "arrows", "found", "turn", "free", "node", "start", "end"]) (sc := ⟨.function, [(".0", .local), ("node", .cell), ("arrows", .cell), ("found", .cell)], false, false, []⟩) (by decide +kernel)) (fun _ _ _ _ _ => (pg_tup rfl (pgs_cons (pg_name (i := 6) sc_lorder.nd rfl (Or.inl rfl)) (pgs_cons (pg_name (i := 7) sc_lorder.nd rfl (Or.inl rfl)) pgs_nil)))) (fun _ _ _ _ _ => pts_one (PW.pt (pw_and (pt_cmpR (r := rEqD K) (op_eqD hr.units) (pv 7) (pv 5) (nomark _)) (pw_and1 (pt_cmpR (r := rNotInD K) (op_notInD hr.u65) (pv 6) (pv 2) rfl))))) (fun _ _ _ _ _ => (pv 6))) (pe_lst pa_nil) (nomark _)))))) (fun _ _ _ _ _ => (pv 5)))
      (pss_one (ps_expr (pe_bm PySem.F.plainAttrs_list PySem.F.slot_list_append PySem.F.type_list_append mt_append (pv 2) (pa_cons (pe_callB (id := "min") (r := rMinD K) (cr_minD rfl hr.units) (by rfl) n_min (by decide +kernel) (pa_cons (pv 4) pa_nil)) pa_nil))))))
    (pss_one (ps_ret (pe_callTy call_tuple_of (by rfl) n_tuple (by decide +kernel) (pa_cons (pv 2) pa_nil)))))), ?_⟩
  have line := sizeLine_eq
  have ok : OrOk qs as := ok
  have q := ok.q
  have n16 := q.nlen
  have af := ok.few
  obtain ⟨rk, hrk⟩ := ok.rank
  have hv : dat K (.list ((nodesL (names qs)).map ndD)) B v := hv
  have hv1 : dat K (.tuple (as.map arD)) B v1 := hv1
  have k : ∀ (v : V) (B' H' : Hp), Ext B H B' H' → dat K (.tuple ((topoL qs as).map ndD)) B' v → Q v H' := k
  have asc := nodes_asc q.asc
  have ndn := asc_nodup asc
  have nmn : ∀ x ∈ nodesL (names qs), Nm x.2 := fun x hx => q.nd hx
  obtain ⟨aN, xN, rfl, hsN, hRN⟩ := dat_lstR hv
  have hxN := allR_dp hRN
  have hv0 := hv
  have hmem := ok.mem
  unfold topoL at k
  generalize nodesL (names qs) = ns at hv hv0 n16 asc ndn nmn hxN k hmem
  have nl := dpAll_len hxN
  rw [List.length_map] at nl
  refine s_raw ⟨Nat.zero_le _, fun F hF => ?_⟩
  change tSeq _ _ _ [some (.ref aN), some v1, some (.ref F), none, none, none, none, none] (upd H F (.lst []))
  have nF := hF
  refine s_forX (Ext.newH hB hF) (Di.rng (K := K) (n := ns.length) (De.eq (De.lenL (.var hv rfl)) (by rw [List.length_map])) (by omega)) (fun i σ B' J => ∃ (found left : List Ch.Nd) (os : List V) (v3 v4 v5 v6 v7 : Option V), σ = [some (.ref aN), some v1, some (.ref F), v3, v4, v5, v6, v7] ∧ Same B B' ∧ Hid B' J F (.lst os) ∧ DpAll K B' os (found.map ndD) ∧ (∀ x ∈ found, x ∈ ns) ∧ found.length = i ∧ left.length + i = ns.length ∧ left = (ns.filter fun n => !decide (n ∈ found)) ∧ found ++ topo as left.length left = topo as ns.length ns)
    (fun B1 H1 e => ⟨[], ns, [], none, none, none, none, none, rfl, e.bb, (Hid.new hB hF).ext e, .nil, (fun x h => nomatch h), rfl, rfl, (List.filter_eq_self.mpr fun x _ => by simp).symm, rfl⟩) ?_ ?_
  · rintro B1 i R x σ' Bc Hc Bn Hn s1 hR e0 sc ⟨found, left, os, v3, v4, v5, v6, v7, rfl, sb, mF, hos, fsub, fl, ll, el, tp⟩ e2 hx
    have il : i < ns.length := by have := (List.getElem?_eq_some_iff.mp hR).1; rwa [List.length_map, List.length_range] at this
    have mF := mF.ext e2
    have hos := dpMonoAll e2.bb _ _ hos
    have sBn : Same B Bn := sb.trans e2.bb
    have e02 := e0.trans e2
    change tSeq _ _ _ [some (.ref aN), some v1, some (.ref F), some x, v4, v5, v6, v7] Hn
    obtain ⟨lk1, lk2⟩ := hid_look mF e2.bh
    have hF2 : dat K (.list (found.map ndD)) (upd Bn F (.lst os)) (.ref F) := .lst (SqL.of upd_same) (dpMonoAll lk1 _ _ hos)
    have nmf : ∀ x ∈ found, Nm x.2 := fun x hx => nmn x (fsub x hx)
    have shF : SeqAt.shaped (.list (found.map ndD)) = true := (ndsL_sm nmf (by omega)).shaped
    have hv1b := Mo.mo (sBn.trans lk1) hv1
    generalize upd Bn F (.lst os) = Bk at lk1 lk2 hF2 hv1b
    have hxk := dpMonoAll (sBn.trans lk1) _ _ hxN
    have hsk := (sBn.trans lk1).seq hsN
    have hi : Di (iList K (tVar 0)) [some (.ref aN), some v1, some (.ref F), some x, v4, v5, v6, v7] Bk ((List.range ns.length).map fun i => idR K xN (ns.map ndD) i) := Di.ids hsk hxk (List.length_map _) rfl
    refine s_raw ?_
    refine (De.lc (K := K) hi (fun i => (fun n => (!decide (n ∈ found)) && (((as.filter fun a => decide (a.2 = n) && !decide (a.1 ∈ found)).map (·.1)).isEmpty)) (ns.getD i (false, ""))) (fun i => idR K xN (ns.map ndD) i) (by rw [List.length_range]; omega) fun j y Bm Hm hj sn sh hy => ⟨[some (.ref aN), some v1, some (.ref F), some x, v4, some y, v6, v7], fun Q q => q, rfl, ?_, fun _ => .var hy rfl⟩) Bk Hn (Same.refl _) lk2 _ fun v8 B3 H3 e3 h8 => ?_
    · have jl := List.mem_range.mp hj
      have gn : ns[j]? = some (ns.getD j (false, "")) := by rw [List.getD_eq_getElem?_getD, List.getElem?_eq_getElem jl]; rfl
      have gm := List.mem_of_getElem? gn
      generalize ns.getD j (false, "") = n at gn gm
      obtain ⟨_, dd, hd1, hd2⟩ := hy
      rw [List.getElem?_map, gn] at hd1
      cases hd1
      have hd2 : dat K (ndD n) Bm y := hd2
      refine Dt.and (Dt.eq (Dt.test (De.op (r := rNotInD K) (.var hd2 rfl) (.var (Mo.mo sn hF2) rfl) (Rv.notInL (nd_sm (nmn n gm)).shaped shF))) (by rw [mem_eqv ndKd])) fun _ => ?_
      refine Dt.eq (Dt.test (De.op (r := rEqD K) (De.lcD (K := K) (as := as) (r := fun a => dat K (arD a)) (Di.tupM (f := arD) (.var (Mo.mo sn hv1b) rfl)) (fun a => decide (a.2 = n) && !decide (a.1 ∈ found)) (fun a => ndD a.1) (by omega) fun a z Bp Hp_ ha sp shp hz => ?_) (De.lstD (K := K) .nil (by show 0 ≤ sizeLine; omega)) (Rv.eqD ?_ rfl))) ?_
      · obtain ⟨y1, z1, hy1, hz1, go⟩ := gTup2 shp (dat_pair (d := ndD a.1) (e := ndD a.2) hz)
        exact ⟨_, fun Q q => go Q q, rfl, Dt.and (Dt.eq (Dt.test (De.op (r := rEqD K) (.var hz1 rfl) (.var (Mo.mo sp hd2) rfl) (Rv.eqD (nd_sm (nmn _ (hmem a ha).2)).shaped (nd_sm (nmn n gm)).shaped))) (ndD_eqv _ _)) fun _ => Dt.eq (Dt.test (De.op (r := rNotInD K) (.var hy1 rfl) (.var (Mo.mo (sn.trans sp) hF2) rfl) (Rv.notInL (nd_sm (nmn _ (hmem a ha).1)).shaped shF))) (by rw [mem_eqv ndKd]), fun _ => .var hy1 rfl⟩
      · have e : ((as.filter fun a => decide (a.2 = n) && !decide (a.1 ∈ found)).map fun a => ndD a.1) = ((as.filter fun a => decide (a.2 = n) && !decide (a.1 ∈ found)).map (·.1)).map ndD := by rw [List.map_map]; rfl
        rw [e]
        refine (ndsL_sm (fun z hz => ?_) (by rw [List.length_map]; have := List.length_filter_le (fun a : Ar => decide (a.2 = n) && !decide (a.1 ∈ found)) as; omega)).shaped
        obtain ⟨a, ha, rfl⟩ := List.mem_map.mp hz
        exact nmn _ (hmem a (List.mem_filter.mp ha).1).1
      · rw [eqv_nilL]
        cases as.filter fun a => decide (a.2 = n) && !decide (a.1 ∈ found) <;> rfl
    have e3o := e3
    have e3 := ext_flat e3 e2.bh
    obtain ⟨N, ys, rfl, hN, hys⟩ := h8
    have ef : free as left = ((List.range ns.length).filter fun i => (fun n => (!decide (n ∈ found)) && (((as.filter fun a => decide (a.2 = n) && !decide (a.1 ∈ found)).map (·.1)).isEmpty)) (ns.getD i (false, ""))).map fun i => ns.getD i (false, "") := by
      rw [← free_law (fun a ha => (hmem a ha).1) el]
      exact filter_ix ns (false, "") _
    generalize hix : (List.range ns.length).filter (fun i => (fun n => (!decide (n ∈ found)) && (((as.filter fun a => decide (a.2 = n) && !decide (a.1 ∈ found)).map (·.1)).isEmpty)) (ns.getD i (false, ""))) = ix at hys ef
    have ixl : ∀ i ∈ ix, i < ns.length := fun i hi => by
      rw [← hix] at hi
      exact List.mem_range.mp (List.mem_filter.mp hi).1
    obtain ⟨dpf, at_⟩ := ids_dp (df := ((false, "") : Ch.Nd)) hys ixl
    rw [← ef] at dpf
    have ln : left ≠ [] := fun e => by rw [e] at ll; simp at ll; omega
    have fs := free_some hrk ln
    have fasc := free_asc (as := as) (left := left) (by rw [el]; exact asc.sublist List.filter_sublist)
    obtain ⟨h, fr, ehf⟩ : ∃ y ys, free as left = y :: ys := by
      cases g : free as left with
      | nil => exact absurd g fs
      | cons y ys => exact ⟨y, ys, rfl⟩
    rw [ehf] at dpf fasc
    have hl : h ∈ left := free_sub (by rw [ehf]; exact List.mem_cons_self)
    have hn : h ∈ ns := by rw [el] at hl; exact (List.mem_filter.mp hl).1
    have mF3 := mF.ext e3
    have e03 := e02.trans e3
    have ol := dpAll_len hos
    rw [List.length_map] at ol
    change tDrop _ _ [some (.ref aN), some v1, some (.ref F), some x, some (.ref N), v5, v6, v7] H3
    refine s_dropE ⟨.ref F, rfl, .inl ⟨rfl, _, SqL.of mF3.at_⟩, .ref N, rfl, N, ys, ndD h, fr.map ndD, rfl, e3o.bh.seq hN, dpMonoAll e3o.bh _ _ dpf, ndKd.alikeAll (h :: fr), ndKd.depths (h :: fr), fun j y hy hd => ?_⟩
    rw [minD_map, minO_asc fasc] at hd
    obtain ⟨ii, gi, gx⟩ := at_ j y hy
    have dy : Dp K Bn y (ndD h) := by
      obtain ⟨dd, hdd, g⟩ := dpAll_at (dpMonoAll sBn _ _ hxN) gx
      have iil := ixl ii (List.mem_of_getElem? gi)
      have e1 : (free as left)[j]? = some (ns.getD ii (false, "")) := by rw [ef, List.getElem?_map, gi]; rfl
      rw [ehf] at e1
      have e2 : (ndD h :: fr.map ndD)[j]? = some (ndD (ns.getD ii (false, ""))) := by rw [show ndD h :: fr.map ndD = (h :: fr).map ndD from rfl, List.getElem?_map, e1]; rfl
      rw [hd] at e2
      rw [List.getElem?_map, List.getElem?_eq_getElem iil] at hdd
      rw [List.getD_eq_getElem?_getD, List.getElem?_eq_getElem iil] at e2
      cases hdd
      rw [Option.some.inj e2]
      exact g
    refine ⟨F, os, y, rfl, rfl, mF3.at_, by omega, ?_⟩
    have lp := List.length_pos_of_mem hl
    refine ⟨Bn, e03.setH mF3 hF, sc.trans e2.bb, found ++ [h], left.erase h, os ++ [y], _, _, _, _, _, rfl, sBn, mF3.set, ?_, ?_, ?_, ?_, left_erase ndn el hl, ?_⟩
    · rw [List.map_append]
      exact dpAll_app hos (.cons dy .nil)
    · intro z hz
      rcases List.mem_append.mp hz with g | g
      · exact fsub z g
      · rw [List.mem_singleton.mp g]; exact hn
    · rw [List.length_append, fl]; rfl
    · rw [List.length_erase_of_mem hl]; omega
    · rw [← tp, List.append_assoc]
      congr 1
      obtain ⟨n, en⟩ : ∃ n, left.length = n + 1 := ⟨left.length - 1, by omega⟩
      rw [List.length_erase_of_mem hl, en, Nat.add_sub_cancel, topo_succ ehf]
      rfl
  · rintro σ' B1 H1 e2 sB ⟨found, left, os, v3, v4, v5, v6, v7, rfl, sb, mF, hos, fsub, fl, ll, el, tp⟩
    rw [List.length_map, List.length_range] at fl ll
    have : left = [] := List.eq_nil_of_length_eq_zero (by omega)
    subst this
    have tp : found ++ [] = topo as ns.length ns := tp
    rw [List.append_nil] at tp
    have e3 := e2.settleH mF hF (none_of hB hF)
    have hd : dat K (.list (found.map ndD)) (upd B1 F (.lst os)) (.ref F) := .lst (SqL.of upd_same) (dpMonoAll (new_same mF.no) _ _ hos)
    rw [tp] at hd
    exact s_ret (De.tupleL (.var hd rfl)) e3.bh fun v B' H' e h => k v B' H' (e3.trans e) h
end
end K10

set_option Elab.async false
set_option linter.all false
set_option maxRecDepth 100000
set_option maxHeartbeats 4000000
/-! We8: ints or bools added, taken away, doubled; two rules at once; drawn slices. -/
namespace Wv
open PySem PySem.Spec PyProof.Rows L2 Wb
theorem opOr {X : Cx} {f : Value → Value → Sem Value} {r1 r2 : R2} (h1 : OpR X f r1) (h2 : OpR X f r2) : OpR X f (fun x y H Q => r1 x y H Q ∨ r2 x y H Q) := by
  intro pins s σ H x y v u Q I rx ry h
  rcases h with h | h
  · exact h1 pins s σ H x y v u Q I rx ry h
  · exact h2 pins s σ H x y v u Q I rx ry h
def numV (x : V) (i : Int) : Prop := x = .int i ∨ ∃ b : Bool, x = .bl b ∧ i = if b = true then 1 else 0
abbrev rAddBI : R2 := fun x y H Q => ∃ i j, numV x i ∧ y = .int j ∧ Q (.int (i + j)) H
abbrev rSubBI : R2 := fun x y H Q => ∃ i j, numV x i ∧ y = .int j ∧ Q (.int (i - j)) H
abbrev rSubIB : R2 := fun x y H Q => ∃ i j, x = .int i ∧ numV y j ∧ Q (.int (i - j)) H
abbrev rMulIB : R2 := fun x y H Q => ∃ i j, x = .int i ∧ numV y j ∧ CMul i j ∧ Q (.int (i * j)) H
section
variable {X : Cx}
theorem op_addBI : OpR X (binaryOp .Add) rAddBI := by
  intro pins s σ H x y v u Q I rx ry h
  obtain ⟨i, j, rfl | ⟨b, rfl, rfl⟩, rfl, q⟩ := h
  · exact op_add pins s σ H _ _ v u Q I rx ry ⟨i, j, rfl, rfl, q⟩
  · obtain ⟨t, rfl⟩ := ry
    cases (show v = Value.bool b from rx)
    exact IntBool.add_bool_int ⟨.int _, H, I.tok _, ⟨_, rfl⟩, q⟩
theorem op_subBI : OpR X (binaryOp .Sub) rSubBI := by
  intro pins s σ H x y v u Q I rx ry h
  obtain ⟨i, j, rfl | ⟨b, rfl, rfl⟩, rfl, q⟩ := h
  · exact op_sub pins s σ H _ _ v u Q I rx ry ⟨i, j, rfl, rfl, q⟩
  · obtain ⟨t, rfl⟩ := ry
    cases (show v = Value.bool b from rx)
    exact IntBool.sub_bool_int ⟨.int _, H, I.tok _, ⟨_, rfl⟩, q⟩
theorem op_subIB : OpR X (binaryOp .Sub) rSubIB := by
  intro pins s σ H x y v u Q I rx ry h
  obtain ⟨i, j, rfl, rfl | ⟨b, rfl, rfl⟩, q⟩ := h
  · exact op_sub pins s σ H _ _ v u Q I rx ry ⟨i, j, rfl, rfl, q⟩
  · obtain ⟨t, rfl⟩ := rx
    cases (show u = Value.bool b from ry)
    exact IntBool.sub_int_bool ⟨.int _, H, I.tok _, ⟨_, rfl⟩, q⟩
theorem op_mulIB : OpR X (binaryOp .Mult) rMulIB := by
  intro pins s σ H x y v u Q I rx ry h
  obtain ⟨i, j, rfl, rfl | ⟨b, rfl, rfl⟩, hc, q⟩ := h
  · exact op_mul pins s σ H _ _ v u Q I rx ry ⟨i, j, rfl, rfl, hc, q⟩
  · obtain ⟨t, rfl⟩ := rx
    cases (show u = Value.bool b from ry)
    exact IntBool.mul_int_bool ⟨.int _, H, I.tok _, ⟨_, rfl⟩, q⟩
end
def numOf (d : PyData) : Int := match d with
  | .int i => i
  | .bool b => if b = true then 1 else 0
  | _ => 0
section
variable {K : PySem.W.Frag} {σ : L2.St} {d c : Addr} {B H : Hp} {te ta tb tl : TE} {tt : TT} {S : Rel} {x : PyData} {j : Int}
theorem num_dat {v : V} (h : isD "int" x = true) (hv : dat K x B v) : numV v (numOf x) := by
  cases x with
  | int i => cases hv; exact .inl rfl
  | bool b => cases hv; exact .inr ⟨b, rfl, rfl⟩
  | _ => cases h
theorem Rv.addBI (h : isD "int" x = true) : Rv rAddBI B (dat K x) (dat K (.int j)) (dat K (.int (numOf x + j))) := fun u v B1 H _ s2 hx hy Q q =>
  ⟨_, j, num_dat h hx, dat_int hy, q _ B1 H (.refl s2) (.int _)⟩
theorem Rv.subBI (h : isD "int" x = true) : Rv rSubBI B (dat K x) (dat K (.int j)) (dat K (.int (numOf x - j))) := fun u v B1 H _ s2 hx hy Q q =>
  ⟨_, j, num_dat h hx, dat_int hy, q _ B1 H (.refl s2) (.int _)⟩
theorem Rv.subIB (h : isD "int" x = true) : Rv rSubIB B (dat K (.int j)) (dat K x) (dat K (.int (j - numOf x))) := fun u v B1 H _ s2 hx hy Q q =>
  ⟨j, _, dat_int hx, num_dat h hy, q _ B1 H (.refl s2) (.int _)⟩
theorem Rv.mulIB (h : isD "int" x = true) (hc : CMul j (numOf x)) : Rv rMulIB B (dat K (.int j)) (dat K x) (dat K (.int (j * numOf x))) := fun u v B1 H _ s2 hx hy Q q =>
  ⟨j, _, dat_int hx, num_dat h hy, hc, q _ B1 H (.refl s2) (.int _)⟩
theorem Dw.iteB {b : Bool} (h : Dt tt σ B b) (h1 : b = true → Dw ta σ d c B S) (h2 : b = false → Dw tb σ d c B S) : Dw (tIf tt ta tb) σ d c B S := fun B1 H s L Q q =>
  h B1 H s L.bh _ fun B2 H2 e => by
    have eL := ExtD.of L e
    cases b with
    | true => exact (h1 rfl) B2 H2 (s.trans e.bb) eL.dl Q fun v B3 H3 e3 hv => q v B3 H3 (eL.trans L e3) hv
    | false => exact (h2 rfl) B2 H2 (s.trans e.bb) eL.dl Q fun v B3 H3 e3 hv => q v B3 H3 (eL.trans L e3) hv
theorem slL_raw {ds : List PyData} {lo hi : Option Int} {v : V} {B1 H : Hp} (s2 : Same B1 H) (hx : dat K (.list ds) B1 v) {Q : VK} (q : ∀ u B' H', Ext B1 H B' H' → dat K (.list (cutA ds lo hi)) B' u → Q u H') : rSlL K v lo hi H Q := by
  obtain ⟨a, xs, rfl, hs, hR⟩ := dat_lstR hx
  refine ⟨a, xs, rfl, s2.seq hs, fun p hp => q _ (upd B1 p (.lst (cutV xs lo hi))) _ (.new s2 hp) ?_⟩
  have g := allR_dp hR
  have len : xs.length = ds.length := dpAll_len g
  refine .lst (SqL.of upd_same) (dpMonoAll (new_same (s2.free hp)) _ _ ?_)
  unfold cutV cutA
  rw [len]
  exact dpAll_take _ (dpAll_drop _ g)
/-- [.. ][:n], n drawn -/
theorem Dw.slTo {P : List PyData → Prop} {N : Int → Prop} (h : Dw te σ d c B (datP K (listOf P))) (hb : Dw tb σ d c B (intP N)) : Dw (L2.tSl (rSlL K) te tNoPart (tPart tb)) σ d c B (datP K (listOf fun ds => ∃ es n, P es ∧ N n ∧ ds = cutA es none (some n))) := fun B1 H s L Q q =>
  h B1 H s L _ fun v B2 H2 e ⟨x, ⟨ds, hx, hp⟩, hv⟩ => by
    subst hx
    refine hb B2 H2 (s.trans e.bb) e.dl _ fun u B3 H3 e3 ⟨n, hn, hu⟩ => ⟨n, hu, ?_⟩
    exact slL_raw e3.bh (Mo.mo (R := dat K (.list ds)) e3.bb hv) fun w B4 H4 e4 h4 => q w B4 H4 ((e.trans L e3).trans L (.of e3.dl e4)) ⟨_, ⟨_, rfl, ds, n, hp, hn, rfl⟩, h4⟩
theorem Dw.lcD {α : Type} {as : List α} {r : α → Rel} {wi : TI} {g : TG} {vs : List Nat} (hi : Di wi σ B (as.map r)) (few : as.length < sizeLine) (Pv : Nat → List PyData → Prop) (h0 : Pv 0 [])
    (hs : ∀ i a v B1 H1 out, as[i]? = some a → Dl B1 H1 d c → Same B B1 → r a B1 v → Pv i out → ∀ (Y : V → Hp → Prop) (N : Hp → Prop), (∀ y B4 H4 x, ExtD d c B1 H1 B4 H4 → dat K x B4 y → Pv (i + 1) (out ++ [x]) → Y y H4) → (∀ B4 H4, ExtD d c B1 H1 B4 H4 → Pv (i + 1) out → N H4) →
      g v (wipe σ vs) H1 fun σ2 H2 => wipe σ2 vs = wipe σ vs ∧ tt σ2 H2 fun b H3 => if b = true then te σ2 H3 Y else N H3) : Dw (tLc wi g tt te vs) σ d c B (datP K (listOf (Pv as.length))) := fun B1 H s L Q q =>
  c_lcD L (hi.mono s) few Pv h0 (fun i a v B2 H2 out ha L2 s2 hv hp Y N hY hN => hs i a v B2 H2 out ha L2 (s.trans s2) hv hp Y N hY hN) fun out v B' H' e hp hv => q v B' H' e ⟨_, ⟨out, rfl, hp⟩, hv⟩
/-- [x], (x,), x drawn -/
theorem Dw.tup1L {P : PyData → Prop} (h : Dw te σ d c B (datP K P)) : Dw (tLst (tCons te tNil)) σ d c B (datP K (listOf fun ds => ∃ x, P x ∧ ds = [x])) := fun B1 H s L Q q =>
  h B1 H s L _ fun v B2 H2 e ⟨x, hp, hv⟩ => ⟨by show 1 ≤ sizeLine; decide, fun p hp2 => q _ (upd B2 p (.lst [v])) _ (e.trans L (.of e.dl (.new e.bh hp2))) ⟨_, ⟨[x], rfl, x, hp, rfl⟩, .lst (SqL.of upd_same) (.cons (dpMono (new_same (e.bh.free hp2)) _ _ hv) .nil)⟩⟩
theorem Dw.tup1 {P : PyData → Prop} (h : Dw te σ d c B (datP K P)) : Dw (tTup (tCons te tNil)) σ d c B (datP K (tupOf fun ds => ∃ x, P x ∧ ds = [x])) := fun B1 H s L Q q =>
  h B1 H s L _ fun v B2 H2 e ⟨x, hp, hv⟩ => ⟨by show 1 ≤ sizeLine; decide, fun p hp2 => q _ (upd B2 p (.tup [v])) _ (e.trans L (.of e.dl (.new e.bh hp2))) ⟨_, ⟨[x], rfl, x, hp, rfl⟩, .tup (SqT.of upd_same) (.cons (dpMono (new_same (e.bh.free hp2)) _ _ hv) .nil)⟩⟩
theorem Rv.catTP {P P' : List PyData → Prop} (hz : ∀ a b, P a → P' b → a.length + b.length ≤ sizeLine) : Rv (rCatA K) B (datP K (tupOf P)) (datP K (tupOf P')) (datP K (tupOf fun ds => ∃ a b, P a ∧ P' b ∧ ds = a ++ b)) := fun u v B1 H s1 s2 ⟨x, ⟨a, hx, ha⟩, hu⟩ ⟨y, ⟨b, hy, hb⟩, hv⟩ Q q => by
  subst hx hy
  exact Rv.catT (K := K) (hz a b ha hb) u v B1 H s1 s2 hu hv Q fun w B' H' e hw => q w B' H' e ⟨_, ⟨_, rfl, a, b, ha, hb, rfl⟩, hw⟩
theorem Rv.catLP {P P' : List PyData → Prop} (hz : ∀ a b, P a → P' b → a.length + b.length ≤ sizeLine) : Rv (rCatS K) B (datP K (listOf P)) (datP K (listOf P')) (datP K (listOf fun ds => ∃ a b, P a ∧ P' b ∧ ds = a ++ b)) := fun u v B1 H s1 s2 ⟨x, ⟨a, hx, ha⟩, hu⟩ ⟨y, ⟨b, hy, hb⟩, hv⟩ Q q => by
  subst hx hy
  exact Rv.catS (K := K) (hz a b ha hb) u v B1 H s1 s2 hu hv Q fun w B' H' e hw => q w B' H' e ⟨_, ⟨_, rfl, a, b, ha, hb, rfl⟩, hw⟩
end
end Wv

set_option Elab.async false
set_option linter.all false
set_option maxRecDepth 100000
set_option maxHeartbeats 4000000
/-! K10p: the law itself. -/
namespace K10
open PySem PySem.Spec PyProof.Rows L2 Wb Wv Fm Fq Sb St Ch
theorem kw_parents_01 : Kw "parents" s_parents ["chart", "node"] ["chart", "node"] [0, 1] := ⟨rfl, fun _ _ _ _ _ _ _ ws hl => match ws, hl with | [_, _], _ => .of_eq rfl⟩
theorem kw_children_01 : Kw "children" s_children ["chart", "node"] ["chart", "node"] [0, 1] := ⟨rfl, fun _ _ _ _ _ _ _ ws hl => match ws, hl with | [_, _], _ => .of_eq rfl⟩
theorem kw_partners_01 : Kw "partners" s_partners ["chart", "node"] ["chart", "node"] [0, 1] := ⟨rfl, fun _ _ _ _ _ _ _ ws hl => match ws, hl with | [_, _], _ => .of_eq rfl⟩
theorem kw_ledFrom_01 : Kw "led_from" s_ledFrom ["chart", "nodes"] ["chart", "nodes"] [0, 1] := ⟨rfl, fun _ _ _ _ _ _ _ ws hl => match ws, hl with | [_, _], _ => .of_eq rfl⟩
theorem kw_ledTo_01 : Kw "led_to" s_ledTo ["chart", "nodes"] ["chart", "nodes"] [0, 1] := ⟨rfl, fun _ _ _ _ _ _ _ ws hl => match ws, hl with | [_, _], _ => .of_eq rfl⟩
theorem kw_orderOf : Kw "order_of" s_orderOf ["chart"] ["chart"] [0] := ⟨rfl, fun _ _ _ _ _ _ _ ws hl => match ws, hl with | [_], _ => .of_eq rfl⟩
section
variable {P : Program} {w : World} {K : PySem.W.Frag} {mg : Str → Option Value} {base : Heap} {C_Form C_Chart : Addr}
theorem sc_law : FnScope ["script", "deal", "turn", "questions", "arrows", "bows", "chart", "nodes", "node", "start", "end", "ends", "bow", "back", "step", "some", "pick"] ["script"] (defScope s_law) := ⟨rfl, rfl, rfl, by decide +kernel, rfl, by decide +kernel, by decide +kernel⟩
theorem ok_law (D : Def K mg "law" s_law ["script"]) (C_deal : Cal P w K mg base CX0 1 "_law_deal" s_deal ["script", "base"] (spDeal K)) (n_range : mg "range" = none) (C_lquestions : Cal P w K mg base CX0 4 "_law_questions" s_lquestions ["deal", "most"] (sp_lquestions K)) (C_llines : Cal P w K mg base CX0 2 "_law_lines" s_llines ["deal", "questions", "arrows", "bows"] (sp_llines K)) (K_Chart : CalC P w K mg base "Chart" C_Chart ["form", "arrows", "bows"]) (K_Form : CalC P w K mg base "Form" C_Form ["questions"]) (C_lnodes : Cal P w K mg base CX0 1 "_law_nodes" s_lnodes ["questions"] (sp_lnodes K)) (C_parents : Cal P w K mg base CX0 1 "parents" s_parents ["chart", "node"] (sp_parents K C_Form C_Chart)) (n_repr : mg "repr" = none) (n_tuple : mg "tuple" = none) (C_children : Cal P w K mg base CX0 1 "children" s_children ["chart", "node"] (sp_children K C_Form C_Chart)) (C_partners : Cal P w K mg base CX0 2 "partners" s_partners ["chart", "node"] (sp_partners K C_Form C_Chart)) (n_sorted : mg "sorted" = none) (C_any : Cal P w K mg base CX0 1 "_law_any" s_any ["deal", "bound"] spAny) (C_of : Cal P w K mg base CX0 2 "_law_of" s_of ["deal", "some"] (spOf K)) (C_ledFrom : Cal P w K mg base CX0 2 "led_from" s_ledFrom ["chart", "nodes"] (sp_ledFrom K C_Form C_Chart)) (C_lled : Cal P w K mg base CX0 1 "_law_led" s_lled ["arrows", "nodes"] (sp_lled K)) (C_ledTo : Cal P w K mg base CX0 2 "led_to" s_ledTo ["chart", "nodes"] (sp_ledTo K C_Form C_Chart)) (C_orderOf : Cal P w K mg base CX0 4 "order_of" s_orderOf ["chart"] (sp_orderOf K C_Form C_Chart)) (C_lorder : Cal P w K mg base CX0 1 "_law_order" s_lorder ["nodes", "arrows"] (sp_lorder K)) : CalG P w K mg base CX0 5 "law" s_law ["script"] (Wb.spLaw K) := by
  refine D.okG sc_law (fun vs H Q E h => ?_) (fun cdv f A outer s H vs Q E gd hr h => ?_)
  · obtain ⟨a, ns, rfl, _⟩ := h
    rfl
  obtain ⟨a, ns, rfl, hs, few, k⟩ := h
  refine ⟨_, (pss_cons (ps_set (i := 1) sc_law.nd rfl (Or.inr rfl) (pe_cal C_deal (hr.mono (by decide)) (by rfl) pass0 (pa_cons (pv 0) (pa_cons pe_int pa_nil))))
    (pss_cons (ps_for PassesOwn.leaving rfl (pi_range1 rfl n_range (pa_cons pe_int pa_nil)) (pg_name (i := 2) sc_law.nd rfl (Or.inl rfl)) (pss_cons (ps_set (i := 3) sc_law.nd rfl (Or.inl rfl) (pe_cal C_lquestions (hr.mono (by decide)) (by rfl) pass0 (pa_cons (pv 1) (pa_cons pe_int pa_nil))))
      (pss_cons (ps_asg (pe_cal C_llines (hr.mono (by decide)) (by rfl) pass0 (pa_cons (pv 1) (pa_cons (pv 3) (pa_cons pe_int (pa_cons pe_int pa_nil))))) (pg_tup rfl (pgs_cons (pg_name (i := 4) sc_law.nd rfl (Or.inl rfl)) (pgs_cons (pg_name (i := 5) sc_law.nd rfl (Or.inl rfl)) pgs_nil))))
      (pss_cons (ps_asg (pe_tup (pa_cons (pe_calC K_Chart hr (by decide) (by rfl) (pa_cons (pe_calC K_Form hr (by decide) (by rfl) (pa_cons (pv 3) pa_nil)) (pa_cons (pv 4) (pa_cons (pv 5) pa_nil)))) (pa_cons (pe_cal C_lnodes (hr.mono (by decide)) (by rfl) pass0 (pa_cons (pv 3) pa_nil)) pa_nil))) (pg_tup rfl (pgs_cons (pg_name (i := 6) sc_law.nd rfl (Or.inl rfl)) (pgs_cons (pg_name (i := 7) sc_law.nd rfl (Or.inr rfl)) pgs_nil))))
      (pss_cons (ps_for PassesOwn.leaving rfl (pi_list (pv 7)) (pg_name (i := 8) sc_law.nd rfl (Or.inr rfl)) (pss_cons (ps_if (pt_cmpR op_ne (pe_callB (call_show gd hr.units) (by rfl) n_repr (by decide +kernel) (pa_cons (pe_calK C_parents (hr.mono (by decide)) (by rfl) pass0 kw_parents_01 (pk_cons (pv 6) (pk_cons (pv 8) pk_nil))) pa_nil)) (pe_callB (call_show gd hr.units) (by rfl) n_repr (by decide +kernel) (pa_cons (pe_callTy call_tuple_of (by rfl) n_tuple (by decide +kernel) (pa_cons (pe_lc (own := [("start", 9), ("end", 10)]) (g := gTup K 2 (gCons (gName 9) (gCons (gName 10) gNil))) rfl sc_law.nd (pi_tup (pv 4)) (blkOk_by (own := [("start", 9), ("end", 10)]) (N := ["script", "deal", "turn", "questions", "arrows", "bows", "chart", "nodes", "node", "start", "end", "ends", "bow", "back", "step", "some", "pick"]) (sc := defScope s_law) (by decide +kernel)) (fun _ _ _ _ _ => (pg_tup rfl (pgs_cons (pg_name (i := 9) sc_law.nd rfl (Or.inl rfl)) (pgs_cons (pg_name (i := 10) sc_law.nd rfl (Or.inl rfl)) pgs_nil)))) (fun _ _ _ _ _ => pts_one (pt_cmpR (r := rEqD K) (op_eqD hr.units) (pv 10) (pv 8) (nomark _))) (fun _ _ _ _ _ => (pv 9))) pa_nil)) pa_nil)) (nomark _)) (pss_one (ps_ret pe_bl)) pss_nil)
        (pss_cons (ps_if (pt_cmpR op_ne (pe_callB (call_show gd hr.units) (by rfl) n_repr (by decide +kernel) (pa_cons (pe_calK C_children (hr.mono (by decide)) (by rfl) pass0 kw_children_01 (pk_cons (pv 6) (pk_cons (pv 8) pk_nil))) pa_nil)) (pe_callB (call_show gd hr.units) (by rfl) n_repr (by decide +kernel) (pa_cons (pe_callTy call_tuple_of (by rfl) n_tuple (by decide +kernel) (pa_cons (pe_lc (own := [("start", 9), ("end", 10)]) (g := gTup K 2 (gCons (gName 9) (gCons (gName 10) gNil))) rfl sc_law.nd (pi_tup (pv 4)) (blkOk_by (own := [("start", 9), ("end", 10)]) (N := ["script", "deal", "turn", "questions", "arrows", "bows", "chart", "nodes", "node", "start", "end", "ends", "bow", "back", "step", "some", "pick"]) (sc := defScope s_law) (by decide +kernel)) (fun _ _ _ _ _ => (pg_tup rfl (pgs_cons (pg_name (i := 9) sc_law.nd rfl (Or.inl rfl)) (pgs_cons (pg_name (i := 10) sc_law.nd rfl (Or.inl rfl)) pgs_nil)))) (fun _ _ _ _ _ => pts_one (pt_cmpR (r := rEqD K) (op_eqD hr.units) (pv 9) (pv 8) (nomark _))) (fun _ _ _ _ _ => (pv 10))) pa_nil)) pa_nil)) (nomark _)) (pss_one (ps_ret pe_bl)) pss_nil)
        (pss_cons (ps_setLc (i := 11) (own := [("bow", 12)]) (g := gName 12) rfl sc_law.nd rfl rfl (sw_true rfl rfl rfl (by decide +kernel)) (pi_tup (pv 5)) (blkOk_by (own := [("bow", 12)]) (N := ["script", "deal", "turn", "questions", "arrows", "bows", "chart", "nodes", "node", "start", "end", "ends", "bow", "back", "step", "some", "pick"]) (sc := defScope s_law) (by decide +kernel)) (fun _ _ _ _ _ => (pg_name (i := 12) sc_law.nd rfl (Or.inl rfl))) (fun _ _ _ _ _ => pts_one (pt_cmpR (r := rInT K false) (op_inT hr.u65) (pv 8) (pv 12) rfl)) (fun _ _ _ _ _ => (pe_ifExp (pt_cmpR (r := rEqD K) (op_eqD hr.units) (pe_ix (r := rIxT K) ix_tup (pv 12) pe_int (fun _ _ => rfl)) (pv 8) (nomark _)) (pe_ix (r := rIxT K) ix_tup (pv 12) pe_int (fun _ _ => rfl)) (pe_ix (r := rIxT K) ix_tup (pv 12) pe_int (fun _ _ => rfl)))))
        (pss_one (ps_if (pt_cmpR op_ne (pe_callB (call_show gd hr.units) (by rfl) n_repr (by decide +kernel) (pa_cons (pe_calK C_partners (hr.mono (by decide)) (by rfl) pass0 kw_partners_01 (pk_cons (pv 6) (pk_cons (pv 8) pk_nil))) pa_nil)) (pe_callB (call_show gd hr.units) (by rfl) n_repr (by decide +kernel) (pa_cons (pe_callTy call_tuple_of (by rfl) n_tuple (by decide +kernel) (pa_cons (pe_callB (cr_sortedD hr.units) (by rfl) n_sorted (by decide +kernel) (pa_cons (pv 11) pa_nil)) pa_nil)) pa_nil)) (nomark _)) (pss_one (ps_ret pe_bl)) pss_nil))))))
      (pss_cons (ps_set (i := 13) sc_law.nd rfl (Or.inl rfl) (pe_callTy call_tuple_of (by rfl) n_tuple (by decide +kernel) (pa_cons (pe_lc (own := [("start", 9), ("end", 10)]) (g := gTup K 2 (gCons (gName 9) (gCons (gName 10) gNil))) (tt := tYes) rfl sc_law.nd (pi_tup (pv 4)) (blkOk_by (own := [("start", 9), ("end", 10)]) (N := ["script", "deal", "turn", "questions", "arrows", "bows", "chart", "nodes", "node", "start", "end", "ends", "bow", "back", "step", "some", "pick"]) (sc := defScope s_law) (by decide +kernel)) (fun _ _ _ _ _ => (pg_tup rfl (pgs_cons (pg_name (i := 9) sc_law.nd rfl (Or.inl rfl)) (pgs_cons (pg_name (i := 10) sc_law.nd rfl (Or.inl rfl)) pgs_nil)))) (fun _ _ _ _ _ => pts_nil) (fun _ _ _ _ _ => (pe_tup (pa_cons (pv 10) (pa_cons (pv 9) pa_nil))))) pa_nil)))
      (pss_cons (ps_for PassesOwn.leaving rfl (pi_range1 rfl n_range (pa_cons pe_int pa_nil)) (pg_name (i := 14) sc_law.nd rfl (Or.inl rfl)) (pss_cons (ps_setLc (i := 15) (own := [("pick", 16)]) (g := gName 16) (tt := tYes) rfl sc_law.nd rfl rfl (sw_true rfl rfl rfl (by decide +kernel)) (pi_range1 rfl n_range (pa_cons (pe_cal C_any (hr.mono (by decide)) (by rfl) pass0 (pa_cons (pv 1) (pa_cons pe_int pa_nil))) pa_nil)) (blkOk_by (own := [("pick", 16)]) (N := ["script", "deal", "turn", "questions", "arrows", "bows", "chart", "nodes", "node", "start", "end", "ends", "bow", "back", "step", "some", "pick"]) (sc := defScope s_law) (by decide +kernel)) (fun _ _ _ _ _ => (pg_name (i := 16) sc_law.nd rfl (Or.inl rfl))) (fun _ _ _ _ _ => pts_nil) (fun _ _ _ _ _ => (pe_cal C_of (hr.mono (by decide)) (by rfl) pass0 (pa_cons (pv 1) (pa_cons (pv 7) pa_nil)))))
        (pss_cons (ps_if (PW.pt (pw_or (pt_cmpR op_ne (pe_callB (call_show gd hr.units) (by rfl) n_repr (by decide +kernel) (pa_cons (pe_calK C_ledFrom (hr.mono (by decide)) (by rfl) pass0 kw_ledFrom_01 (pk_cons (pv 6) (pk_cons (pv 15) pk_nil))) pa_nil)) (pe_callB (call_show gd hr.units) (by rfl) n_repr (by decide +kernel) (pa_cons (pe_callTy call_tuple_of (by rfl) n_tuple (by decide +kernel) (pa_cons (pe_cal C_lled (hr.mono (by decide)) (by rfl) pass0 (pa_cons (pv 4) (pa_cons (pv 15) pa_nil))) pa_nil)) pa_nil)) (nomark _)) (pw_or1 (pt_cmpR (op_neD hr.units) (pe_cal C_ledFrom (hr.mono (by decide)) (by rfl) pass0 (pa_cons (pv 6) (pa_cons (pe_callTy call_tuple_of (by rfl) n_tuple (by decide +kernel) (pa_cons (pv 15) pa_nil)) pa_nil))) (pe_cal C_ledFrom (hr.mono (by decide)) (by rfl) pass0 (pa_cons (pv 6) (pa_cons (pv 15) pa_nil))) (nomark _))))) (pss_one (ps_ret pe_bl)) pss_nil)
        (pss_one (ps_if (pt_cmpR op_ne (pe_callB (call_show gd hr.units) (by rfl) n_repr (by decide +kernel) (pa_cons (pe_calK C_ledTo (hr.mono (by decide)) (by rfl) pass0 kw_ledTo_01 (pk_cons (pv 6) (pk_cons (pe_callTy call_tuple_of (by rfl) n_tuple (by decide +kernel) (pa_cons (pv 15) pa_nil)) pk_nil))) pa_nil)) (pe_callB (call_show gd hr.units) (by rfl) n_repr (by decide +kernel) (pa_cons (pe_callTy call_tuple_of (by rfl) n_tuple (by decide +kernel) (pa_cons (pe_cal C_lled (hr.mono (by decide)) (by rfl) pass0 (pa_cons (pv 13) (pa_cons (pv 15) pa_nil))) pa_nil)) pa_nil)) (nomark _)) (pss_one (ps_ret pe_bl)) pss_nil)))))
      (pss_one (ps_if (pt_cmpR op_ne (pe_callB (call_show gd hr.units) (by rfl) n_repr (by decide +kernel) (pa_cons (pe_calK C_orderOf (hr.mono (by decide)) (by rfl) pass0 kw_orderOf (pk_cons (pv 6) pk_nil)) pa_nil)) (pe_callB (call_show gd hr.units) (by rfl) n_repr (by decide +kernel) (pa_cons (pe_cal C_lorder (hr.mono (by decide)) (by rfl) pass0 (pa_cons (pv 7) (pa_cons (pv 4) pa_nil))) pa_nil)) (nomark _)) (pss_one (ps_ret pe_bl)) pss_nil)))))))))
    (pss_one (ps_ret pe_bl)))), ?_⟩
  have line := sizeLine_eq
  refine ⟨_, rfl, a, ns, 10, rfl, hs, few, by decide, by decide, fun d c H1 _ _ D1 _ => ?_⟩
  clear hs few
  have L : Dl (off H1 d c) H1 d c := ⟨D1, Same.refl _⟩
  generalize off H1 d c = B1 at L
  refine s_forD L (.refl L) (Di.rng (K := K) (n := 3) .int (by decide)) (fun i σ B H => ∃ v2 v3 v4 v5 v6 v7 v8 v9 v10 v11 v12 v13 v14 v15 v16, σ = [some (.ref a), some (.ref d), v2, v3, v4, v5, v6, v7, v8, v9, v10, v11, v12, v13, v14, v15, v16]) (fun B H e => ⟨_, _, _, _, _, _, _, _, _, _, _, _, _, _, _, rfl⟩) ?_ ?_
  · rintro B2 i R x σ' Bc Hc Bn Hn s2 hR eB sB ⟨v2, v3, v4, v5, v6, v7, v8, v9, v10, v11, v12, v13, v14, v15, v16, rfl⟩ eN hx
    have eD := eB.trans L eN
    clear hx
    refine s_w eD.dl (Dw.def1 (args := fun n : Nat => [dat K (.int (n : Int))]) (res := fun n => datP K (QsP n)) 5 rfl (.one .int) ⟨by decide, by decide⟩) fun u3 B3 H3 e3 h3 => ?_
    obtain ⟨_, ⟨qs, rfl, fm, q1, q5, _⟩, h3⟩ := h3
    have eD3 := eD.trans L e3
    refine s_unW (K := K) eD3.dl (Dw.def1 (args := fun a : Qs × Nat × Nat => [dat K (qsD a.1), dat K (.int (a.2.1 : Int)), dat K (.int (a.2.2 : Int))]) (res := fun a => datP K (LnP (names a.1) a.2.1 a.2.2)) (qs, 10, 4) rfl (.cons (.var h3 rfl) (.cons .int (.one .int))) ⟨fm, q1, show (10 : Nat) ≤ 20 by decide, show (4 : Nat) ≤ 20 by decide⟩) fun u4 B4 H4 e4 h4 => ?_
    obtain ⟨_, ⟨as, bs, rfl, ln, fa, fb⟩, h4⟩ := h4
    have fa : as.length ≤ 10 := fa
    have fb : bs.length ≤ 4 := fb
    have eD4 := eD3.trans L e4
    have h3 := Mo.mo e4.bb h3
    obtain ⟨u4, u5, h4, h5, go⟩ := gTup2 e4.bh (dat_pair h4)
    refine go _ ?_
    have n16 := fm.nlen
    have nmn : ∀ x ∈ nodesL (names qs), Nm x.2 := fun x hx => fm.nd hx
    have nas : ∀ a ∈ as, Nm a.1.2 ∧ Nm a.2.2 := fun a ha => ⟨nmn _ (ln.amem a ha).1, nmn _ (ln.amem a ha).2⟩
    have nbs : ∀ a ∈ bs, Nm a.1.2 ∧ Nm a.2.2 := fun a ha => ⟨nmn _ (ln.bmem a ha).1, nmn _ (ln.bmem a ha).2⟩
    have bne : ∀ b ∈ bs, b.1 ≠ b.2 := fun b hb => ndKd.ne_of_lt (ln.blt b hb)
    have reA : ∀ st : List Ch.Nd, (∀ x ∈ st, x ∈ nodesL (names qs)) → st.length ≤ 60 → ReOk st as := fun st hs l => ⟨fun s h => nmn s (hs s h), nas, l, by omega⟩
    have reB : ∀ st : List Ch.Nd, (∀ x ∈ st, x ∈ nodesL (names qs)) → st.length ≤ 60 → ReOk st bs := fun st hs l => ⟨fun s h => nmn s (hs s h), nbs, l, by omega⟩
    change tSeq _ _ _ [some (.ref a), some (.ref d), some x, some u3, some u4, some u5, v6, v7, v8, v9, v10, v11, v12, v13, v14, v15, v16] H4
    refine s_un2 (R := chartR K C_Form C_Chart (qs, as, bs)) (S := dat K (.list ((nodesL (names qs)).map ndD))) (De.tup (.cons (De.make (fs := ["form", "arrows", "bows"]) (Rs := [formR K C_Form qs, dat K (.tuple (as.map arD)), dat K (.tuple (bs.map arD))]) (.cons (De.make (fs := ["questions"]) (Rs := [dat K (qsD qs)]) (.cons (.var h3 rfl) .nil) (by rfl)) (.cons (.var h4 rfl) (.cons (.var h5 rfl) .nil))) (by rfl)) (.cons (De.call (args := fun qs : Qs => [dat K (qsD qs)]) (res := fun qs => dat K (.list ((nodesL (names qs)).map ndD))) qs (.one (.var h3 rfl)) (show qs.length ≤ 8 by omega)) .nil)) (by rw [line]; show 2 ≤ _; decide)) eD4.bh fun u6 u7 B5 H5 e5 h6 h7 => ?_
    have eD5 := eD4.trans L (.of eD4.dl e5)
    have h4 := Mo.mo e5.bb h4
    have h5 := Mo.mo e5.bb h5
    have sC : Same B2 B5 := (((sB.trans eN.bb).trans e3.bb).trans e4.bb).trans e5.bb
    change tSeq _ _ _ [some (.ref a), some (.ref d), some x, some u3, some u4, some u5, some u6, some u7, v8, v9, v10, v11, v12, v13, v14, v15, v16] H5
    refine s_forD L eD5 (Di.listM (K := K) (as := nodesL (names qs)) (f := ndD) (.var h7 rfl)) (fun i σ B H => ∃ v8 v9 v10 v11 v12, σ = [some (.ref a), some (.ref d), some x, some u3, some u4, some u5, some u6, some u7, v8, v9, v10, v11, v12, v13, v14, v15, v16]) (fun B H e => ⟨_, _, _, _, _, rfl⟩) ?_ ?_
    · rintro B6 j R' y σ' Bp Ho Bq Hq s6 hR' eP sP ⟨v8, v9, v10, v11, v12, rfl⟩ eQ hy
      rw [List.getElem?_map] at hR'
      obtain ⟨n, hn, rfl⟩ := Option.map_eq_some_iff.mp hR'
      have mn := List.mem_of_getElem? hn
      have n1 : ∀ z ∈ [n], z ∈ nodesL (names qs) := fun z hz => by rw [List.mem_singleton.mp hz]; exact mn
      have okA : ReOk [n] as := reA [n] n1 (by show 1 ≤ 60; decide)
      have okB : ReOk [n] bs := reB [n] n1 (by show 1 ≤ 60; decide)
      have hy : dat K (ndD n) Bq y := hy
      have eQ' := eP.trans L eQ
      have sQ := (s6.trans sP).trans eQ.bb
      have h4 := Mo.mo sQ h4
      have h5 := Mo.mo sQ h5
      have h6 := Mo.mo sQ h6
      change tSeq _ _ _ [some (.ref a), some (.ref d), some x, some u3, some u4, some u5, some u6, some u7, some y, v9, v10, v11, v12, v13, v14, v15, v16] Hq
      have pl : (parL as n).length ≤ 100 := by unfold parL; rw [List.length_map]; have := List.length_filter_le (fun a : Ar => decide (a.2 = n)) as; omega
      have cl : (chiL as n).length ≤ 100 := by unfold chiL; rw [List.length_map]; have := List.length_filter_le (fun a : Ar => decide (a.1 = n)) as; omega
      have pn : ∀ z ∈ parL as n, Nm z.2 := fun z hz => by obtain ⟨b, hb, rfl⟩ := List.mem_map.mp hz; exact (nas b (List.mem_filter.mp hb).1).1
      have cn : ∀ z ∈ chiL as n, Nm z.2 := fun z hz => by obtain ⟨b, hb, rfl⟩ := List.mem_map.mp hz; exact (nas b (List.mem_filter.mp hb).1).2
      refine s_skip (Dt.reprs (K := K) (d := .tuple ((parL as n).map ndD)) (De.callK (args := fun a : Cht × Ch.Nd => [chartR K C_Form C_Chart a.1, dat K (ndD a.2)]) (res := fun a => dat K (.tuple ((parL a.1.2.1 a.2).map ndD))) ((qs, as, bs), n) (.cons (.var h6 rfl) (.one (.var hy rfl))) rfl (fun _ _ => kw2s) okA) (De.eq (De.tupleL (De.lcD (K := K) (as := as) (r := fun a => dat K (arD a)) (Di.tupM (f := arD) (.var h4 rfl)) (fun a => decide (a.2 = n)) (fun a => ndD a.1) (by omega) fun b z Bm Hm hb sn sh hz => ?_)) (by unfold parL; rw [List.map_map]; rfl)) (nds_sm pn pl).shw) eQ'.bh fun B7 H7 e7 => ?_
      · obtain ⟨y1, z1, hy1, hz1, go⟩ := gTup2 sh (dat_pair (d := ndD b.1) (e := ndD b.2) hz)
        exact ⟨_, fun Q q => go Q q, rfl, Dt.eq (Dt.test (De.op (r := rEqD K) (.var hz1 rfl) (.var (Mo.mo sn hy) rfl) (Rv.eqD (nd_sm (nas b hb).2).shaped (nd_sm (nmn n mn)).shaped))) (ndD_eqv _ _), fun _ => .var hy1 rfl⟩
      have hy := Mo.mo e7.bb hy
      have h4 := Mo.mo e7.bb h4
      have h5 := Mo.mo e7.bb h5
      have h6 := Mo.mo e7.bb h6
      refine s_skip (Dt.reprs (K := K) (d := .tuple ((chiL as n).map ndD)) (De.callK (args := fun a : Cht × Ch.Nd => [chartR K C_Form C_Chart a.1, dat K (ndD a.2)]) (res := fun a => dat K (.tuple ((chiL a.1.2.1 a.2).map ndD))) ((qs, as, bs), n) (.cons (.var h6 rfl) (.one (.var hy rfl))) rfl (fun _ _ => kw2s) okA) (De.eq (De.tupleL (De.lcD (K := K) (as := as) (r := fun a => dat K (arD a)) (Di.tupM (f := arD) (.var h4 rfl)) (fun a => decide (a.1 = n)) (fun a => ndD a.2) (by omega) fun b z Bm Hm hb sn sh hz => ?_)) (by unfold chiL; rw [List.map_map]; rfl)) (nds_sm cn cl).shw) e7.bh fun B8 H8 e8 => ?_
      · obtain ⟨y1, z1, hy1, hz1, go⟩ := gTup2 sh (dat_pair (d := ndD b.1) (e := ndD b.2) hz)
        exact ⟨_, fun Q q => go Q q, rfl, Dt.eq (Dt.test (De.op (r := rEqD K) (.var hy1 rfl) (.var (Mo.mo sn hy) rfl) (Rv.eqD (nd_sm (nas b hb).1).shaped (nd_sm (nmn n mn)).shaped))) (ndD_eqv _ _), fun _ => .var hz1 rfl⟩
      have hy := Mo.mo e8.bb hy
      have h5 := Mo.mo e8.bb h5
      have h6 := Mo.mo e8.bb h6
      have el : (endsL bs n).length ≤ 100 := by unfold endsL; rw [List.length_map]; have := List.length_filter_le (fun b : Ar => decide (b.1 = n) || decide (b.2 = n)) bs; omega
      have en : ∀ z ∈ endsL bs n, Nm z.2 := fun z hz => by
        obtain ⟨b, hb, rfl⟩ := List.mem_map.mp hz
        have := nbs b (List.mem_filter.mp hb).1
        show Nm (if b.1 = n then b.2 else b.1).2
        split
        · exact this.2
        · exact this.1
      refine s_set (De.eq (De.lcD (K := K) (as := bs) (r := fun a => dat K (arD a)) (Di.tupM (f := arD) (.var h5 rfl)) (fun b => decide (b.1 = n) || decide (b.2 = n)) (fun b => ndD (if b.1 = n then b.2 else b.1)) (by omega) fun b z Bm Hm hb sn sh hz => ⟨[some (.ref a), some (.ref d), some x, some u3, some u4, some u5, some u6, some u7, some y, v9, v10, v11, some z, v13, v14, v15, v16], fun Q q => q, rfl, ?_, fun _ => ?_⟩) (e := .list ((endsL bs n).map ndD)) (by unfold endsL; rw [List.map_map]; rfl)) e8.bh fun u11 B9 H9 e9 h11 => ?_
      · refine Dt.eq (Dt.test (De.op (r := rInT K false) (.var (Mo.mo sn hy) rfl) (.var (show dat K (.tuple [ndD b.1, ndD b.2]) Bm z from hz) rfl) (Rv.inT (nd_sm (nmn n mn)).shaped (ar_sm (nbs b hb).1 (nbs b hb).2).shaped))) ?_
        simp only [List.any_cons, List.any_nil, Bool.or_false, ndD_eqv]
      · have hz : dat K (.tuple [ndD b.1, ndD b.2]) Bm z := hz
        refine De.eq (De.iteD (K := K) (b := decide (b.1 = n)) (d := ndD b.2) (e := ndD b.1) (Dt.eq (.test (K := K) (De.op (r := rEqD K) (De.op (r := rIxT K) (.var hz rfl) .int (Rv.ixTD rfl)) (.var (Mo.mo sn hy) rfl) (Rv.eqD (nd_sm (nbs b hb).1).shaped (nd_sm (nmn n mn)).shaped))) (ndD_eqv _ _)) (fun _ => De.op (r := rIxT K) (.var hz rfl) .int (Rv.ixTD rfl)) fun _ => De.op (r := rIxT K) (.var hz rfl) .int (Rv.ixTD rfl)) ?_
        by_cases g : b.1 = n
        · rw [if_pos (decide_eq_true g), if_pos g]
        · rw [if_neg (by simpa using g), if_neg g]
      have h6 := Mo.mo e9.bb h6
      have hy := Mo.mo e9.bb hy
      change tIfS _ _ _ _ [some (.ref a), some (.ref d), some x, some u3, some u4, some u5, some u6, some u7, some y, v9, v10, some u11, v12, v13, v14, v15, v16] H9
      have es := ends_srt (n := n) bne
      have pnl : (ptnL bs n).length ≤ 100 := by rw [← es, (srt_perm ndD _).length_eq]; exact el
      have pnn : ∀ z ∈ ptnL bs n, Nm z.2 := fun z hz => by rw [← es] at hz; exact en z ((srt_perm ndD _).mem_iff.mp hz)
      refine s_if (Dt.reprs (K := K) (d := .tuple ((ptnL bs n).map ndD)) (De.callK (args := fun a : Cht × Ch.Nd => [chartR K C_Form C_Chart a.1, dat K (ndD a.2)]) (res := fun a => dat K (.tuple ((ptnL a.1.2.2 a.2).map ndD))) ((qs, as, bs), n) (.cons (.var h6 rfl) (.one (.var hy rfl))) rfl (fun _ _ => kw2s) okB) (De.eq (De.tupleL (De.sorted (ds := (endsL bs n).map ndD) (.var h11 rfl) (ndKd.alike _) (ndKd.sok _) (ndKd.depths _))) (by rw [srt_map, es])) (nds_sm pnn pnl).shw) e9.bh (fun z => nomatch z) fun _ Bf Hf ef => ?_
      exact ⟨Bf, ((((eQ'.trans L (.of eQ'.dl e7)).trans L (.of (eQ'.trans L (.of eQ'.dl e7)).dl e8)).trans L (.of ((eQ'.trans L (.of eQ'.dl e7)).trans L (.of (eQ'.trans L (.of eQ'.dl e7)).dl e8)).dl (e9.trans ef)))), (sP.trans eQ.bb).trans (((e7.bb.trans e8.bb).trans e9.bb).trans ef.bb), _, _, _, _, _, rfl⟩
    · rintro σ' B6 H6 e6 s6 ⟨v8, v9, v10, v11, v12, rfl⟩
      have h4 := Mo.mo s6 h4
      have h6 := Mo.mo s6 h6
      have h7 := Mo.mo s6 h7
      have tl : (turn as).length = as.length := List.length_map _
      refine s_set (De.eq (De.tupleL (De.lcA (K := K) (as := as) (r := fun a => dat K (arD a)) (Di.tupM (f := arD) (.var h4 rfl)) (fun a => arD (a.2, a.1)) (by omega) fun b z Bm Hm _ _ sh hz => ?_)) (e := .tuple ((turn as).map arD)) (by unfold turn; rw [List.map_map]; rfl)) e6.bh fun u13 B7 H7 e7 h13 => ?_
      · obtain ⟨y1, z1, hy1, hz1, go⟩ := gTup2 sh (dat_pair (d := ndD b.1) (e := ndD b.2) hz)
        exact ⟨_, fun Q q => go Q q, rfl, De.tupD (ds := [ndD b.2, ndD b.1]) (.cons (.var hz1 rfl) (.cons (.var hy1 rfl) .nil)) (by rw [line]; show 2 ≤ _; decide)⟩
      have eD7 := e6.trans L (.of e6.dl e7)
      have h4 := Mo.mo e7.bb h4
      have h6 := Mo.mo e7.bb h6
      have h7 := Mo.mo e7.bb h7
      have sD : Same B2 B7 := (sC.trans s6).trans e7.bb
      change tSeq _ _ _ [some (.ref a), some (.ref d), some x, some u3, some u4, some u5, some u6, some u7, v8, v9, v10, v11, v12, some u13, v14, v15, v16] H7
      refine s_forD L eD7 (Di.rng (K := K) (n := 3) .int (by decide)) (fun i σ B H => ∃ v14 v15 v16, σ = [some (.ref a), some (.ref d), some x, some u3, some u4, some u5, some u6, some u7, v8, v9, v10, v11, v12, some u13, v14, v15, v16]) (fun B H e => ⟨_, _, _, rfl⟩) ?_ ?_
      · rintro B8 j R' y σ' Bp Ho Bq Hq s8 hR' eP sP ⟨v14, v15, v16, rfl⟩ eQ hy
        clear hy
        have eQ' := eP.trans L eQ
        have sQ := (s8.trans sP).trans eQ.bb
        have h4 := Mo.mo sQ h4
        have h6 := Mo.mo sQ h6
        have h7 := Mo.mo sQ h7
        have h13 := Mo.mo sQ h13
        change tSeq _ _ _ [some (.ref a), some (.ref d), some x, some u3, some u4, some u5, some u6, some u7, v8, v9, v10, v11, v12, some u13, some y, v15, v16] Hq
        refine s_raw (c_lcAny0 (K := K) eQ'.dl rfl .int (by decide) (by decide) fun r B9 H9 r0 r4 e9 => ?_)
        have ne : (nodesL (names qs)).map ndD ≠ [] := fun e => by
          have := congrArg List.length e
          rw [List.length_map, nodes_len, names_len] at this
          simp at this
          omega
        refine (Dw.lc (K := K) (as := List.range r.toNat) (r := fun i : Nat => dat K (.int (0 + (i : Int)))) (fun _ z => z ∈ (nodesL (names qs)).map ndD) (Di.itr (K := K)) (by rw [List.length_range]; omega) fun i z Bm _ sb _ => ⟨[some (.ref a), some (.ref d), some x, some u3, some u4, some u5, some u6, some u7, v8, v9, v10, v11, v12, some u13, some y, v15, some z], fun _ _ _ q => q, rfl, Dw.ofL (K := K) rfl (.var (Mo.mo (e9.bb.trans sb) h7) rfl) ne (by rw [List.length_map]; omega)⟩) B9 H9 (Same.refl _) e9.dl _ fun u15 B10 H10 e10 ⟨x10, ⟨ds, hx10, hE⟩, h15⟩ => ?_
        subst hx10
        obtain ⟨st, rfl, stm⟩ := nds_of fun z hz => by
          obtain ⟨_, _, h⟩ := each_mem hE z hz
          exact h
        have stl : st.length ≤ 3 := by
          have := hE.1
          rw [List.length_map, List.length_range] at this
          omega
        have e910 := e9.trans eQ'.dl e10
        have eD10 := eQ'.trans L e910
        have h4 := Mo.mo e910.bb h4
        have h6 := Mo.mo e910.bb h6
        have h13 := Mo.mo e910.bb h13
        have h15 : dat K (.list (st.map ndD)) B10 u15 := h15
        have okS := reA st stm (by omega)
        have okT := turn_ok okS
        have shwL : ∀ as' : List Ar, ReOk st as' → as'.length ≤ 10 → Sm 8 2 4300 (.tuple ((ledL as' st).map ndD)) := fun as' ok' l => nds_sm (fun z hz => ok'.nod (ledL_mem.mp hz)) (by
          have := nodup_len (asc_nodup (ledL_asc as' st)) fun x hx => (ledL_mem.mp hx).cands
          rw [List.length_append, List.length_map] at this
          omega)
        change tSeq _ _ _ [some (.ref a), some (.ref d), some x, some u3, some u4, some u5, some u6, some u7, v8, v9, v10, v11, v12, some u13, some y, some u15, v16] H10
        have cLF : ∀ {σ : L2.St} {B : Hp} {tr : TA} {E : XK} (w : Bool), Da tr σ B [chartR K C_Form C_Chart (qs, as, bs), dat K (seqD w (st.map ndD))] → De (tCall (sp_ledFrom K C_Form C_Chart) [] E tr) σ B (dat K (.tuple ((ledL as st).map ndD))) := fun w h => De.call (args := fun a : Cht × (Bool × List Ch.Nd) => [chartR K C_Form C_Chart a.1, dat K (seqD a.2.1 (a.2.2.map ndD))]) (res := fun a => dat K (.tuple ((ledL a.1.2.1 a.2.2).map ndD))) ((qs, as, bs), (w, st)) h okS
        refine s_skip (Dt.or2 (Dt.reprs (K := K) (d := .tuple ((ledL as st).map ndD)) (De.callK (args := fun a : Cht × (Bool × List Ch.Nd) => [chartR K C_Form C_Chart a.1, dat K (seqD a.2.1 (a.2.2.map ndD))]) (res := fun a => dat K (.tuple ((ledL a.1.2.1 a.2.2).map ndD))) ((qs, as, bs), (false, st)) (Rs := [chartR K C_Form C_Chart (qs, as, bs), dat K (.list (st.map ndD))]) (.cons (.var h6 rfl) (.one (.var h15 rfl))) rfl (fun _ _ => kw2s) okS) (De.tupleL (De.call (args := fun a : List Ar × List Ch.Nd => [dat K (.tuple (a.1.map arD)), dat K (.list (a.2.map ndD))]) (res := fun a => dat K (.list ((ledL a.1 a.2).map ndD))) (as, st) (.cons (.var h4 rfl) (.one (.var h15 rfl))) ⟨okS, show st.length + as.length ≤ 60 by omega⟩)) (shwL as okS fa).shw)
          (Dt.same (K := K) (d := .tuple ((ledL as st).map ndD)) (cLF true (.cons (.var h6 rfl) (.one (De.tupleL (.var h15 rfl))))) (cLF false (.cons (.var h6 rfl) (.one (.var h15 rfl)))) (shwL as okS fa).shaped)) eD10.bh fun B11 H11 e11 => ?_
        have h6 := Mo.mo e11.bb h6
        have h13 := Mo.mo e11.bb h13
        have h15 := Mo.mo e11.bb h15
        have h15t : dat K (.list (st.map ndD)) B11 u15 := h15
        refine s_if (Dt.reprs (K := K) (d := .tuple ((ledL (turn as) st).map ndD)) (De.callK (args := fun a : Cht × (Bool × List Ch.Nd) => [chartR K C_Form C_Chart a.1, dat K (seqD a.2.1 (a.2.2.map ndD))]) (res := fun a => dat K (.tuple ((ledL (turn a.1.2.1) a.2.2).map ndD))) ((qs, as, bs), (true, st)) (Rs := [chartR K C_Form C_Chart (qs, as, bs), dat K (.tuple (st.map ndD))]) (.cons (.var h6 rfl) (.one (De.tupleL (.var h15 rfl)))) rfl (fun _ _ => kw2s) okS) (De.tupleL (De.call (args := fun a : List Ar × List Ch.Nd => [dat K (.tuple (a.1.map arD)), dat K (.list (a.2.map ndD))]) (res := fun a => dat K (.list ((ledL a.1 a.2).map ndD))) (turn as, st) (.cons (.var h13 rfl) (.one (.var h15 rfl))) ⟨okT, show st.length + (turn as).length ≤ 60 by omega⟩)) (shwL (turn as) okT (by omega)).shw) e11.bh (fun z => nomatch z) fun _ Bf Hf ef => ?_
        have e11f := e11.trans ef
        exact ⟨Bf, eD10.trans L (.of eD10.dl e11f), (sP.trans eQ.bb).trans (e910.bb.trans e11f.bb), _, _, _, rfl⟩
      · rintro σ' B8 H8 e8 s8 ⟨v14, v15, v16, rfl⟩
        have h4 := Mo.mo s8 h4
        have h6 := Mo.mo s8 h6
        have h7 := Mo.mo s8 h7
        have ook : OrOk qs as := ⟨fm, ln.amem, by omega, ln.rank⟩
        have tpl : (topoL qs as).length ≤ 16 := Nat.le_trans (topo_len as _ _) n16
        have tpm : ∀ z ∈ topoL qs as, Nm z.2 := fun z hz => nmn z (topo_sub hz)
        refine s_if (Dt.reprs (K := K) (d := .tuple ((topoL qs as).map ndD)) (De.callK (args := fun c : Cht => [chartR K C_Form C_Chart c]) (res := fun c => dat K (.tuple ((topoL c.1 c.2.1).map ndD))) (qs, as, bs) (.cons (.var h6 rfl) .nil) rfl (fun _ _ => kw1) ook) (De.call (args := fun a : Qs × List Ar => [dat K (.list ((nodesL (names a.1)).map ndD)), dat K (.tuple (a.2.map arD))]) (res := fun a => dat K (.tuple ((topoL a.1 a.2).map ndD))) (qs, as) (.cons (.var h7 rfl) (.one (.var h4 rfl))) ook) (nds_sm tpm (by omega)).shw) e8.bh (fun z => nomatch z) fun _ Bf Hf ef => ?_
        exact ⟨Bf, e8.trans L (.of e8.dl ef), (sD.trans s8).trans ef.bb, _, _, _, _, _, _, _, _, _, _, _, _, _, _, _, rfl⟩
  · rintro σ' B' H' e' _ ⟨v2, v3, v4, v5, v6, v7, v8, v9, v10, v11, v12, v13, v14, v15, v16, rfl⟩
    exact k H'
end
end K10

set_option Elab.async false
set_option linter.all false
set_option maxRecDepth 100000
set_option maxHeartbeats 4000000
namespace K10
open PySem PySem.Spec PyProof.Rows L2 Wb Wv Fm Fq Sb St Ch

theorem inic_Form {P : Program} {w : World} {K : PySem.W.Frag} {mg : Str → Option Value} {base : Heap} {C fI : Addr} {fd : FuncData} (F : Fun K "__init__" "Form.__init__" (inClass (topS 1) 0) fI fd) (c : Cls K C) (na0 : NoAttr K C "questions") : FnOk P w K mg base CX0 1 fI fd ["self", "questions"] (spIns C ["questions"]) := by
  refine F.ok (N := ["self", "questions"]) ⟨rfl, rfl, rfl, by decide +kernel, rfl, by decide +kernel, by decide +kernel⟩ (fun vs H Q E h => ?_) (fun cdv A outer s H vs Q E hr h => ?_)
  · obtain ⟨x, dx, us, rfl, hl, _⟩ := h
    rw [List.length_cons, hl]
    rfl
  · obtain ⟨x, dx, us, rfl, hl, ha, q⟩ := h
    match us, hl with
    | [u0], _ =>
      refine ⟨_, (pss_one (ps_fld (pv 0) (pv 1) (by rfl))), ?_⟩
      refine ⟨_, rfl, _, rfl, x, C, dx, _, rfl, ha, c, na0, by first | (simp [putF]; done) | (simp [putF]; split <;> simp), q⟩
theorem inic_Chart {P : Program} {w : World} {K : PySem.W.Frag} {mg : Str → Option Value} {base : Heap} {C fI : Addr} {fd : FuncData} (F : Fun K "__init__" "Chart.__init__" (inClass (topS 4) 0) fI fd) (c : Cls K C) (na0 : NoAttr K C "form") (na1 : NoAttr K C "arrows") (na2 : NoAttr K C "bows") : FnOk P w K mg base CX0 1 fI fd ["self", "form", "arrows", "bows"] (spIns C ["form", "arrows", "bows"]) := by
  refine F.ok (N := ["self", "form", "arrows", "bows"]) ⟨rfl, rfl, rfl, by decide +kernel, rfl, by decide +kernel, by decide +kernel⟩ (fun vs H Q E h => ?_) (fun cdv A outer s H vs Q E hr h => ?_)
  · obtain ⟨x, dx, us, rfl, hl, _⟩ := h
    rw [List.length_cons, hl]
    rfl
  · obtain ⟨x, dx, us, rfl, hl, ha, q⟩ := h
    match us, hl with
    | [u0, u1, u2], _ =>
      refine ⟨_, (pss_cons (ps_fld (pv 0) (pv 1) (by rfl)) (pss_cons (ps_fld (pv 0) (pv 2) (by rfl)) (pss_one (ps_fld (pv 0) (pv 3) (by rfl))))), ?_⟩
      refine ⟨_, rfl, _, rfl, x, C, dx, _, rfl, ha, c, na0, by first | (simp [putF]; done) | (simp [putF]; split <;> simp), ⟨_, rfl, _, rfl, x, C, dx, _, rfl, upd_same, c, na1, by first | (simp [putF]; done) | (simp [putF]; split <;> simp), ⟨_, rfl, _, rfl, x, C, dx, _, rfl, upd_same, c, na2, by first | (simp [putF]; done) | (simp [putF]; split <;> simp), (by show Q V.non (upd (upd (upd H x _) x _) x _); rw [upd_upd, upd_upd]; exact q)⟩⟩⟩
end K10
namespace K10
open PySem PySem.Spec PyProof.Rows L2 Wb Wv Fm Sb St Ch
set_option maxHeartbeats 4000000 in
theorem all_mk {l : PySem.W.OpenLaw} {w : World} {K : PySem.W.Frag} {h : Heap} {mg : Str → Option Value} {fa C_Form f_Form C_Chart f_Chart g_namesOf g_nodesOf g_reached g_turned g_parents g_children g_partners g_ledFrom g_ledTo g_firstWithoutStart g_orderOf g_orderOrRing g_ringAmong g_deal g_any g_of g_lnames g_lquestions g_lnodes g_llines g_lled g_lorder g_law : Addr} 
    (X : K.In h) (G : h.Ns mainGlobals mg) (hfa : mg "law" = some (.ref fa))
    (aC_Form : PySem.W.nsIn K mainGlobals "Form" = some (some (.ref C_Form)))
    (pg_Form : PySem.W.plainGet K C_Form Str.empty = true)
    (hd_Form : PySem.W.hasDictIn K C_Form = true)
    (po_Form : PySem.W.plainOver K C_Form = true)
    (sa_Form : PySem.W.findIn K (.ref C_Form) "__setattr__" = some (some (.builtin "object.__setattr__")))
    (mk_Form : PySem.W.makesIn K C_Form = true)
    (kc_Form : PySem.W.keepIn K (.ref C_Form) = true)
    (a_Form : PySem.W.findIn K (.ref C_Form) "__init__" = some (some (.ref f_Form)))
    (fn_Form : PySem.W.isFn K (.ref f_Form) = true)
    (na0_Form : PySem.W.findIn K (.ref C_Form) "questions" = some none)
    (l_Form : FnF K "__init__" "Form.__init__" (inClass (topS 1) 0) f_Form)
    (aC_Chart : PySem.W.nsIn K mainGlobals "Chart" = some (some (.ref C_Chart)))
    (pg_Chart : PySem.W.plainGet K C_Chart Str.empty = true)
    (hd_Chart : PySem.W.hasDictIn K C_Chart = true)
    (po_Chart : PySem.W.plainOver K C_Chart = true)
    (sa_Chart : PySem.W.findIn K (.ref C_Chart) "__setattr__" = some (some (.builtin "object.__setattr__")))
    (mk_Chart : PySem.W.makesIn K C_Chart = true)
    (kc_Chart : PySem.W.keepIn K (.ref C_Chart) = true)
    (a_Chart : PySem.W.findIn K (.ref C_Chart) "__init__" = some (some (.ref f_Chart)))
    (fn_Chart : PySem.W.isFn K (.ref f_Chart) = true)
    (na0_Chart : PySem.W.findIn K (.ref C_Chart) "form" = some none)
    (na1_Chart : PySem.W.findIn K (.ref C_Chart) "arrows" = some none)
    (na2_Chart : PySem.W.findIn K (.ref C_Chart) "bows" = some none)
    (l_Chart : FnF K "__init__" "Chart.__init__" (inClass (topS 4) 0) f_Chart)
    (z_namesOf : PySem.W.nsIn K mainGlobals "names_of" = some (some (.ref g_namesOf)))
    (y_namesOf : FnF K "names_of" "names_of" s_namesOf g_namesOf)
    (z_nodesOf : PySem.W.nsIn K mainGlobals "nodes_of" = some (some (.ref g_nodesOf)))
    (y_nodesOf : FnF K "nodes_of" "nodes_of" s_nodesOf g_nodesOf)
    (z_reached : PySem.W.nsIn K mainGlobals "reached" = some (some (.ref g_reached)))
    (y_reached : FnF K "reached" "reached" s_reached g_reached)
    (z_turned : PySem.W.nsIn K mainGlobals "turned" = some (some (.ref g_turned)))
    (y_turned : FnF K "turned" "turned" s_turned g_turned)
    (z_parents : PySem.W.nsIn K mainGlobals "parents" = some (some (.ref g_parents)))
    (y_parents : FnF K "parents" "parents" s_parents g_parents)
    (z_children : PySem.W.nsIn K mainGlobals "children" = some (some (.ref g_children)))
    (y_children : FnF K "children" "children" s_children g_children)
    (z_partners : PySem.W.nsIn K mainGlobals "partners" = some (some (.ref g_partners)))
    (y_partners : FnF K "partners" "partners" s_partners g_partners)
    (z_ledFrom : PySem.W.nsIn K mainGlobals "led_from" = some (some (.ref g_ledFrom)))
    (y_ledFrom : FnF K "led_from" "led_from" s_ledFrom g_ledFrom)
    (z_ledTo : PySem.W.nsIn K mainGlobals "led_to" = some (some (.ref g_ledTo)))
    (y_ledTo : FnF K "led_to" "led_to" s_ledTo g_ledTo)
    (z_firstWithoutStart : PySem.W.nsIn K mainGlobals "first_without_start" = some (some (.ref g_firstWithoutStart)))
    (y_firstWithoutStart : FnF K "first_without_start" "first_without_start" s_firstWithoutStart g_firstWithoutStart)
    (z_orderOf : PySem.W.nsIn K mainGlobals "order_of" = some (some (.ref g_orderOf)))
    (y_orderOf : FnF K "order_of" "order_of" s_orderOf g_orderOf)
    (z_orderOrRing : PySem.W.nsIn K mainGlobals "order_or_ring" = some (some (.ref g_orderOrRing)))
    (y_orderOrRing : FnF K "order_or_ring" "order_or_ring" s_orderOrRing g_orderOrRing)
    (z_ringAmong : PySem.W.nsIn K mainGlobals "ring_among" = some (some (.ref g_ringAmong)))
    (y_ringAmong : FnF K "ring_among" "ring_among" s_ringAmong g_ringAmong)
    (z_deal : PySem.W.nsIn K mainGlobals "_law_deal" = some (some (.ref g_deal)))
    (y_deal : FnF K "_law_deal" "_law_deal" s_deal g_deal)
    (z_any : PySem.W.nsIn K mainGlobals "_law_any" = some (some (.ref g_any)))
    (y_any : FnF K "_law_any" "_law_any" s_any g_any)
    (z_of : PySem.W.nsIn K mainGlobals "_law_of" = some (some (.ref g_of)))
    (y_of : FnF K "_law_of" "_law_of" s_of g_of)
    (z_lnames : PySem.W.nsIn K mainGlobals "_law_names" = some (some (.ref g_lnames)))
    (y_lnames : FnF K "_law_names" "_law_names" s_lnames g_lnames)
    (z_lquestions : PySem.W.nsIn K mainGlobals "_law_questions" = some (some (.ref g_lquestions)))
    (y_lquestions : FnF K "_law_questions" "_law_questions" s_lquestions g_lquestions)
    (z_lnodes : PySem.W.nsIn K mainGlobals "_law_nodes" = some (some (.ref g_lnodes)))
    (y_lnodes : FnF K "_law_nodes" "_law_nodes" s_lnodes g_lnodes)
    (z_llines : PySem.W.nsIn K mainGlobals "_law_lines" = some (some (.ref g_llines)))
    (y_llines : FnF K "_law_lines" "_law_lines" s_llines g_llines)
    (z_lled : PySem.W.nsIn K mainGlobals "_law_led" = some (some (.ref g_lled)))
    (y_lled : FnF K "_law_led" "_law_led" s_lled g_lled)
    (z_lorder : PySem.W.nsIn K mainGlobals "_law_order" = some (some (.ref g_lorder)))
    (y_lorder : FnF K "_law_order" "_law_order" s_lorder g_lorder)
    (z_law : PySem.W.nsIn K mainGlobals "law" = some (some (.ref g_law)))
    (y_law : FnF K "law" "law" s_law g_law)
    (o_tuple : PySem.W.nsIn K mainGlobals "tuple" = some none)
    (o_list : PySem.W.nsIn K mainGlobals "list" = some none)
    (o_sorted : PySem.W.nsIn K mainGlobals "sorted" = some none)
    (o_len : PySem.W.nsIn K mainGlobals "len" = some none)
    (o_range : PySem.W.nsIn K mainGlobals "range" = some none)
    (o_min : PySem.W.nsIn K mainGlobals "min" = some none)
    (o_max : PySem.W.nsIn K mainGlobals "max" = some none)
    (o_set : PySem.W.nsIn K mainGlobals "set" = some none)
    (o_repr : PySem.W.nsIn K mainGlobals "repr" = some none)
    (o_int : PySem.W.nsIn K mainGlobals "int" = some none)
    (o_abs : PySem.W.nsIn K mainGlobals "abs" = some none)
    : ∀ base : Heap, K.In base → base.Ns mainGlobals mg → ∃ fd : FuncData, (∀ (s : Shared) (v : Value), BindsTo s fd ⟨[v], []⟩ [("script", v)]) ∧ FnG l.prog w K mg base CX0 5 fa fd ["script"] (Wb.spLaw K) := by
  obtain ⟨_, _, _, _, _, _, F_Form⟩ := l_Form.fn
  have b_Form := F_Form.binds (ps := ["self", "questions"]) fun _ _ _ _ _ _ us hl => match us, hl with | [_, _], _ => rfl
  have cls_Form : Cls K C_Form := ⟨pg_Form, hd_Form, po_Form, sa_Form⟩
  obtain ⟨_, _, _, _, _, _, F_Chart⟩ := l_Chart.fn
  have b_Chart := F_Chart.binds (ps := ["self", "form", "arrows", "bows"]) fun _ _ _ _ _ _ us hl => match us, hl with | [_, _, _, _], _ => rfl
  have cls_Chart : Cls K C_Chart := ⟨pg_Chart, hd_Chart, po_Chart, sa_Chart⟩
  have D_namesOf : Def K mg "names_of" s_namesOf ["form"] := FnF.def_ X G z_namesOf y_namesOf (fun _ _ _ _ _ _ us hl => match us, hl with | [_], _ => rfl)
  have D_nodesOf : Def K mg "nodes_of" s_nodesOf ["form"] := FnF.def_ X G z_nodesOf y_nodesOf (fun _ _ _ _ _ _ us hl => match us, hl with | [_], _ => rfl)
  have D_reached : Def K mg "reached" s_reached ["starts", "steps"] := FnF.def_ X G z_reached y_reached (fun _ _ _ _ _ _ us hl => match us, hl with | [_, _], _ => rfl)
  have D_turned : Def K mg "turned" s_turned ["pairs"] := FnF.def_ X G z_turned y_turned (fun _ _ _ _ _ _ us hl => match us, hl with | [_], _ => rfl)
  have D_parents : Def K mg "parents" s_parents ["chart", "node"] := FnF.def_ X G z_parents y_parents (fun _ _ _ _ _ _ us hl => match us, hl with | [_, _], _ => rfl)
  have D_children : Def K mg "children" s_children ["chart", "node"] := FnF.def_ X G z_children y_children (fun _ _ _ _ _ _ us hl => match us, hl with | [_, _], _ => rfl)
  have D_partners : Def K mg "partners" s_partners ["chart", "node"] := FnF.def_ X G z_partners y_partners (fun _ _ _ _ _ _ us hl => match us, hl with | [_, _], _ => rfl)
  have D_ledFrom : Def K mg "led_from" s_ledFrom ["chart", "nodes"] := FnF.def_ X G z_ledFrom y_ledFrom (fun _ _ _ _ _ _ us hl => match us, hl with | [_, _], _ => rfl)
  have D_ledTo : Def K mg "led_to" s_ledTo ["chart", "nodes"] := FnF.def_ X G z_ledTo y_ledTo (fun _ _ _ _ _ _ us hl => match us, hl with | [_, _], _ => rfl)
  have D_firstWithoutStart : Def K mg "first_without_start" s_firstWithoutStart ["left", "arrows"] := FnF.def_ X G z_firstWithoutStart y_firstWithoutStart (fun _ _ _ _ _ _ us hl => match us, hl with | [_, _], _ => rfl)
  have D_orderOf : Def K mg "order_of" s_orderOf ["chart"] := FnF.def_ X G z_orderOf y_orderOf (fun _ _ _ _ _ _ us hl => match us, hl with | [_], _ => rfl)
  have D_orderOrRing : Def K mg "order_or_ring" s_orderOrRing ["form", "arrows"] := FnF.def_ X G z_orderOrRing y_orderOrRing (fun _ _ _ _ _ _ us hl => match us, hl with | [_, _], _ => rfl)
  have D_ringAmong : Def K mg "ring_among" s_ringAmong ["left", "arrows"] := FnF.def_ X G z_ringAmong y_ringAmong (fun _ _ _ _ _ _ us hl => match us, hl with | [_, _], _ => rfl)
  have D_deal : Def K mg "_law_deal" s_deal ["script", "base"] := FnF.def_ X G z_deal y_deal (fun _ _ _ _ _ _ us hl => match us, hl with | [_, _], _ => rfl)
  have D_any : Def K mg "_law_any" s_any ["deal", "bound"] := FnF.def_ X G z_any y_any (fun _ _ _ _ _ _ us hl => match us, hl with | [_, _], _ => rfl)
  have D_of : Def K mg "_law_of" s_of ["deal", "some"] := FnF.def_ X G z_of y_of (fun _ _ _ _ _ _ us hl => match us, hl with | [_, _], _ => rfl)
  have D_lnames : Def K mg "_law_names" s_lnames ["deal", "many"] := FnF.def_ X G z_lnames y_lnames (fun _ _ _ _ _ _ us hl => match us, hl with | [_, _], _ => rfl)
  have D_lquestions : Def K mg "_law_questions" s_lquestions ["deal", "most"] := FnF.def_ X G z_lquestions y_lquestions (fun _ _ _ _ _ _ us hl => match us, hl with | [_, _], _ => rfl)
  have D_lnodes : Def K mg "_law_nodes" s_lnodes ["questions"] := FnF.def_ X G z_lnodes y_lnodes (fun _ _ _ _ _ _ us hl => match us, hl with | [_], _ => rfl)
  have D_llines : Def K mg "_law_lines" s_llines ["deal", "questions", "arrows", "bows"] := FnF.def_ X G z_llines y_llines (fun _ _ _ _ _ _ us hl => match us, hl with | [_, _, _, _], _ => rfl)
  have D_lled : Def K mg "_law_led" s_lled ["arrows", "nodes"] := FnF.def_ X G z_lled y_lled (fun _ _ _ _ _ _ us hl => match us, hl with | [_, _], _ => rfl)
  have D_lorder : Def K mg "_law_order" s_lorder ["nodes", "arrows"] := FnF.def_ X G z_lorder y_lorder (fun _ _ _ _ _ _ us hl => match us, hl with | [_, _], _ => rfl)
  have D_law : Def K mg "law" s_law ["script"] := FnF.def_ X G z_law y_law (fun _ _ _ _ _ _ us hl => match us, hl with | [_], _ => rfl)
  have n_tuple := PySem.W.mg_none_of X G o_tuple
  have n_list := PySem.W.mg_none_of X G o_list
  have n_sorted := PySem.W.mg_none_of X G o_sorted
  have n_len := PySem.W.mg_none_of X G o_len
  have n_range := PySem.W.mg_none_of X G o_range
  have n_min := PySem.W.mg_none_of X G o_min
  have n_max := PySem.W.mg_none_of X G o_max
  have n_set := PySem.W.mg_none_of X G o_set
  have n_repr := PySem.W.mg_none_of X G o_repr
  have n_int := PySem.W.mg_none_of X G o_int
  have n_abs := PySem.W.mg_none_of X G o_abs
  intro base _ _
  have nas_Form : ∀ f ∈ [("questions" : Str)], NoAttr K C_Form f := fun f hf => by
    simp only [List.mem_cons, List.not_mem_nil, or_false] at hf
    rcases hf with rfl
    · exact na0_Form
  have K_Form : CalC l.prog w K mg base "Form" C_Form ["questions"] := ⟨cls_Form, PySem.W.mg_of X G aC_Form, nas_Form, f_Form, _, ⟨mk_Form, a_Form, fn_Form, kc_Form⟩, inic_Form F_Form cls_Form na0_Form, b_Form⟩
  have nas_Chart : ∀ f ∈ [("form" : Str), "arrows", "bows"], NoAttr K C_Chart f := fun f hf => by
    simp only [List.mem_cons, List.not_mem_nil, or_false] at hf
    rcases hf with rfl | rfl | rfl
    · exact na0_Chart
    · exact na1_Chart
    · exact na2_Chart
  have K_Chart : CalC l.prog w K mg base "Chart" C_Chart ["form", "arrows", "bows"] := ⟨cls_Chart, PySem.W.mg_of X G aC_Chart, nas_Chart, f_Chart, _, ⟨mk_Chart, a_Chart, fn_Chart, kc_Chart⟩, inic_Chart F_Chart cls_Chart na0_Chart na1_Chart na2_Chart, b_Chart⟩
  have C_namesOf := ok_namesOf (P := l.prog) (w := w) (base := base) D_namesOf n_tuple K_Form
  have C_nodesOf := ok_nodesOf (P := l.prog) (w := w) (base := base) D_nodesOf C_namesOf n_tuple
  have C_reached := ok_reached (P := l.prog) (w := w) (base := base) D_reached n_list n_sorted n_tuple
  have C_turned := ok_turned (P := l.prog) (w := w) (base := base) D_turned 
  have C_parents := ok_parents (C_Form := C_Form) (P := l.prog) (w := w) (base := base) D_parents n_tuple K_Chart
  have C_children := ok_children (C_Form := C_Form) (P := l.prog) (w := w) (base := base) D_children n_tuple K_Chart
  have C_partners := ok_partners (C_Form := C_Form) (P := l.prog) (w := w) (base := base) D_partners n_list C_turned n_sorted n_tuple K_Chart
  have C_ledFrom := ok_ledFrom (C_Form := C_Form) (P := l.prog) (w := w) (base := base) D_ledFrom C_reached K_Chart
  have C_ledTo := ok_ledTo (C_Form := C_Form) (P := l.prog) (w := w) (base := base) D_ledTo C_reached C_turned K_Chart
  have C_firstWithoutStart := ok_firstWithoutStart (P := l.prog) (w := w) (base := base) D_firstWithoutStart 
  have C_ringAmong := ok_ringAmong (P := l.prog) (w := w) (base := base) D_ringAmong n_tuple
  have C_orderOrRing := ok_orderOrRing (P := l.prog) (w := w) (base := base) D_orderOrRing C_nodesOf n_list C_firstWithoutStart C_ringAmong n_tuple
  have C_orderOf := ok_orderOf (P := l.prog) (w := w) (base := base) D_orderOf C_orderOrRing K_Chart
  have C_deal := ok_deal (P := l.prog) (w := w) (base := base) D_deal n_int n_abs
  have C_any := ok_any (P := l.prog) (w := w) (base := base) D_any n_int
  have C_of := ok_of (P := l.prog) (w := w) (base := base) D_of C_any n_len
  have C_lnames := ok_lnames (P := l.prog) (w := w) (base := base) D_lnames C_any C_of n_len n_sorted
  have C_lquestions := ok_lquestions (P := l.prog) (w := w) (base := base) D_lquestions C_lnames C_any n_tuple
  have C_lnodes := ok_lnodes (P := l.prog) (w := w) (base := base) D_lnodes 
  have C_llines := ok_llines (P := l.prog) (w := w) (base := base) D_llines C_lnodes n_len C_any n_range n_min n_max n_set n_sorted n_tuple
  have C_lled := ok_lled (P := l.prog) (w := w) (base := base) D_lled n_list n_len n_set n_sorted
  have C_lorder := ok_lorder (P := l.prog) (w := w) (base := base) D_lorder n_range n_len n_min n_tuple
  have C_law := ok_law (P := l.prog) (w := w) (base := base) D_law C_deal n_range C_lquestions C_llines K_Chart K_Form C_lnodes C_parents n_repr n_tuple C_children C_partners n_sorted C_any C_of C_ledFrom C_lled C_ledTo C_orderOf C_lorder
  exact C_law.law hfa (fun _ _ _ _ _ _ s u => .of_eq rfl)
end K10
open PySem PySem.W PyProof.Rows in
set_option maxRecDepth 100000 in
set_option maxHeartbeats 0 in
theorem PySem.Challenge.cw_whyblank_k10_whole_what_leads_where_holds : PySem.Challenge.rw_whyblank_k10_whole_what_leads_where.Holds := by
  w_on; o_law; k_head; (case hw => w_witness2)
  k_fill
  refine Wb.walk2 (l := PySem.Challenge.rw_whyblank_k10_whole_what_leads_where) (k := 5) ⟨rfl, by decide, by decide⟩ rfl rfl (fun w h Y => PySem.W.kIn_of Y) ?F
  case F =>
    intro w mg fa h KX G hmg
    refine' K10.all_mk KX G hmg ?aC_Form ?pg_Form ?hd_Form ?po_Form ?sa_Form ?mk_Form ?kc_Form ?a_Form ?fn_Form ?na0_Form (Wb.FnF.mk2 ?li_Form ?ui_Form ?vi_Form) ?aC_Chart ?pg_Chart ?hd_Chart ?po_Chart ?sa_Chart ?mk_Chart ?kc_Chart ?a_Chart ?fn_Chart ?na0_Chart ?na1_Chart ?na2_Chart (Wb.FnF.mk2 ?li_Chart ?ui_Chart ?vi_Chart) ?z_namesOf (Wb.FnF.mk2 ?l_namesOf ?u_namesOf ?v_namesOf) ?z_nodesOf (Wb.FnF.mk2 ?l_nodesOf ?u_nodesOf ?v_nodesOf) ?z_reached (Wb.FnF.mk2 ?l_reached ?u_reached ?v_reached) ?z_turned (Wb.FnF.mk2 ?l_turned ?u_turned ?v_turned) ?z_parents (Wb.FnF.mk2 ?l_parents ?u_parents ?v_parents) ?z_children (Wb.FnF.mk2 ?l_children ?u_children ?v_children) ?z_partners (Wb.FnF.mk2 ?l_partners ?u_partners ?v_partners) ?z_ledFrom (Wb.FnF.mk2 ?l_ledFrom ?u_ledFrom ?v_ledFrom) ?z_ledTo (Wb.FnF.mk2 ?l_ledTo ?u_ledTo ?v_ledTo) ?z_firstWithoutStart (Wb.FnF.mk2 ?l_firstWithoutStart ?u_firstWithoutStart ?v_firstWithoutStart) ?z_orderOf (Wb.FnF.mk2 ?l_orderOf ?u_orderOf ?v_orderOf) ?z_orderOrRing (Wb.FnF.mk2 ?l_orderOrRing ?u_orderOrRing ?v_orderOrRing) ?z_ringAmong (Wb.FnF.mk2 ?l_ringAmong ?u_ringAmong ?v_ringAmong) ?z_deal (Wb.FnF.mk2 ?l_deal ?u_deal ?v_deal) ?z_any (Wb.FnF.mk2 ?l_any ?u_any ?v_any) ?z_of (Wb.FnF.mk2 ?l_of ?u_of ?v_of) ?z_lnames (Wb.FnF.mk2 ?l_lnames ?u_lnames ?v_lnames) ?z_lquestions (Wb.FnF.mk2 ?l_lquestions ?u_lquestions ?v_lquestions) ?z_lnodes (Wb.FnF.mk2 ?l_lnodes ?u_lnodes ?v_lnodes) ?z_llines (Wb.FnF.mk2 ?l_llines ?u_llines ?v_llines) ?z_lled (Wb.FnF.mk2 ?l_lled ?u_lled ?v_lled) ?z_lorder (Wb.FnF.mk2 ?l_lorder ?u_lorder ?v_lorder) ?z_law (Wb.FnF.mk2 ?l_law ?u_law ?v_law) ?o_tuple ?o_list ?o_sorted ?o_len ?o_range ?o_min ?o_max ?o_set ?o_repr ?o_int ?o_abs
    (case aC_Form => k_is)
    (case pg_Form => k_is)
    (case hd_Form => k_is)
    (case po_Form => k_is)
    (case sa_Form => k_is)
    (case mk_Form => k_is)
    (case kc_Form => k_is)
    (case a_Form => k_is)
    (case fn_Form => k_is)
    (case na0_Form => k_is)
    (case li_Form => k_is)
    (case ui_Form => k_is)
    (case vi_Form => k_is)
    (case aC_Chart => k_is)
    (case pg_Chart => k_is)
    (case hd_Chart => k_is)
    (case po_Chart => k_is)
    (case sa_Chart => k_is)
    (case mk_Chart => k_is)
    (case kc_Chart => k_is)
    (case a_Chart => k_is)
    (case fn_Chart => k_is)
    (case na0_Chart => k_is)
    (case na1_Chart => k_is)
    (case na2_Chart => k_is)
    (case li_Chart => k_is)
    (case ui_Chart => k_is)
    (case vi_Chart => k_is)
    (case z_namesOf => k_is)
    (case l_namesOf => k_is)
    (case u_namesOf => k_is)
    (case v_namesOf => k_is)
    (case z_nodesOf => k_is)
    (case l_nodesOf => k_is)
    (case u_nodesOf => k_is)
    (case v_nodesOf => k_is)
    (case z_reached => k_is)
    (case l_reached => k_is)
    (case u_reached => k_is)
    (case v_reached => k_is)
    (case z_turned => k_is)
    (case l_turned => k_is)
    (case u_turned => k_is)
    (case v_turned => k_is)
    (case z_parents => k_is)
    (case l_parents => k_is)
    (case u_parents => k_is)
    (case v_parents => k_is)
    (case z_children => k_is)
    (case l_children => k_is)
    (case u_children => k_is)
    (case v_children => k_is)
    (case z_partners => k_is)
    (case l_partners => k_is)
    (case u_partners => k_is)
    (case v_partners => k_is)
    (case z_ledFrom => k_is)
    (case l_ledFrom => k_is)
    (case u_ledFrom => k_is)
    (case v_ledFrom => k_is)
    (case z_ledTo => k_is)
    (case l_ledTo => k_is)
    (case u_ledTo => k_is)
    (case v_ledTo => k_is)
    (case z_firstWithoutStart => k_is)
    (case l_firstWithoutStart => k_is)
    (case u_firstWithoutStart => k_is)
    (case v_firstWithoutStart => k_is)
    (case z_orderOf => k_is)
    (case l_orderOf => k_is)
    (case u_orderOf => k_is)
    (case v_orderOf => k_is)
    (case z_orderOrRing => k_is)
    (case l_orderOrRing => k_is)
    (case u_orderOrRing => k_is)
    (case v_orderOrRing => k_is)
    (case z_ringAmong => k_is)
    (case l_ringAmong => k_is)
    (case u_ringAmong => k_is)
    (case v_ringAmong => k_is)
    (case z_deal => k_is)
    (case l_deal => k_is)
    (case u_deal => k_is)
    (case v_deal => k_is)
    (case z_any => k_is)
    (case l_any => k_is)
    (case u_any => k_is)
    (case v_any => k_is)
    (case z_of => k_is)
    (case l_of => k_is)
    (case u_of => k_is)
    (case v_of => k_is)
    (case z_lnames => k_is)
    (case l_lnames => k_is)
    (case u_lnames => k_is)
    (case v_lnames => k_is)
    (case z_lquestions => k_is)
    (case l_lquestions => k_is)
    (case u_lquestions => k_is)
    (case v_lquestions => k_is)
    (case z_lnodes => k_is)
    (case l_lnodes => k_is)
    (case u_lnodes => k_is)
    (case v_lnodes => k_is)
    (case z_llines => k_is)
    (case l_llines => k_is)
    (case u_llines => k_is)
    (case v_llines => k_is)
    (case z_lled => k_is)
    (case l_lled => k_is)
    (case u_lled => k_is)
    (case v_lled => k_is)
    (case z_lorder => k_is)
    (case l_lorder => k_is)
    (case u_lorder => k_is)
    (case v_lorder => k_is)
    (case z_law => k_is)
    (case l_law => k_is)
    (case u_law => k_is)
    (case v_law => k_is)
    (case o_tuple => k_is)
    (case o_list => k_is)
    (case o_sorted => k_is)
    (case o_len => k_is)
    (case o_range => k_is)
    (case o_min => k_is)
    (case o_max => k_is)
    (case o_set => k_is)
    (case o_repr => k_is)
    (case o_int => k_is)
    (case o_abs => k_is)
