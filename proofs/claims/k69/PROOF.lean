import PyProof.Rows.All
import Wide.All
import OpenK.AllK
import Wide.FinOn
import HandS.ForMost
import HandS.ForExc
import HandS.Wide
import HandS.Ends
import HandS.ExcInit
import KE.KExcIs
import KE.KExcInit
import HandS.IsInst
import HandS.TryMany
import HandS.Style
import PyProof.ReprLen
import PyProof.ReprText
import HandS.Gcd
import HandS.WideMore
import HandS.WideBits
import PyProof.ReprBulk
import PyProof.FitsInt
import HandS.Deep
import HandS.TupAny
import HandS.Walk
import KE.SortData
import PyProof.P3In
import PyProof.StrOps2
import PyProof.Rows.SeqMore
import HandS.Conv
import HandS.Zip
import KE.GoesEnum
import PyProof.P3Eq
import PyProof.ListStr
import PySem.Challenge.RW_whyblank_k69_whole_tests_and_worths
set_option Elab.async false
set_option linter.all false
set_option maxRecDepth 100000
set_option maxHeartbeats 4000000
/-! Wb0: repr of data, and calls whose surroundings run no repr (guards empty). -/
namespace Wb
open PySem PySem.Spec PyProof.Rows L2

/-! ### repr over data -/
def rShow (K : PySem.W.Frag) : List V → Hp → VK → Prop := fun xs H Q =>
  ∃ (x : V) (d : PyData), xs = [x] ∧ Dp K H x d ∧ d.showable = true ∧ d.hasDict = false ∧ d.depth ≤ 60 ∧ d.shown.length ≤ sizeLine ∧ Q (.str d.shown) H
section
variable {X : Cx}
theorem call_show (hg : X.A.guards = some []) (hu : X.A.units + 64 < cLine) : CallR X (.builtin "repr") (rShow X.K) := by
  intro pins s σ H xs us Q I rr hh
  obtain ⟨x, d, rfl, hd, hs, hn, hdep, hl, hq⟩ := hh
  cases rr with
  | cons r1 r2 =>
  cases r2
  rename_i u
  obtain ⟨as, rd⟩ := Dp.reads I d x u hd r1
  have done : ∀ (h' : Heap) (t tk : Nat), (∀ b o, s.heap.get? b = some o → h'.get? b = some o) → EP X pins σ Q (.str d.shown t) { s with heap := h', toks := tk } :=
    fun h' t tk kp => ⟨.str d.shown, H, I.kept kp, ⟨t, rfl⟩, hq⟩
  cases hd with
  | non =>
    obtain rfl : u = Value.none := r1
    simp only [PyData.shown] at done
    exact PySem.P.repr_of_none (done _ _ _ fun _ _ e => e)
  | bl b =>
    obtain rfl : u = Value.bool b := r1
    simp only [PyData.shown] at done
    exact PySem.P.repr_of_bool (done _ _ _ fun _ _ e => e)
  | int i =>
    obtain ⟨t, rfl⟩ := r1
    simp only [PyData.shown] at done
    exact PySem.P.repr_of_int (by simpa [PyData.showable] using hs) (done _ _ _ fun _ _ e => e)
  | str z =>
    obtain ⟨t, rfl⟩ := r1
    simp only [PyData.shown] at done
    exact PySem.P.repr_of_str (done _ _ _ fun _ _ e => e) (by simpa only [PyData.shown] using hl)
  | lst h1 h2 =>
    cases r1
    exact repr_of_reads' rd hs (PyData.noDict_hsm hn) hg (by omega) (fun _ _ e => e) (fun h' t tk kp => done h' t tk kp) hl
  | tup h1 h2 =>
    cases r1
    exact repr_of_reads' rd hs (PyData.noDict_hsm hn) hg (by omega) (fun _ _ e => e) (fun h' t tk kp => done h' t tk kp) hl
end

/-! ### a def that is called where no repr runs -/
structure FnG (P : Program) (w : World) (K : PySem.W.Frag) (mg : Str → Option Value) (base : Heap) (CX : CXT) (k : Nat) (f : Addr) (fd : FuncData) (ps : List Str) (sp : Sp) : Prop where
  arity : ∀ vs H Q E, sp vs H Q E → vs.length = ps.length
  go : ∀ (A : Around) (outer : List Env) (s : Shared) (H : Hp) (args : Args) (us : List Value) (vs : List V) (Q : VK) (E : XK),
    A.guards = some [] → Room k A → Env0 P w K mg base A outer s H → BindsTo s fd args (ps.zip us) → Vals vs us → sp vs H Q E →
    codeAny (model P w) A (.call (.ref f) args) (CR CX outer P w H s Q E) s

theorem FnG.of {P w K mg base CX k f fd ps sp} (F : FnOk P w K mg base CX k f fd ps sp) : FnG P w K mg base CX k f fd ps sp :=
  ⟨F.len, fun A outer s H args us vs Q E _ => F.run A outer s H args us vs Q E⟩

section
variable {P : Program} {w : World} {K : PySem.W.Frag} {mg : Str → Option Value} {base : Heap}
/-- the body of such a def, with the surroundings' guards told -/
theorem okG {CX : CXT} {x qual : Str} {st : Stmt} {f : Addr} {fd : FuncData} {N ps : List Str} {k : Nat} {sp : Sp} (F : Fun K x qual st f fd) (S : FnScope N ps (defScope st)) (ar : ∀ vs H Q E, sp vs H Q E → vs.length = ps.length)
    (body : ∀ (cdv : Value) (A : Around) (outer : List Env) (s : Shared) (H : Hp) (vs : List V) (Q : VK) (E : XK),
      (A.deeper (envOfC qual (defScope st) s.heap.objs.size f cdv)).guards = some [] → Room k (A.deeper (envOfC qual (defScope st) s.heap.objs.size f cdv)) → sp vs H Q E →
      ∃ t, PSs (cxOf CX P w K mg base N qual (defScope st) f cdv A outer s H E) (defBody st) t ∧ t { nx := fun _ H' => Q .non H', rt := Q } (start N vs) H) :
    FnG P w K mg base CX (k + 1) f fd ps sp := by
  obtain ⟨a1, a2, a3, a4, a5, a6, cdv, a8, a9, rfl, found, coded⟩ := F.ex
  refine ⟨ar, ?_⟩
  intro A outer s H args us vs Q E gd room env0 bnd rel want
  have many := ar _ _ _ _ want
  have inS : K.In s.heap := env0.mod.kin.keeps fun b o e => (env0.bs b o e).1
  have noLim : s.heap.NoLimit := env0.mod.nolimit.keeps fun b o e => (env0.bs b o e).1
  refine codeAny_call_function room.depth (inS _ _ found) rfl S.co S.gen rfl (PySem.W.codeRec_of inS coded) (bnd _ _ _ _ ?_)
  have kinds : ∀ y ∈ ps.zip us, (defScope st).names.lookup y.1 = some .local ∨
      ((defScope st).names.lookup y.1 = some .cell ∧ ((cellsFrom (s.heap.objs.size + 1) (defScope st).names []).lookup y.1).isSome = true) := by
    rintro ⟨n, v⟩ mem
    have hp := S.par n (List.of_mem_zip mem).1
    rcases hp with hp | hp
    · exact Or.inl hp
    · exact Or.inr ⟨hp, PySem.W.cellsFrom_some _ _ _ (Or.inl hp)⟩
  refine wpAny_newFunctionEnv_cells S.kind kinds ?_
  intro env isEnv s1 inCall
  subst isEnv
  refine ⟨noLim.keeps inCall.toInCall.keep, codeAny_func ?_⟩
  have gd2 : (A.deeper (envOfC qual (defScope st) s.heap.objs.size f cdv)).guards = some [] := gd
  obtain ⟨t, derived, holds⟩ := body cdv A outer s H vs Q E gd2 (room.deeper _) want
  have inv := inv_start (CX := CX) (E := E) (qual := qual) (cd := cdv) (f := f) S room.hd env0 many rel inCall
  refine wpAny_mono (derived.run [] s1 (start N vs) H _ inv holds) ?_ (fun _ _ z => z)
  intro fl s' got
  cases fl with
  | ret u =>
    obtain ⟨v, σ', H', J, rv, q⟩ := got
    exact ⟨v, H', J.os, J.bare, J.base, J.hok, rv, q⟩
  | next =>
    obtain ⟨σ', H', J, q⟩ := got
    exact ⟨V.non, H', J.os, J.bare, J.base, J.hok, rfl, q⟩
  | brk => obtain ⟨_, _, _, q⟩ := got; exact q.elim
  | cont => obtain ⟨_, _, _, q⟩ := got; exact q.elim
end

/-! ### calling it -/
section
variable {X : Cx} {CX : CXT} {k : Nat} {f : Addr} {fd : FuncData} {ps : List Str} {sp : Sp} {dvs : List V} {ds : List Value} {E : XK} {x : Str} {p pos : Pos} {e : Expr} {es : List Expr} {t : TA}
theorem runG {pins : List (Addr × Obj)} {σ : L2.St} {H : Hp} {s : Shared} {Q : VK} {us : List Value} {vs : List V} (F : FnG X.prog X.w X.K X.mg X.base CX k f fd ps sp) (gd : X.A.guards = some []) (hr : Room k X.A) (hb : Binds X.K fd ps ds) (hd : Vals dvs ds)
    (hx : Passes CX X E) (I : Inv X pins σ H s) (r : Vals vs us) (h : sp (vs ++ dvs) H Q E) : wpAny (model X.prog X.w) X.A (call (.ref f) us) (EP X pins σ Q) X.xe s := by
  have r2 := r.append hd
  have many : (us ++ ds).length = ps.length := r2.length.symm.trans (F.arity _ _ _ _ h)
  apply wpAny_call
  refine codeAny_mono (F.go X.A X.stack s H ⟨us, []⟩ _ _ Q E gd hr I.env0 (hb s us I.kIn many) r2 h) ?_
  intro res s' got
  match res, got with
  | .error er, got => exact hx pins σ H s er s' I got
  | .ok (.ret u), got => exact I.after got
theorem pe_callG (F : FnG X.prog X.w X.K X.mg X.base CX k f fd ps sp) (gd : X.A.guards = some []) (hr : Room k X.A) (hg : Gl X x) (hm : X.mg x = some (.ref f)) (hk : PySem.W.keepIn X.K (.ref f) = true) (hb : Binds X.K fd ps ds) (hd : Vals dvs ds)
    (hx : Passes CX X E) (ha : PA X (e :: es) t) (hdb : (x == ("__debug__" : Str)) = false := by decide) (he : starEach (e :: es) X.env = (false, eval e X.env) :: starEach es X.env := by rfl)
    (hpl : (backTo pos (starEach es X.env)).any (·.1) = false := by rfl) : PE X (.Call (.Name x p) (e :: es) [] pos) (tCall sp dvs E t) := by
  constructor
  intro pins s σ H Q I h
  apply wpAny_Call_Name_kw
  apply ld_glob I hg hm _ hdb
  refine PySem.W.callWith_K (h₀ := X.base) I.ok.mod.kin hk (thn (ha.run pos pins s σ H _ I h) ?_) he hpl
  rintro us s1 ⟨vs, H1, I1, r, q⟩
  exact ⟨I1.kIn, runG F gd hr hb hd hx I1 r q⟩
end
end Wb

set_option Elab.async false
set_option linter.all false
set_option maxRecDepth 100000
set_option maxHeartbeats 4000000
/-! Wb1: the law's own call, guards told. -/
namespace Wb
open PySem PySem.Spec PyProof.Rows L2

/-- the law's def, promised where no repr runs, called from outside -/
theorem lawG {P : Program} {w : World} {K : PySem.W.Frag} {mg mb : Str → Option Value} {CX : CXT} {k : Nat} {fa a : Addr} {fd : FuncData} {x : Str} {sp : Sp} {st : Shared} {vs : List Value} {ns : List Int}
    (inK : K.In st.heap) (names : st.heap.Ns mainGlobals mg) (bns : st.heap.Ns builtinsNs mb) (boot : ∀ x : Str, x ≠ "__name__" → mb x = bootBuiltins x) (lim : st.heap.NoLimit) (nogen : st.gens = #[])
    (atA : st.heap.get? a = some { cls := .type "list", data := .seq vs.toArray }) (areInts : IntsAre vs ns) (short : ns.length ≤ sizeLine) (room : Room k callerA)
    (F : ∀ base : Heap, K.In base → base.Ns mainGlobals mg → FnG P w K mg base CX k fa fd [x] sp) (bind1 : ∀ (s : Shared) (u : Value), BindsTo s fd ⟨[u], []⟩ [(x, u)])
    (want : ∀ H : Hp, Only H → SqL K H a (ns.map V.int) → sp [.ref a] H (fun v _ => v = .bl true) fun _ _ _ => False)
    (noX : ∀ H e s', CX [] H st (fun _ _ _ => False) e s' → False) :
    codeAny (model P w) callerA (.call (.ref fa) ⟨[.ref a], []⟩) (fun r s' => r = .ok (.ret (.bool true)) ∧ OldK st.heap s'.heap ∧ s'.os = st.os ∧ AllBare s'.gens) st := by
  have rel := vals_ints areInts
  have same := areInts.length
  -- what is told of any abstract heap that tracks the script at most
  suffices go : ∀ H : Hp, Only H → SqL K H a (ns.map V.int) → HOk P w H st.heap → (∀ b, H b ≠ none → b = a) → (H a ≠ none → K.lookup a = none) →
      codeAny (model P w) callerA (.call (.ref fa) ⟨[.ref a], []⟩) (fun r s' => r = .ok (.ret (.bool true)) ∧ OldK st.heap s'.heap ∧ s'.os = st.os ∧ AllBare s'.gens) st by
    rcases own : K.lookup a with _ | ob
    · -- the script is tracked, as a thing that stands still
      let frozen : HO := .frz { cls := .type "list", data := .seq vs.toArray } (.lst (ns.map V.int))
      refine go (fun b => if b = a then some frozen else none) ?_ ?_ ?_ ?_ (fun _ => own)
      · intro b
        by_cases e : b = a
        · exact Or.inr ⟨_, _, if_pos e⟩
        · exact Or.inl (if_neg e)
      · exact Or.inl (Or.inr ⟨_, if_pos rfl⟩)
      · intro b u e
        by_cases h : b = a
        · subst h
          cases (if_pos rfl).symm.trans e
          exact ⟨atA, by simpa using short, vs, _, rel, atA⟩
        · cases (if_neg h).symm.trans e
      · intro b e
        by_cases h : b = a
        · exact h
        · exact absurd (if_neg h) e
    · -- the script is one of the module's own objects
      have there := inK a ob own
      rw [atA] at there
      cases there
      refine go (fun _ => none) (fun _ => Or.inl rfl) ?_ (fun b u e => ?_) (fun b e => absurd rfl e) (fun e => absurd rfl e)
      · exact Or.inr ⟨_, vs.toArray, _, own, rfl, rfl, rfl, by rw [List.size_toArray, same]; exact short, by simpa using rel⟩
      · have e' : (none : Option HO) = some u := e
        cases e'
  intro H only seq ok just notK
  have keepB : ∀ {b : Addr} {o : Obj}, st.heap.get? b = some o → H b = none → (hidT st.heap H).get? b = some o := fun e n => hidT_get e n
  have dictFree : ∀ {b : Addr} {o : Obj} {es : Array DictEntry} {ep : Nat}, st.heap.get? b = some o → o.data = .dict es ep → H b = none := by
    intro b o es ep e d
    by_cases q : H b = none
    · exact q
    · have h := just b q
      subst h
      rw [atA] at e
      cases e
      have d' : Data.seq vs.toArray _ = Data.dict es ep := d
      cases d'
  have nsIn : ∀ {b : Addr} {m : Str → Option Value}, st.heap.Ns b m → (hidT st.heap H).Ns b m := by
    rintro b m ⟨o, es, ep, e, d, r⟩
    exact ⟨o, es, ep, keepB e (dictFree e d), d, r⟩
  have inBase : K.In (hidT st.heap H) := by
    intro b o e
    refine keepB (inK b o e) ?_
    by_cases q : H b = none
    · exact q
    · have h := just b q
      subst h
      rw [notK q] at e
      cases e
  have md : Mod K mg (hidT st.heap H) := by
    obtain ⟨mc, l1, l2⟩ := lim
    exact ⟨inBase, nsIn names, ⟨mb, nsIn bns, boot⟩, ⟨mc, nsIn l1, l2⟩⟩
  have env0 : Env0 P w K mg (hidT st.heap H) callerA [] st H :=
    ⟨rfl, md, fun b o e => of_hidT e, Nat.le_of_eq (hidT_size _ _), trivial, fun b hb => absurd (show b ∈ ([] : List Addr) from hb) (by simp), ok, .of_eq nogen⟩
  have ran := (F _ inBase (nsIn names)).go callerA [] st H ⟨[.ref a], []⟩ [.ref a] [.ref a] _ _ rfl room env0 (bind1 st (.ref a)) (.cons rfl .nil) (want H only seq)
  refine codeAny_mono ran ?_
  intro r s' h
  match r, h with
  | .error e, h => exact (noX H e s' h).elim
  | .ok (.ret u), h =>
    obtain ⟨v, H', os, bare, un, ok', rv, q⟩ := h
    have q' : v = .bl true := q
    subst q'
    obtain rfl : u = Value.bool true := rv
    refine ⟨rfl, OldK.of_keep ?_, os, bare⟩
    intro b o e
    by_cases q : H b = none
    · exact un.keep b o e q (fun z => absurd (show b ∈ ([] : List Addr) from z) (by simp)) (by simp)
    · rcases only b with z | ⟨ob, xs, z⟩
      · exact absurd z q
      · obtain ⟨e1, _⟩ := ok b _ z
        obtain ⟨e2, _⟩ := ok' b _ (un.frzs b ob _ z)
        rw [e] at e1
        cases e1
        exact e2

/-- the goal that the head leaves, from such a promise of the law's def -/
theorem walkG {l : PySem.W.OpenLaw} {n k : Nat} {q : Program} {loose : List Str} {XP : (Str → Option Value) → Heap → Prop} {YP : World → Heap → Prop} {d : DefRec} {K : Params → PySem.W.Frag} {CX : World → CXT} {sp : World → Sp} {x : Str}
    (h1 : l.most = some n) (h2 : n ≤ sizeLine) (h3 : d.params.defaults = []) (room : Room k callerA) (hY : ∀ (w : World) (h : Heap), YP w h → (K w.params).In h)
    (F : ∀ (w : World) (mg : Str → Option Value) (fa : Addr) (h : Heap), (K w.params).In h → h.Ns mainGlobals mg → mg d.name = some (.ref fa) →
      ∃ fd : FuncData, (∀ (s : Shared) (u : Value), BindsTo s fd ⟨[u], []⟩ [(x, u)]) ∧
        ∀ base : Heap, (K w.params).In base → base.Ns mainGlobals mg → FnG l.prog w (K w.params) mg base (CX w) k fa fd [x] (sp w))
    (want : ∀ (w : World) (H : Hp) (a : Addr) (ns : List Int), ns.length ≤ n → Only H → SqL (K w.params) H a (ns.map V.int) → sp w [.ref a] H (fun v _ => v = .bl true) fun _ _ _ => False)
    (noX : ∀ (w : World) (H : Hp) (s : Shared) (e : Value) (s' : Shared), CX w [] H s (fun _ _ _ => False) e s' → False) :
    PySem.W.WalkO q loose XP YP l.row.toRowW d [] (fun f vs => PySem.call f vs) := by
  apply Att.attach_call h1 h3
  intro w s₀ s₁ mg mb fa o pm cd doc a vs ns G Y ho hd hcd hmg hobj hints hlen hg
  have inK := hY w _ Y
  obtain ⟨fd, hb, hF⟩ := F w mg fa _ inK G.T.g hmg
  exact lawG inK G.T.g G.T.b G.T.builtins G.T.nolimit hg hobj hints (Nat.le_trans hlen h2) room hF hb (fun H hO hS => want w H a ns hlen hO hS) fun H e s' => noX w H s₁ e s'
end Wb

set_option Elab.async false
set_option linter.all false
set_option maxRecDepth 100000
set_option maxHeartbeats 4000000
/-! Wb2: own exceptions as values: made (by position and by name), their field read, isinstance. -/
namespace PySem
namespace WbE
open PySem.W PySem.Calls PyProof.Rows
section
variable {prog : Program} {w : World} {M : Model} {A : Around} {E : Value → Shared → Prop} {R : Result → Shared → Prop} {h : Heap} {g : Array GenState} {d : Drawn} {t : Nat} {os : OsState}
variable {nm q : Str} {C N : Addr} {bs bm bmB : List Value} {hdct : Bool} {sn : List Str} {sub : List Value} {ab : Bool} {col : Option Bool} {dd : Option Addr} {k0 k1 k2 k3 k5 : Option Value} {B newId initId : String}
variable {rest : List Value} {kw : List (Str × Value)}

/-- what is asked of the class's chain: the built-in base is in it, the two bases with members of their own are not -/
structure Chain (bm : List Value) (B : String) : Prop where
  base : bm.contains (.type B) = true
  noA : bm.contains (.type "AttributeError") = false
  noN : bm.contains (.type "NameError") = false

theorem checkNew (F : ExcBaseFacts B newId initId bmB) (ch : Chain bm B) {Q : Unit → Shared → Prop} (atC : h.get? C = some (excClassObj nm q C N bs bm hdct sn sub ab col dd k0 k1 k2 k3 k5 newId))
    (hq : Q () ⟨h, g, d, t, os⟩) : wpAny M A (checkBuiltinCall newId ⟨.ref C :: rest, kw⟩) Q E ⟨h, g, d, t, os⟩ := by
  have inB : (Value.ref C :: bm).contains (.type B) = true := by
    rw [List.contains_cons, ch.base, Bool.or_true]
  have star := F.noStar
  simp only [checkBuiltinCall, F.newKind, F.newSplit, F.newRow]
  repeat (first
    | refine wpAny_loadPart_at atC ?_
    | (refine wpAny_isSubtype_exc atC ?_; rw [inB])
    | refine wpAny_staticBase_exc atC ?_
    | refine wpAny_madeBy_exc atC ?_
    | simp only [bne_self_eq_false, Bool.false_eq_true, if_false]
    | wp_step)
  exact hq

theorem runNew (F : ExcBaseFacts B newId initId bmB) (ch : Chain bm B) (atC : h.get? C = some (excClassObj nm q C N bs bm hdct sn sub ab col dd k0 k1 k2 k3 k5 newId)) (short : rest.length ≤ sizeLine)
    (hq : R (.ok (.ret (.ref (h.objs.size + 1)))) ⟨(h.push (W.kdv_tup rest)).push (HandSPX.excO C h.objs.size), g, d, t, os⟩) :
    codeAny (model prog w) A (.builtin newId ⟨.ref C :: rest, kw⟩) R ⟨h, g, d, t, os⟩ := by
  have ends := F.ends
  have inB : (Value.ref C :: bm).contains (.type B) = true := by
    rw [List.contains_cons, ch.base, Bool.or_true]
  have outA : (Value.ref C :: bm).contains (.type "AttributeError") = false := by
    rw [List.contains_cons, ch.noA]
    rfl
  have outN : (Value.ref C :: bm).contains (.type "NameError") = false := by
    rw [List.contains_cons, ch.noN]
    rfl
  refine codeAny_builtinAt F.entry ?_
  unfold Builtin.«BaseException.__new__»
  apply wpAt_bind
  show wpAt _ _ _ (stack >>= _) _ _ _
  apply wpAt_bind
  apply wpAt_stack
  intro p below
  apply wpAt_of_wpAny
  wp_walk
  apply wpAt_of_wpAny
  rw [F.owner]
  repeat (first
    | with_reducible refine wpAny_madeHere_exc F.canon atC ?_
    | with_reducible refine wpAny_loadPart_at atC ?_
    | (with_reducible refine wpAny_isSubtype_exc atC ?_; first | rw [inB] | rw [outA] | rw [outN])
    | wp_step)
  show R _ _
  rw [Heap.size_push]
  exact hq

theorem runCall (F : ExcBaseFacts B newId initId bmB) (ch : Chain bm B) {iv : Value} {Q : Fin → Shared → Prop} (atC : h.get? C = some (excClassObj nm q C N bs bm hdct sn sub ab col dd k0 k1 k2 k3 k5 newId))
    (lk : W.Looks (model prog w) h (typeLookup (.ref C) "__init__") (some iv)) (bd : ∀ self, W.Looks (model prog w) h (bindSpecial iv self) (iv, [self])) (short : rest.length ≤ sizeLine)
    (hq : codeAny (model prog w) A (.call iv ⟨.ref (h.objs.size + 1) :: rest, kw⟩)
      (fun r s' => match r with
        | .ok (.ret v) => v = .none ∧ Q (.done (.ret (.ref (h.objs.size + 1)))) s'
        | .ok _ => False
        | .error e => E e s')
      ⟨(h.push (W.kdv_tup rest)).push (HandSPX.excO C h.objs.size), g, d, t, os⟩) :
    wpAny (model prog w) A (Builtin.«type.__call__» ⟨.ref C :: rest, kw⟩) Q E ⟨h, g, d, t, os⟩ := by
  repeat (first
    | with_reducible refine wpAny_loadPart_at atC ?_
    | with_reducible refine wpAny_madeBy_exc atC ?_
    | wp_step)
  refine codeAny_call_builtin_code (Code.quiet_builtin _ F.quiet) (checkNew F ch atC ?_)
  refine runNew F ch atC short ?_
  show wpAny _ _ _ _ _ _
  have grown : ∀ b o, h.get? b = some o → ((h.push (W.kdv_tup rest)).push (HandSPX.excO C h.objs.size)).get? b = some o :=
    fun b o e => Heap.get?_push_of_some _ (Heap.get?_push_of_some _ e)
  have atC1 := grown _ _ atC
  have made : ((h.push (W.kdv_tup rest)).push (HandSPX.excO C h.objs.size)).get? (h.objs.size + 1) = some (HandSPX.excO C h.objs.size) := by heap_get
  have self_ : (Value.ref C :: bm).contains (.ref C) = true := by simp
  have lk1 := lk.keeps grown
  have bd1 := (bd (.ref (h.objs.size + 1))).keeps grown
  unfold isInstance
  repeat (first
    | with_reducible refine wpAny_loadPart_at made ?_
    | (with_reducible refine wpAny_isSubtype_exc atC1 ?_; rw [self_])
    | wp_step)
  show wpAny _ _ (typeLookup (.ref C) _) _ _ _
  refine lk1.at ?_
  refine wpAny_holding (wpAny_bind (bd1.at ?_))
  apply wpAny_bind
  refine wpAny_call (codeAny_mono hq ?_)
  intro r s' z
  match r, z with
  | .error e, z => exact z
  | .ok (.ret v), z =>
    obtain ⟨rfl, z⟩ := z
    first
      | exact wpAny_pure (wpAny_pure z)
      | (wp_walk; exact z)

theorem callE (F : ExcBaseFacts B newId initId bmB) (ch : Chain bm B) {iv : Value} (atC : h.get? C = some (excClassObj nm q C N bs bm hdct sn sub ab col dd k0 k1 k2 k3 k5 newId))
    (lk : W.Looks (model prog w) h (typeLookup (.ref C) "__init__") (some iv)) (bd : ∀ self, W.Looks (model prog w) h (bindSpecial iv self) (iv, [self])) (short : rest.length ≤ sizeLine)
    (hq : codeAny (model prog w) (A.under (.builtin "type.__call__" ⟨.ref C :: rest, kw⟩)) (.call iv ⟨.ref (h.objs.size + 1) :: rest, kw⟩) (W.InitBack (h.objs.size + 1) R)
      ⟨(h.push (W.kdv_tup rest)).push (HandSPX.excO C h.objs.size), g, d, t, os⟩) :
    codeAny (model prog w) A (.call (.ref C) ⟨rest, kw⟩) R ⟨h, g, d, t, os⟩ := by
  have e1 := tc_lookup
  have e2 := tc_bind (.ref C)
  have isT : (⟨h, g, d, t, os⟩ : Shared).TypeIs (.ref C) "type" := ⟨_, atC, rfl⟩
  apply codeAny_of_tree
  show wpAny _ _ (callAny (.ref C) _) _ _ _
  repeat (any_goals (first
    | assumption
    | with_reducible refine wpAny_loadPart_at atC ?_
    | wp_step))
  refine ⟨rfl, ?_⟩
  refine codeAny_call_builtin_at (Code.quiet_builtin _ (by decide +kernel)) entry_typeCall ?_
  refine wpAny_check_type_call_sub atC ?_
  refine runCall F ch atC lk bd short (codeAny_mono hq ?_)
  intro r s' z
  match r, z with
  | .error e, z => exact z
  | .ok (.ret v), z => exact z
end
end WbE
end PySem

set_option Elab.async false
set_option linter.all false
set_option maxRecDepth 100000
set_option maxHeartbeats 4000000
/-! Wb3: own exceptions as tracked values. -/
namespace PySem.F
theorem storeKeyError : StoreFacts "KeyError"
    [.type "KeyError", .type "LookupError", .type "Exception", .type "BaseException", .type "object"]
    "object.__setattr__" "object" := by
  refine ⟨by kernel_rfl, ?_, entry_object_sa, by decide +kernel, by decide +kernel, by decide +kernel, ?_, fun _ => by kernel_rfl⟩
  · refine .of (owner := "object") (n := "__setattr__") ?_ (by decide +kernel) (by decide +kernel) (by decide +kernel) ?_ ?_
    · rw [typeLookup_type, builtinLookup_eq_fast]
      kernel_rfl
    · first
        | exact .inl (by decide +kernel)
        | exact .inr (by decide +kernel)
    · rw [isSubtype_type]
      kernel_rfl
  · intro a b c
    unfold argsOk
    kernel_rfl
end PySem.F
namespace PySem
namespace WbE
open PySem.W PySem.Calls PyProof.Rows
section
open Builtin Builtin.ObjectAttr
variable {prog : Program} {w : World} {A : Around} {R : Result → Shared → Prop} {hp : Heap} {g : Array GenState} {d : Drawn} {t : Nat} {os : OsState}
/-- the first field of an exception of an own class, whatever its built-in base -/
theorem setFirst {S : String} {bmS : List Value} {K : W.Frag} {name : Str} {tk : Tok} {v : Value} {x C : Addr} {fv : Array Value} {cd : ClassData} (SF : StoreFacts S bmS "object.__setattr__" "object")
    (X : K.In hp) (hx : hp.get? x = some { cls := .ref C, data := .fields fv }) (hcd : W.clsIn K C = some cd) (hd : cd.hasDict = true) (over : excOver K C bmS = true) (no : W.findIn K (.ref C) name = some none)
    (hq : ∀ h' tk' dx, (∀ b o, b ≠ x → hp.get? b = some o → h'.get? b = some o) → hp.objs.size ≤ dx → dx ≠ x →
      h'.get? x = some { cls := .ref C, dict := some dx, data := .fields fv } → h'.Ns1 dx (fun y => if y = name then some v else none) → R (.ok (.ret .none)) ⟨h', g, d, tk', os⟩) :
    codeAny (model prog w) A (.call (.builtin "object.__setattr__") ⟨[.ref x, .str name tk, v], []⟩) R ⟨hp, g, d, t, os⟩ := by
  have at_ : W.InstAt hp x { cls := .ref C, data := .fields fv } C none := ⟨hx, rfl, rfl, trivial⟩
  have ne : x ≠ hp.objs.size := Nat.ne_of_lt (Heap.lt_size hx)
  have look : W.Looks (model prog w) hp (classData C) cd := W.looks_clsIn X hcd
  have taker : W.takerIn K C name = some none := by
    unfold W.takerIn
    rw [no]
    rfl
  refine W.osa_openX (s := ⟨hp, g, d, t, os⟩) SF X at_ over taker fun b => ?_
  obtain ⟨c1, c2, c3, c4, c5, hasD, c7, c8, c9, c10, c11⟩ := cd
  dsimp only at hd
  subst hd
  unfold storeInOwnDict ownDictForStores
  repeat (first
    | with_reducible refine HandSPX.store_in_new ?_ ?_
    | with_reducible refine wpAny_loadPart_at hx ?_
    | with_reducible refine look.at ?_
    | wp_step)
  · exact ⟨_, #[], _, (Heap.get?_update_ne _ _ _ _ ne.symm).trans (Heap.get?_push_at rfl rfl), rfl, fun e he => absurd he (by simp), fun _ => rfl⟩
  · intro h' tk' ns' same
    have pushed : (hp.push { cls := .type "dict", data := .dict #[] }).get? x = some { cls := .ref C, data := .fields fv } := Heap.get?_push_of_some _ hx
    refine hq h' tk' hp.objs.size ?_ (Nat.le_refl _) ne.symm ?_ ns'
    · intro b o hb ho
      rw [same.2 b (Nat.ne_of_lt (Heap.lt_size ho)), Heap.get?_update_ne _ _ _ _ hb]
      exact Heap.get?_push_of_some _ ho
    · rw [same.2 x ne]
      exact Heap.get?_update_self _ pushed rfl
end
end WbE
end PySem

namespace Wb
open PySem PySem.Spec PyProof.Rows L2
/-- what the written part says of an own exception's class at C: made by newId (of the built-in B), the fields stored as S's chain stores them -/
structure ErrC (K : PySem.W.Frag) (C : Addr) : Prop where
  new : ∃ (B newId initId : String) (bmB : List Value) (nm q : Str) (N : Addr) (bs bm : List Value) (sn : List Str) (sub : List Value) (ab : Bool) (col : Option Bool) (dd : Option Addr) (k0 k1 k2 k3 k5 : Option Value),
    PySem.ExcBaseFacts B newId initId bmB ∧ PySem.WbE.Chain bm B ∧ K.lookup C = some (excClassObj nm q C N bs bm true sn sub ab col dd k0 k1 k2 k3 k5 newId)
  store : ∃ (S : String) (bmS : List Value), PySem.StoreFacts S bmS "object.__setattr__" "object" ∧ PySem.W.excOver K C bmS = true
  sa : PySem.W.findIn K (.ref C) "__setattr__" = some (some (.builtin "object.__setattr__"))
  ga : PySem.W.findIn K (.ref C) "__getattribute__" = some (some (.builtin "BaseException.__getattribute__"))
  gg : PySem.W.findIn K (.ref C) "__getattr__" = some none
  exc : PySem.W.subIn K (.ref C) (.type "BaseException") = some true
  ty : PySem.W.typeIn K (.ref C) = some (.type "type")
  hd : PySem.W.hasDictIn K C = true
  kp : PySem.W.keepIn K (.ref C) = true
  hc : PySem.W.findIn K (.ref C) "__class__" = some (some (.builtin "object.__class__"))
  hn : PySem.W.specialIn K (.builtin "object.__class__") "__get__" = some (some (.builtin "getset_descriptor.__get__"))
  ht : PySem.W.takesIn K (.builtin "object.__class__") = some true
  hm : PySem.W.mroIn K C (.type "object") = some true

section
variable {X : Cx} {pins : List (Addr × Obj)} {σ : L2.St} {H : Hp} {s : Shared} {a C dx fI : Addr} {f : Str} {y v : V} {u : Value} {fs : List (Str × V)} {A : Around} {k : Nat}
/-- self.f = y in an __init__, the first field -/
theorem setNew {Q : Unit → Shared → Prop} {E : Value → Shared → Prop} (T : ErrC X.K C) (I : Inv X pins σ H s) (e : H a = some (exo a C none)) (no : PySem.W.findIn X.K (.ref C) f = some none) (ry : RelV y u)
    (h : ∀ dx s', H dx = none → dx ≠ a → Inv X pins σ (upd (upd H dx (exd dx [(f, y)])) a (exo a C (some dx))) s' → Q () s') : wpAny (model X.prog X.w) A (setAttr (.ref a) f u) Q E s := by
  obtain ⟨B, newId, initId, bmB, nm, q, N, bs, bm, sn, sub, ab, col, dd, k0, k1, k2, k3, k5, _, _, atC⟩ := T.new
  obtain ⟨S, bmS, SF, over⟩ := T.store
  have cls : PySem.W.clsIn X.K C = some { name := nm, bases := bs, mro := .ref C :: bm, ns := N, qualname := q, hasDict := true, slotNames := sn, subclasses := sub, abstract := ab, collection := col, hasDel := false } := by
    unfold PySem.W.clsIn
    rw [atC] <;> rfl
  obtain ⟨t1, ho⟩ := exo_at I.hok e
  obtain ⟨hp, g, d, t, os⟩ := s
  refine PySem.W.set_plain I.kIn (ox := { cls := .ref C, dict := none, data := .fields #[.ref t1, .none, .none, .none, .bool false, .none] }) (od := none) ⟨ho, rfl, rfl, trivial⟩ T.sa ?_
  refine PySem.WbE.setFirst SF I.kIn ho cls rfl over no ?_
  intro h' tk' dx kept big ne hx ns'
  have free : H dx = none := I.hok.fresh big
  have old : ∀ {b : Addr} {o : Obj}, hp.get? b = some o → b ≠ dx := fun {b o} z => Nat.ne_of_lt (Nat.lt_of_lt_of_le (Heap.lt_size z) big)
  have notA : ∀ {b : Addr}, H b = none → b ≠ a := by
    intro b n z
    rw [z, e] at n
    cases n
  have un : Un X.fs [] H (upd (upd H dx (exd dx [(f, y)])) a (exo a C (some dx))) hp h' := by
    constructor
    · exact fun b o z n _ _ => kept b o (notA n) z
    · exact fun b o z n _ _ => ⟨o.slots, kept b o (notA n) z⟩
    · intro b o z n _
      rw [upd_ne (notA n), upd_ne (old z)]
      exact n
    · intro b o z _
      by_cases hb : b = a
      · exact ⟨_, by rw [hb]; exact hx⟩
      · exact ⟨o, kept b o hb z⟩
    · intro b xs z
      rw [upd_ne (at_ne e z exo_tup), upd_ne (ne_of_none z free)]
      exact z
    · intro b o w z
      rw [upd_ne (at_ne e z exo_frz), upd_ne (ne_of_none z free)]
      exact z
    · intro b ps z
      refine ⟨#[], ?_⟩
      rw [upd_ne (at_ne e z exo_tbl), upd_ne (ne_of_none z free), z]
      simp
  refine h dx _ free ne (I.un (t' := tk') un ?_)
  intro b o z
  by_cases hb : b = a
  · subst hb
    rw [upd_same] at z
    cases z
    exact exo_ok hx
  rw [upd_ne hb] at z
  by_cases hb2 : b = dx
  · subst hb2
    rw [upd_same] at z
    cases z
    exact exd_ok ns' (relO_put (fs := []) ry fun g => True.intro)
  rw [upd_ne hb2] at z
  refine (I.hok b o z).stay ?_ ?_ ?_
  · intro c w hc z2
    refine kept c w ?_ z2
    rcases hc with hc | hc
    · rw [hc]; exact hb
    · exact at_ne e hc exo_own
  · intro c hc
    rw [upd_ne (at_ne e hc exo_own), upd_ne (ne_of_none hc free)]
    exact hc
  · intro c xs hc
    rw [upd_ne (at_ne e hc exo_tup), upd_ne (ne_of_none hc free)]
    exact hc

/-- C(..), C(k = ..) with C's own __init__: an exception at a new address -/
theorem runErr {CX : CXT} {fd : FuncData} {ps : List Str} {sp : Sp} {us : List Value} {kw : List (Str × Value)} {vs : List V} {binds : List Value} {Q : VK} (T : ErrC X.K C) (iC : PySem.W.findIn X.K (.ref C) "__init__" = some (some (.ref fI)))
    (tI : PySem.W.typeIn X.K (.ref fI) = some (.type "function")) (F1 : FnOk X.prog X.w X.K X.mg X.base CX k fI fd ps sp) (room : Room (k + 1) X.A) (hx : Passes CX X (fun _ _ _ => False)) (I : Inv X pins σ H s) (short : us.length ≤ sizeLine)
    (bind : ∀ (s' : Shared) (a : Addr), X.K.In s'.heap → BindsTo s' fd ⟨.ref a :: us, kw⟩ (ps.zip (.ref a :: binds))) (rel : Vals vs binds)
    (h : ∀ a, H a = none → sp (.ref a :: vs) (upd H a (exo a C none)) (fun v H2 => v = .non ∧ Q (.ref a) H2) (fun _ _ _ => False)) :
    wpAny (model X.prog X.w) X.A (call (.ref C) us kw) (EP X pins σ Q) X.xe s := by
  obtain ⟨B, newId, initId, bmB, nm, q, N, bs, bm, sn, sub, ab, col, dd, k0, k1, k2, k3, k5, FB, ch, atC⟩ := T.new
  obtain ⟨hp, g, dr, tk, os⟩ := s
  have le1 : hp.objs.size ≤ hp.objs.size + 1 := Nat.le_succ _
  have free : H (hp.objs.size + 1) = none := I.hok.fresh le1
  have want := h _ free
  have grown : ∀ b o, hp.get? b = some o → ((hp.push (PySem.W.kdv_tup us)).push (PySem.HandSPX.excO C hp.objs.size)).get? b = some o :=
    fun b o e => Heap.get?_push_of_some _ (Heap.get?_push_of_some _ e)
  have made : ((hp.push (PySem.W.kdv_tup us)).push (PySem.HandSPX.excO C hp.objs.size)).get? (hp.objs.size + 1) = some (PySem.HandSPX.excO C hp.objs.size) := by heap_get
  have I2 : Inv X pins σ (upd H (hp.objs.size + 1) (exo (hp.objs.size + 1) C none)) ⟨(hp.push (PySem.W.kdv_tup us)).push (PySem.HandSPX.excO C hp.objs.size), g, dr, tk, os⟩ :=
    I.laid (t' := tk) (a := hp.objs.size + 1) (o := exo (hp.objs.size + 1) C none) (h' := (hp.push (PySem.W.kdv_tup us)).push (PySem.HandSPX.excO C hp.objs.size)) grown le1 (exo_ok made)
  have rel2 : Vals (V.ref (hp.objs.size + 1) :: vs) (Value.ref (hp.objs.size + 1) :: binds) := .cons rfl rel
  apply wpAny_call
  refine PySem.WbE.callE (iv := .ref fI) FB ch (I.kIn _ _ atC) (PySem.W.looks_findIn I.kIn iC) (fun self => PySem.W.bind_fn I.kIn self tI) short ?_
  refine codeAny_mono (F1.run _ X.stack _ _ ⟨Value.ref (hp.objs.size + 1) :: us, kw⟩ (Value.ref (hp.objs.size + 1) :: binds) _ _ (fun _ _ _ => False) (room.make C us kw) (I2.env0.make C us kw) (bind _ _ I2.kIn) rel2 want) ?_
  intro r s' got
  match r, got with
  | .error er, got => exact hx pins σ _ _ er s' I2 got
  | .ok (.ret u), got =>
    obtain ⟨v, H', I3, rv, ev, q3⟩ := I2.after got
    subst ev
    exact ⟨rv, ⟨V.ref (hp.objs.size + 1), H', I3, rfl, q3⟩⟩
end
end Wb

set_option Elab.async false
set_option linter.all false
set_option maxRecDepth 100000
set_option maxHeartbeats 4000000
/-! Wb4: the rules over them. -/
namespace Wb
open PySem PySem.Spec PyProof.Rows L2

theorem upd_mid {H : Hp} {a d : Addr} {o p q : HO} : upd (upd (upd H a o) d p) a q = upd (upd H d p) a q := by
  funext b
  unfold upd
  by_cases h : b = a
  · rw [if_pos h, if_pos h]
  · rw [if_neg h, if_neg h]
    by_cases h2 : b = d
    · rw [if_pos h2, if_neg h]
    · rw [if_neg h2, if_neg h]

/-- self.f = e of an exception's __init__ -/
def tIni (K : PySem.W.Frag) (f : Str) (to te : TE) : TS := fun D σ H => te σ H fun y H1 => to σ H1 fun x H2 =>
  ∃ a C : Addr, x = .ref a ∧ ErrC K C ∧ PySem.W.findIn K (.ref C) f = some none ∧ H2 a = some (exo a C none) ∧
    ∀ dx, H2 dx = none → dx ≠ a → D.nx σ (upd (upd H2 dx (exd dx [(f, y)])) a (exo a C (some dx)))
/-- err.f -/
def tEFld (K : PySem.W.Frag) (f : Str) (to : TE) : TE := fun σ H Q => to σ H fun x H1 =>
  ∃ (a C dx : Addr) (fs : List (Str × V)) (v : V), x = .ref a ∧ H1 a = some (exo a C (some dx)) ∧ H1 dx = some (exd dx fs) ∧ ErrC K C ∧ PySem.W.findIn K (.ref C) f = some none ∧ fs.lookup f = some v ∧ Q v H1
/-- isinstance(err, c) -/
def rIsErr (K : PySem.W.Frag) : List V → Hp → VK → Prop := fun xs H Q =>
  ∃ (a C : Addr) (od : Option Addr) (c : V) (cu : Value) (b : Bool), xs = [.ref a, c] ∧ H a = some (exo a C od) ∧ (∀ dx, od = some dx → ∃ fs, H dx = some (exd dx fs)) ∧ ErrC K C ∧ ClsV c cu ∧
    PySem.W.kitOne K (.ref C) cu = some b ∧ Q (.bl b) H
/-- C(v): an exception at a, its dict at dx -/
def tErr (C : Addr) (f : Str) (ta : TA) : TE := fun σ H Q => ta σ H fun vs H1 =>
  ∃ v, vs = [v] ∧ ∀ a dx, H1 a = none → H1 dx = none → dx ≠ a → Q (.ref a) (upd (upd H1 dx (exd dx [(f, v)])) a (exo a C (some dx)))
/-- the same, to be raised -/
def tErrX (C : Addr) (f : Str) (ta : TA) : L2.St → Hp → XK → Prop := fun σ H Q => ta σ H fun vs H1 =>
  ∃ v, vs = [v] ∧ ∀ dx, H1 dx = none → Q (.ref C) (some dx) (upd H1 dx (.xd [(f, v)]))
/-- __init__(self, f): self.f = f -/
def spIni (C : Addr) (f : Str) : Sp := fun vs H Q _ => ∃ (a : Addr) (v : V), vs = [.ref a, v] ∧ H a = some (exo a C none) ∧
  ∀ dx, H dx = none → dx ≠ a → Q .non (upd (upd H dx (exd dx [(f, v)])) a (exo a C (some dx)))
/-- __init__(self): pass -/
def spIni0 : Sp := fun vs H Q _ => ∃ a : Addr, vs = [.ref a] ∧ Q .non H

section
variable {X : Cx} {o e : Expr} {es : List Expr} {kws : List Keyword} {to te : TE} {ta : TA} {f x : Str} {p p' pos : Pos} {C fI : Addr} {fd : FuncData} {CX : CXT} {k : Nat}
theorem ps_ini (ho : PE X o to) (he : PE X e te) (hs : swapsWith e (some (.Attribute o f p')) pos.line X.env = pure false := by rfl) : PS X (.Assign [.Attribute o f p'] e pos) (tIni X.K f to te) := by
  constructor
  intro pins s σ H D I h
  refine plainObj_wpAny_Assign_Attribute (thn (he.run pins s σ H _ I h) ?_) hs
  rintro v s1 ⟨y, H1, I1, ry, q1⟩
  refine thn (ho.run pins s1 σ H1 _ I1 q1) ?_
  rintro u s2 ⟨x, H2, I2, rx, a, C, rfl, T, no, ea, q⟩
  obtain rfl : u = Value.ref a := rx
  exact setNew T I2 ea no ry fun dx s' n ne J => ⟨σ, _, J, q dx n ne⟩

theorem readErr {pins : List (Addr × Obj)} {σ : L2.St} {H : Hp} {s : Shared} {a dx : Addr} {fs : List (Str × V)} {v : V} {b : Bool} {A : Around} {Q : Value → Shared → Prop} {E : Value → Shared → Prop} (T : ErrC X.K C) (I : Inv X pins σ H s) (ea : H a = some (exo a C (some dx)))
    (ed : H dx = some (exd dx fs)) (no : PySem.W.findIn X.K (.ref C) f = some none) (l : fs.lookup f = some v) (h : ∀ u t', RelV v u → Q u { s with toks := t' }) : wpAny (model X.prog X.w) A (getAttr (.ref a) f b) Q E s := by
  obtain ⟨t1, ho⟩ := exo_at I.hok ea
  obtain ⟨mA, hns, rel⟩ := exd_at I.hok ed
  obtain ⟨od, hod, look⟩ := lookIn_ns hns
  obtain ⟨u, hu, ru⟩ := RelO.some_of (v := v) (o := mA f) (by rw [← l]; exact rel f)
  exact PySem.HandSPX.exc_get (od := some od) I.kIn ⟨ho, rfl, rfl, hod⟩ T.ga T.gg T.exc (PySem.W.findObj_own T.hd no rfl (by rw [look, hu])) (handed_of ru) (h u _ ru)

theorem pe_efld (ho : PE X o to) (hb : attributeBase o f X.env (eval o X.env) = eval o X.env := by rfl) : PE X (.Attribute o f pos) (tEFld X.K f to) := by
  constructor
  intro pins s σ H Q I h
  refine attr_of hb (thn (ho.run pins s σ H _ I h) ?_)
  rintro u s1 ⟨x, H1, I1, rx, a, C, dx, fs, v, rfl, ea, ed, T, no, l, q⟩
  obtain rfl : u = Value.ref a := rx
  exact readErr T I1 ea ed no l fun w t' rw' => ⟨v, H1, I1.tok t', rw', q⟩

theorem call_isErr : CallR X (.builtin "isinstance") (rIsErr X.K) := by
  intro pins s σ H xs us Q I r h
  obtain ⟨a, C, od, c, cu, b, rfl, ea, hod, T, kc, ek, q⟩ := h
  obtain ⟨u1, u2, rfl, r1, r2⟩ := vals2 r
  obtain rfl : u1 = Value.ref a := r1
  have e2 := kc.eq r2
  subst e2
  obtain ⟨t1, ho⟩ := exo_at I.hok ea
  have cls : (PySem.W.clsIn X.K C).isSome = true := by
    obtain ⟨cd, hcd, _⟩ := PySem.W.any_some T.hd
    rw [hcd]
    rfl
  have fin : ∀ tk, EP X pins σ Q (.bool b) { s with toks := tk } := fun tk => ⟨.bl b, H, I.tok tk, rfl, q⟩
  cases od with
  | none =>
    exact PySem.W.kia_one (PySem.W.kitx_exc (od := none) cls T.ga T.gg T.exc T.hc T.hn T.ht T.hm) I.kIn (⟨ho, rfl, rfl, trivial⟩ : PySem.W.InstAt s.heap a _ C none) ek (fun z => nomatch z) fin
  | some dx =>
    obtain ⟨fs, ed⟩ := hod dx rfl
    obtain ⟨mA, hns, _⟩ := exd_at I.hok ed
    obtain ⟨od, hod, _⟩ := lookIn_ns hns
    exact PySem.W.kia_one (PySem.W.kitx_exc (od := some od) cls T.ga T.gg T.exc T.hc T.hn T.ht T.hm) I.kIn (⟨ho, rfl, rfl, hod⟩ : PySem.W.InstAt s.heap a _ C (some od)) ek (fun z => nomatch z) fin

/-- C(e) -/
theorem pe_err (T : ErrC X.K C) (iC : PySem.W.findIn X.K (.ref C) "__init__" = some (some (.ref fI))) (tI : PySem.W.typeIn X.K (.ref fI) = some (.type "function")) {ps : List Str} (F1 : FnOk X.prog X.w X.K X.mg X.base CX k fI fd ps (spIni C f)) (room : Room (k + 1) X.A)
    (hb : Binds X.K fd ps []) (hx : Passes CX X (fun _ _ _ => False)) (hg : Gl X x) (hm : X.mg x = some (.ref C)) (ha : PA X (e :: es) ta) (hdb : (x == ("__debug__" : Str)) = false := by decide)
    (he : starEach (e :: es) X.env = (false, eval e X.env) :: starEach es X.env := by rfl) (hpl : (backTo pos (starEach es X.env)).any (·.1) = false := by rfl) : PE X (.Call (.Name x p) (e :: es) [] pos) (tErr C f ta) := by
  constructor
  intro pins s σ H Q I h
  apply wpAny_Call_Name_kw
  apply ld_glob I hg hm _ hdb
  refine PySem.W.callWith_K (h₀ := X.base) I.ok.mod.kin T.kp (thn (ha.run pos pins s σ H _ I h) ?_) he hpl
  rintro us s1 ⟨vs, H1, I1, r1, v, rfl, q⟩
  refine ⟨I1.kIn, ?_⟩
  show wpAny _ _ (call (.ref C) us) _ _ _
  have want : ∀ a : Addr, H1 a = none → spIni C f (.ref a :: [v]) (upd H1 a (exo a C none)) (fun v H2 => v = .non ∧ Q (.ref a) H2) (fun _ _ _ => False) := by
    intro a ha
    refine ⟨a, v, rfl, upd_same, fun dx hd ne => ⟨rfl, ?_⟩⟩
    rw [upd_mid]
    rw [upd_ne ne] at hd
    exact q a dx ha hd ne
  have many : ∀ a : Addr, (Value.ref a :: us).length = ps.length := by
    intro a
    obtain ⟨n0, hn0⟩ : ∃ n0, H1 n0 = none := ⟨s1.heap.objs.size, I1.hok.fresh (Nat.le_refl _)⟩
    have e1 := F1.len _ _ _ _ (want n0 hn0)
    have e2 := r1.length
    simp only [List.length_cons] at e1 e2 ⊢
    omega
  refine runErr T iC tI F1 room hx I1 (binds := us) (vs := [v]) ?_ ?_ r1 want
  · rw [← r1.length, sizeLine_eq]
    simp
  · intro s' a inK
    have q2 := hb s' (.ref a :: us) inK (by rw [List.append_nil]; exact many a)
    rw [List.append_nil] at q2
    exact q2

/-- C(f = e) -/
theorem pe_errK {g : Str} {kpos : Pos} (T : ErrC X.K C) (iC : PySem.W.findIn X.K (.ref C) "__init__" = some (some (.ref fI))) (tI : PySem.W.typeIn X.K (.ref fI) = some (.type "function")) {s0 : Str} (F1 : FnOk X.prog X.w X.K X.mg X.base CX k fI fd [s0, g] (spIni C f)) (room : Room (k + 1) X.A)
    (hb : ∀ (s' : Shared) (a v : Value), BindsTo s' fd ⟨[a], [(g, v)]⟩ [(s0, a), (g, v)]) (hx : Passes CX X (fun _ _ _ => False)) (hg : Gl X x) (hm : X.mg x = some (.ref C)) (he : PE X e te) (hdb : (x == ("__debug__" : Str)) = false := by decide) :
    PE X (.Call (.Name x p) [] [⟨some g, e, kpos⟩] pos) (tErr C f (tCons te tNil)) := by
  constructor
  intro pins s σ H Q I h
  apply wpAny_Call_Name_kw
  apply ld_glob I hg hm _ hdb
  have pk : PK X [⟨some g, e, kpos⟩] (tCons te tNil) := pk_cons he pk_nil
  refine PySem.W.callWith_KW0 (h₀ := X.base) I.ok.mod.kin T.kp (by rfl) (thn (pk.run pos pins s σ H _ I h) ?_)
  rintro us s1 ⟨vs, H1, I1, r1, v, rfl, q⟩
  refine ⟨I1.kIn, ?_⟩
  have want : ∀ a : Addr, H1 a = none → spIni C f (.ref a :: [v]) (upd H1 a (exo a C none)) (fun v H2 => v = .non ∧ Q (.ref a) H2) (fun _ _ _ => False) := by
    intro a ha
    refine ⟨a, v, rfl, upd_same, fun dx hd ne => ⟨rfl, ?_⟩⟩
    rw [upd_mid]
    rw [upd_ne ne] at hd
    exact q a dx ha hd ne
  cases r1 with
  | cons rv rn =>
  cases rn
  rename_i u
  refine runErr (us := []) (kw := [(g, u)]) T iC tI F1 room hx I1 (binds := [u]) (vs := [v]) (by rw [sizeLine_eq]; simp) ?_ (.cons rv .nil) want
  intro s' a inK
  exact hb s' _ _
end
end Wb

set_option Elab.async false
set_option linter.all false
set_option maxRecDepth 100000
set_option maxHeartbeats 4000000
/-! Wb5: own exceptions raised; those whose __init__ does nothing; those without one. -/
namespace Wb
open PySem PySem.Spec PyProof.Rows L2

section
variable {X : Cx} {e : Expr} {es : List Expr} {te : TE} {ta : TA} {f x : Str} {p p' pos : Pos} {C fI : Addr} {fd : FuncData} {CX : CXT} {k : Nat}
theorem untracked' {H : Hp} {a dx : Addr} {o o' u : HO} {z : HO} (ha : H a = none) (ne : dx ≠ a) : upd (del (upd (upd (upd H a o) dx u) a o') a) dx z = upd H dx z := by
  funext b
  unfold upd del
  by_cases h : b = dx
  · rw [if_pos h, if_pos h]
  · rw [if_neg h, if_neg h]
    by_cases h2 : b = a
    · rw [if_pos h2, h2, ha]
    · rw [if_neg h2]
      show (if b = a then some o' else if b = dx then some u else if b = a then some o else H b) = H b
      rw [if_neg h2, if_neg h, if_neg h2]

/-- C(e), to be raised -/
theorem pmk_err (T : ErrC X.K C) (iC : PySem.W.findIn X.K (.ref C) "__init__" = some (some (.ref fI))) (tI : PySem.W.typeIn X.K (.ref fI) = some (.type "function")) {ps : List Str} (F1 : FnOk X.prog X.w X.K X.mg X.base CX k fI fd ps (spIni C f)) (room : Room (k + 1) X.A)
    (hb : Binds X.K fd ps []) (hx : Passes CX X (fun _ _ _ => False)) (hg : Gl X x) (hm : X.mg x = some (.ref C)) (ha : PA X (e :: es) ta) (hdb : (x == ("__debug__" : Str)) = false := by decide)
    (he : starEach (e :: es) X.env = (false, eval e X.env) :: starEach es X.env := by rfl) (hpl : (backTo pos (starEach es X.env)).any (·.1) = false := by rfl) : PMk X (.Call (.Name x p) (e :: es) [] pos) (tErrX C f ta) := by
  intro pins s σ H Q I h
  obtain ⟨B, newId, initId, bmB, nm, q, N, bs, bm, sn, sub, ab, col, dd, k0, k1, k2, k3, k5, FB, ch, atC⟩ := T.new
  apply wpAny_Call_Name_kw
  apply ld_glob I hg hm _ hdb
  refine PySem.W.callWith_K (h₀ := X.base) I.ok.mod.kin T.kp (thn (ha.run pos pins s σ H _ I h) ?_) he hpl
  rintro us s1 ⟨vs, H1, I1, r1, v, rfl, q1⟩
  refine ⟨I1.kIn, ?_⟩
  show wpAny _ _ (call (.ref C) us) _ _ _
  obtain ⟨hp, g, dr, tk, os⟩ := s1
  have le1 : hp.objs.size ≤ hp.objs.size + 1 := Nat.le_succ _
  have free : H1 (hp.objs.size + 1) = none := I1.hok.fresh le1
  have want : spIni C f (.ref (hp.objs.size + 1) :: [v]) (upd H1 (hp.objs.size + 1) (exo (hp.objs.size + 1) C none))
      (fun r H2 => r = .non ∧ ∃ d : Addr, H2 (hp.objs.size + 1) = some (exo (hp.objs.size + 1) C (some d)) ∧ H2 d = some (exd d [(f, v)]) ∧ H1 d = none ∧ Q (.ref C) (some d) (upd (del H2 (hp.objs.size + 1)) d (.xd [(f, v)]))) (fun _ _ _ => False) := by
    refine ⟨_, v, rfl, upd_same, fun dx hd ne => ⟨rfl, dx, upd_same, ?_, ?_, ?_⟩⟩
    · rw [upd_ne ne, upd_same]
    · rw [upd_ne ne] at hd
      exact hd
    · rw [untracked' free ne]
      rw [upd_ne ne] at hd
      exact q1 dx hd
  have grown : ∀ b o, hp.get? b = some o → ((hp.push (PySem.W.kdv_tup us)).push (PySem.HandSPX.excO C hp.objs.size)).get? b = some o :=
    fun b o z => Heap.get?_push_of_some _ (Heap.get?_push_of_some _ z)
  have made : ((hp.push (PySem.W.kdv_tup us)).push (PySem.HandSPX.excO C hp.objs.size)).get? (hp.objs.size + 1) = some (PySem.HandSPX.excO C hp.objs.size) := by heap_get
  have I2 : Inv X pins σ (upd H1 (hp.objs.size + 1) (exo (hp.objs.size + 1) C none)) ⟨(hp.push (PySem.W.kdv_tup us)).push (PySem.HandSPX.excO C hp.objs.size), g, dr, tk, os⟩ :=
    I1.laid (t' := tk) (a := hp.objs.size + 1) (o := exo (hp.objs.size + 1) C none) (h' := (hp.push (PySem.W.kdv_tup us)).push (PySem.HandSPX.excO C hp.objs.size)) grown le1 (exo_ok made)
  have rel2 : Vals (V.ref (hp.objs.size + 1) :: [v]) (Value.ref (hp.objs.size + 1) :: us) := .cons rfl r1
  have many : (Value.ref (hp.objs.size + 1) :: us).length = ps.length := rel2.length.symm.trans (F1.len _ _ _ _ want)
  have short : us.length ≤ sizeLine := by
    rw [← r1.length, sizeLine_eq]
    simp
  have hb2 := hb ⟨(hp.push (PySem.W.kdv_tup us)).push (PySem.HandSPX.excO C hp.objs.size), g, dr, tk, os⟩ (Value.ref (hp.objs.size + 1) :: us) I2.kIn (by rw [List.append_nil]; exact many)
  rw [List.append_nil] at hb2
  apply wpAny_call
  refine PySem.WbE.callE (iv := .ref fI) FB ch (I1.kIn _ _ atC) (PySem.W.looks_findIn I1.kIn iC) (fun self => PySem.W.bind_fn I1.kIn self tI) short ?_
  refine codeAny_mono (F1.run _ X.stack _ _ ⟨Value.ref (hp.objs.size + 1) :: us, []⟩ (Value.ref (hp.objs.size + 1) :: us) _ _ (fun _ _ _ => False) (room.make C us []) (I2.env0.make C us []) hb2 rel2 want) ?_
  intro r s' got
  match r, got with
  | .error er, got => exact hx pins σ _ _ er s' I2 got
  | .ok (.ret u), got =>
    obtain ⟨r, H2, os2, bare2, un2, ok2, rv, ev, d, ea, ed, hd1, q2⟩ := got
    subst ev
    obtain ⟨h2, g2, d2, t2, os'⟩ := s'
    exact ⟨rv, mk_end (raises_own T.exc T.ty) I1 le1 grown un2 ok2 os2 bare2 ea ed hd1 q2⟩
end

/-! ### an __init__ that does nothing -/
section
variable {prog : Program} {w : World} {A : Around} {R : Result → Shared → Prop} {s : Shared} {K : PySem.W.Frag}
theorem idle {qual : Str} {st : Stmt} {fI : Addr} {fd : FuncData} {pp : Pos} {x : Value} (inK : K.In s.heap) (lim : s.heap.NoLimit) (F : Fun K "__init__" qual st fI fd) (body : defBody st = [.Pass pp])
    (S : FnScope ["self"] ["self"] (defScope st)) (loc : (defScope st).names.lookup ("self" : Str) = some NameKind.local) (bind : BindsTo s fd ⟨[x], []⟩ [("self", x)]) (room : A.depth < recursionLimit)
    (hq : ∀ h' tk, (∀ b o, s.heap.get? b = some o → h'.get? b = some o) → R (.ok (.ret .none)) { s with heap := h', toks := tk }) :
    codeAny (model prog w) A (.call (.ref fI) ⟨[x], []⟩) R s := by
  obtain ⟨a1, a2, a3, a4, a5, a6, cdv, a8, a9, rfl, found, coded⟩ := F.ex
  refine Att.call_fn inK lim found coded room bind ?_ ?_ S.co S.gen S.kind
  · simp [loc]
  · intro s1 ic
    obtain ⟨h1, tk1, rfl⟩ := ic.toInCall.same
    rw [body]
    refine wpAny_execs_cons (wpAny_Pass ?_)
    exact wpAny_execs_nil (hq h1 tk1 ic.toInCall.keep)
end
section
variable {X : Cx} {f x : Str} {p pos : Pos} {C fI : Addr} {fd : FuncData} {k : Nat}
/-- C(): an exception at a new address -/
def tErr0 (C : Addr) : TE := fun _ H Q => ∀ a, H a = none → Q (.ref a) (upd H a (exo a C none))
def tErrX0 (C : Addr) : L2.St → Hp → XK → Prop := fun _ H Q => Q (.ref C) none H

theorem run0 {pins : List (Addr × Obj)} {σ : L2.St} {H : Hp} {s : Shared} {qual : Str} {st : Stmt} {pp : Pos} {Q : Value → Shared → Prop} {E : Value → Shared → Prop} (T : ErrC X.K C) (iC : PySem.W.findIn X.K (.ref C) "__init__" = some (some (.ref fI))) (tI : PySem.W.typeIn X.K (.ref fI) = some (.type "function"))
    (F : Fun X.K "__init__" qual st fI fd) (body : defBody st = [.Pass pp]) (S : FnScope ["self"] ["self"] (defScope st)) (loc : (defScope st).names.lookup ("self" : Str) = some NameKind.local) (bind : ∀ (s : Shared) (v : Value), BindsTo s fd ⟨[v], []⟩ [("self", v)]) (room : Room 1 X.A) (I : Inv X pins σ H s)
    (hq : ∀ h' tk t0, (∀ b o, s.heap.get? b = some o → h'.get? b = some o) → h'.get? (s.heap.objs.size + 1) = some (PySem.HandSPX.excO C t0) → s.heap.get? t0 = none → h'.get? t0 = some (PySem.W.kdv_tup []) → Q (.ref (s.heap.objs.size + 1)) { s with heap := h', toks := tk }) :
    wpAny (model X.prog X.w) X.A (call (.ref C) []) Q E s := by
  obtain ⟨B, newId, initId, bmB, nm, q, N, bs, bm, sn, sub, ab, col, dd, k0, k1, k2, k3, k5, FB, ch, atC⟩ := T.new
  have lim := I.nolimit
  have inK := I.kIn
  obtain ⟨hp, g, dr, tk, os⟩ := s
  have grown : ∀ b o, hp.get? b = some o → ((hp.push (PySem.W.kdv_tup [])).push (PySem.HandSPX.excO C hp.objs.size)).get? b = some o :=
    fun b o z => Heap.get?_push_of_some _ (Heap.get?_push_of_some _ z)
  have made : ((hp.push (PySem.W.kdv_tup [])).push (PySem.HandSPX.excO C hp.objs.size)).get? (hp.objs.size + 1) = some (PySem.HandSPX.excO C hp.objs.size) := by heap_get
  have made2 : ((hp.push (PySem.W.kdv_tup [])).push (PySem.HandSPX.excO C hp.objs.size)).get? hp.objs.size = some (PySem.W.kdv_tup []) := by heap_get
  apply wpAny_call
  refine PySem.WbE.callE (iv := .ref fI) FB ch (inK _ _ atC) (PySem.W.looks_findIn inK iC) (fun self => PySem.W.bind_fn inK self tI) (by rw [sizeLine_eq]; simp) ?_
  refine idle (s := ⟨(hp.push (PySem.W.kdv_tup [])).push (PySem.HandSPX.excO C hp.objs.size), g, dr, tk, os⟩) (inK.keeps grown) (lim.keeps grown) F body S loc (bind _ _) ?_ ?_
  · have := (room.make C [] [] (k := 0)).depth
    exact this
  · intro h' tk' kept
    exact ⟨rfl, hq h' tk' hp.objs.size (fun b o z => kept b o (grown b o z)) (kept _ _ made) (Heap.get?_none_of_le (Nat.le_refl _)) (kept _ _ made2)⟩

theorem pe_err0 {qual : Str} {st : Stmt} {pp : Pos} (T : ErrC X.K C) (iC : PySem.W.findIn X.K (.ref C) "__init__" = some (some (.ref fI))) (tI : PySem.W.typeIn X.K (.ref fI) = some (.type "function"))
    (F : Fun X.K "__init__" qual st fI fd) (body : defBody st = [.Pass pp]) (S : FnScope ["self"] ["self"] (defScope st)) (loc : (defScope st).names.lookup ("self" : Str) = some NameKind.local) (bind : ∀ (s : Shared) (v : Value), BindsTo s fd ⟨[v], []⟩ [("self", v)]) (room : Room 1 X.A)
    (hg : Gl X x) (hm : X.mg x = some (.ref C)) (hdb : (x == ("__debug__" : Str)) = false := by decide) : PE X (.Call (.Name x p) [] [] pos) (tErr0 C) := by
  constructor
  intro pins s σ H Q I h
  apply wpAny_Call_Name_kw
  apply ld_glob I hg hm _ hdb
  refine PySem.W.callWith_K0 I.kIn T.kp ?_
  refine run0 T iC tI F body S loc bind room I ?_
  intro h' tk t0 kept made _ _
  exact ⟨.ref _, _, I.laid (t' := tk) kept (Nat.le_succ _) (exo_ok made), rfl, h _ (I.hok.fresh (Nat.le_succ _))⟩

theorem pmk_err0 {qual : Str} {st : Stmt} {pp : Pos} (T : ErrC X.K C) (iC : PySem.W.findIn X.K (.ref C) "__init__" = some (some (.ref fI))) (tI : PySem.W.typeIn X.K (.ref fI) = some (.type "function"))
    (F : Fun X.K "__init__" qual st fI fd) (body : defBody st = [.Pass pp]) (S : FnScope ["self"] ["self"] (defScope st)) (loc : (defScope st).names.lookup ("self" : Str) = some NameKind.local) (bind : ∀ (s : Shared) (v : Value), BindsTo s fd ⟨[v], []⟩ [("self", v)]) (room : Room 1 X.A)
    (hg : Gl X x) (hm : X.mg x = some (.ref C)) (hdb : (x == ("__debug__" : Str)) = false := by decide) : PMk X (.Call (.Name x p) [] [] pos) (tErrX0 C) := by
  intro pins s σ H Q I h
  apply wpAny_Call_Name_kw
  apply ld_glob I hg hm _ hdb
  refine PySem.W.callWith_K0 I.kIn T.kp ?_
  refine run0 T iC tI F body S loc bind room I ?_
  intro h' tk t0 kept made fr madeT
  have mexc : Heap.MadeExcOf s.heap h' (s.heap.objs.size + 1) (.ref C) [] := ⟨kept, Heap.get?_none_of_le (Nat.le_succ _), t0, made, fr, madeT⟩
  have J : Inv X pins σ H { s with toks := tk } := I.tok tk
  exact mk_of (s := { s with toks := tk }) J mexc (raises_own T.exc T.ty) h (I.hok.fresh (Nat.le_succ _))

/-- a class without own __init__: C() -/
theorem pe_errB {B newId initId : String} {bmB : List Value} (T : ErrC X.K C) (FB : PySem.ExcBaseFacts B newId initId bmB) (iC : PySem.W.findIn X.K (.ref C) "__init__" = some (some (.builtin initId)))
    (new : ∃ (nm q : Str) (N : Addr) (bs bm : List Value) (sn : List Str) (sub : List Value) (ab : Bool) (col : Option Bool) (dd : Option Addr) (k0 k1 k2 k3 k5 : Option Value),
      X.K.lookup C = some (excClassObj nm q C N bs bm true sn sub ab col dd k0 k1 k2 k3 k5 newId) ∧ PySem.WbE.Chain bm B ∧ ∀ X : String, bm.contains (.type X) = bmB.contains (.type X))
    (hg : Gl X x) (hm : X.mg x = some (.ref C)) (hdb : (x == ("__debug__" : Str)) = false := by decide) : PE X (.Call (.Name x p) [] [] pos) (tErr0 C) := by
  obtain ⟨nm, q, N, bs, bm, sn, sub, ab, col, dd, k0, k1, k2, k3, k5, atC, ch, hT⟩ := new
  constructor
  intro pins s σ H Q I h
  apply wpAny_Call_Name_kw
  apply ld_glob I hg hm _ hdb
  refine PySem.W.callWith_K0 I.kIn T.kp ?_
  show wpAny _ _ (call (.ref C) []) _ _ _
  have inK := I.kIn
  have fr := I.hok.fresh (a := s.heap.objs.size + 1) (Nat.le_succ _)
  obtain ⟨hp, g, dr, tk, os⟩ := s
  have grown : ∀ b o, hp.get? b = some o → ((hp.push (PySem.W.kdv_tup [])).push (PySem.HandSPX.excO C hp.objs.size)).get? b = some o :=
    fun b o z => Heap.get?_push_of_some _ (Heap.get?_push_of_some _ z)
  have made : ((hp.push (PySem.W.kdv_tup [])).push (PySem.HandSPX.excO C hp.objs.size)).get? (hp.objs.size + 1) = some (PySem.HandSPX.excO C hp.objs.size) := by heap_get
  apply wpAny_call
  refine PySem.WbE.callE (iv := .builtin initId) FB ch (inK _ _ atC) (PySem.W.looks_findIn inK iC) (fun self => ?_) (by rw [sizeLine_eq]; simp) ?_
  · rw [FB.init.bind self]
    exact .now
  · refine PySem.HandSPX.init_base FB hT (grown _ _ (inK _ _ atC)) made (by rw [sizeLine_eq]; simp) ?_
    intro h' t1 kept now
    have old : ∀ b o, hp.get? b = some o → h'.get? b = some o := fun b o z => kept b o (Nat.ne_of_lt (Nat.lt_succ_of_lt (Heap.lt_size z))) (grown b o z)
    exact ⟨rfl, .ref _, _, I.laid (t' := tk) old (Nat.le_succ _) (exo_ok now), rfl, h _ fr⟩
end
end Wb

set_option Elab.async false
set_option linter.all false
set_option maxRecDepth 100000
set_option maxHeartbeats 4000000
/-! Wb6: the deal that a law draws from: what is known of it, and what is kept beside it. -/
namespace Wb
open PySem PySem.Spec PyProof.Rows L2

/-- the heap without the deal's two lists -/
def off (H : Hp) (d c : Addr) : Hp := fun b => if b = d ∨ b = c then none else H b
theorem off_at {H : Hp} {d c b : Addr} (h1 : b ≠ d) (h2 : b ≠ c) : off H d c b = H b := if_neg (fun z => z.elim h1 h2)
theorem off_some {H : Hp} {d c b : Addr} {o : HO} (h : off H d c b = some o) : H b = some o ∧ b ≠ d ∧ b ≠ c := by
  unfold off at h
  by_cases e : b = d ∨ b = c
  · rw [if_pos e] at h
    cases h
  · rw [if_neg e] at h
    exact ⟨h, fun z => e (.inl z), fun z => e (.inr z)⟩
theorem off_le (H : Hp) (d c : Addr) : Same (off H d c) H := fun b o h => (off_some h).1
theorem off_mono {H H' : Hp} {d c : Addr} (h : Same H H') : Same (off H d c) (off H' d c) := by
  intro b o z
  obtain ⟨z1, z2, z3⟩ := off_some z
  rw [off_at z2 z3]
  exact h b o z1
theorem off_none {H : Hp} {d c b : Addr} (h : H b = none) : off H d c b = none := by
  unfold off
  split
  · rfl
  · exact h
/-- a new object is kept -/
theorem new_same {H : Hp} {p : Addr} {o : HO} (h : H p = none) : Same H (upd H p o) := fun b u z => by
  rw [upd_ne (ne_of_none z h)]
  exact z
theorem off_new {H : Hp} {d c p : Addr} {o : HO} (h1 : p ≠ d) (h2 : p ≠ c) : off (upd H p o) d c p = some o := by
  rw [off_at h1 h2]
  exact upd_same

/-- the deal: a list at d of the cells' list at c, and a number -/
structure Deal (H : Hp) (d c : Addr) : Prop where
  ex : ∃ (cs : List Int) (mix : Int), H d = some (.lst [.ref c, .int mix]) ∧ H c = some (.lst (cs.map V.int)) ∧ cs.length ≤ 63 ∧ (∀ z ∈ cs, 0 ≤ z) ∧ 0 ≤ mix ∧ mix < 2147483647
theorem Deal.ne {H : Hp} {d c : Addr} (D : Deal H d c) : d ≠ c := by
  obtain ⟨cs, mix, h1, h2, _⟩ := D.ex
  refine ne_of h1 h2 fun z => ?_
  have z2 : [V.ref c, V.int mix] = cs.map V.int := HO.lst.inj z
  cases cs with
  | nil => cases z2
  | cons a r => cases z2
theorem Deal.same {H H' : Hp} {d c : Addr} (D : Deal H d c) (s : Same H H') : Deal H' d c := by
  obtain ⟨cs, mix, h1, h2, h3⟩ := D.ex
  exact ⟨cs, mix, s _ _ h1, s _ _ h2, h3⟩
/-- a free address is none of the deal's -/
theorem Deal.free {H : Hp} {d c p : Addr} (D : Deal H d c) (h : H p = none) : p ≠ d ∧ p ≠ c := by
  obtain ⟨cs, mix, h1, h2, h3⟩ := D.ex
  exact ⟨(ne_of_none h1 h).symm, (ne_of_none h2 h).symm⟩
/-- the deal's own lists changed: all else is kept -/
theorem off_dc {H : Hp} {d c : Addr} {o u : HO} : off (upd (upd H c o) d u) d c = off H d c := by
  funext b
  unfold off
  by_cases e : b = d ∨ b = c
  · rw [if_pos e, if_pos e]
  · rw [if_neg e, if_neg e, upd_ne (fun z => e (.inl z)), upd_ne (fun z => e (.inr z))]
theorem off_c {H : Hp} {d c : Addr} {o : HO} : off (upd H c o) d c = off H d c := by
  funext b
  unfold off
  by_cases e : b = d ∨ b = c
  · rw [if_pos e, if_pos e]
  · rw [if_neg e, if_neg e, upd_ne (fun z => e (.inr z))]
theorem off_d {H : Hp} {d c : Addr} {o : HO} : off (upd H d o) d c = off H d c := by
  funext b
  unfold off
  by_cases e : b = d ∨ b = c
  · rw [if_pos e, if_pos e]
  · rw [if_neg e, if_neg e, upd_ne (fun z => e (.inl z))]

theorem seqT {K : PySem.W.Frag} {H H' : Hp} {a : Addr} {xs : List V} (e : Same H H') (h : SqT K H a xs) : SqT K H' a xs := by
  rcases h with (h | ⟨o, h⟩) | h
  · exact Or.inl (Or.inl (e _ _ h))
  · exact Or.inl (Or.inr ⟨o, e _ _ h⟩)
  · exact Or.inr h
/-- an item at a place drawn -/
theorem item_at {xs : List V} {r : Int} (h0 : 0 ≤ r) (h1 : r < (xs.length : Int)) : ∃ v, v ∈ xs ∧ atI xs r = some v := by
  obtain ⟨j, rfl⟩ := Int.eq_ofNat_of_zero_le h0
  have hj : j < xs.length := by omega
  exact ⟨xs[j], List.getElem_mem hj, atI_nat (List.getElem?_eq_getElem hj)⟩
theorem nil_or_last {α : Type} (l : List α) : l = [] ∨ ∃ ini z, l = ini ++ [z] := by
  cases l with
  | nil => exact .inl rfl
  | cons a r => exact .inr ⟨(a :: r).dropLast, (a :: r).getLast (by simp), (List.dropLast_concat_getLast (by simp)).symm⟩
/-- one statement and the rest, what is known between them said apart -/
theorem seqI {t1 t2 : TS} {D : Ends} {σ : L2.St} {H : Hp} (Ex : L2.St → Hp → Prop) (rest : ∀ σ' H', Ex σ' H' → t2 D σ' H')
    (first : ∀ Z : L2.St → Hp → Prop, (∀ σ' H', Ex σ' H' → Z σ' H') → t1 { D with nx := Z } σ H) : tSeq t1 t2 D σ H :=
  first _ rest
/-- a while by an invariant, a measure, and what is known at its end; what follows is asked apart -/
theorem whileI {c : TT} {tb : TS} {D : Ends} {σ : L2.St} {H : Hp} (I Ex : L2.St → Hp → Prop) (m : L2.St → Hp → Nat) (h0 : I σ H) (rest : ∀ σ H, Ex σ H → D.nx σ H)
    (step : ∀ σ H, I σ H → ∀ Y Z : Hp → Prop,
      (∀ H1, tb { D with nx := fun σ' H' => I σ' H' ∧ m σ' H' < m σ H, ct := fun σ' H' => I σ' H' ∧ m σ' H' < m σ H, bk := D.nx } σ H1 → Y H1) → (∀ H1, Ex σ H1 → Z H1) →
      c σ H fun b H1 => if b = true then Y H1 else Z H1) : tWhile c tb D σ H := by
  refine ⟨fun k σ H => k = m σ H ∧ I σ H, ⟨_, rfl, h0⟩, ?_⟩
  rintro k σ H ⟨rfl, hI⟩
  refine step σ H hI _ _ (fun H1 q => ?_) (fun H1 e => rest σ H1 e)
  exact ⟨_, fun σ' H' ⟨p', l⟩ => ⟨_, l, rfl, p'⟩, q⟩

/-- _law_any(deal, bound): some number below the bound; the deal is one again, all else is kept -/
def spAny : Sp := fun vs H Q _ => ∃ (d c : Addr) (bound : Int), vs = [.ref d, .int bound] ∧ Deal H d c ∧ 0 < bound ∧ bound < 2 ^ 300 ∧
  ∀ (r : Int) (H' : Hp), 0 ≤ r → r < bound → Deal H' d c → Same (off H d c) (off H' d c) → Q (.int r) H'
/-- _law_of(deal, some): some item of a list, of a tuple, or a sign of a text -/
def spOf (K : PySem.W.Frag) : Sp := fun vs H Q _ => ∃ (d c : Addr) (x : V), vs = [.ref d, x] ∧ Deal H d c ∧
  ((∃ (p : Addr) (xs : List V), x = .ref p ∧ SqL K (off H d c) p xs ∧ xs ≠ [] ∧ xs.length ≤ 1000 ∧ ∀ (v : V) (H' : Hp), v ∈ xs → Deal H' d c → Same (off H d c) (off H' d c) → Q v H') ∨
   (∃ (p : Addr) (xs : List V), x = .ref p ∧ SqT K (off H d c) p xs ∧ xs ≠ [] ∧ xs.length ≤ 1000 ∧ ∀ (v : V) (H' : Hp), v ∈ xs → Deal H' d c → Same (off H d c) (off H' d c) → Q v H') ∨
   (∃ z : Str, x = .str z ∧ 0 < z.length ∧ z.length ≤ 1000 ∧ ∀ (a : Nat) (H' : Hp), a ∈ z.cps.toList → Deal H' d c → Same (off H d c) (off H' d c) → Q (.str ⟨#[a]⟩) H'))
/-- _law_deal(script, base): a new deal -/
def spDeal (K : PySem.W.Frag) : Sp := fun vs H Q _ => ∃ (a : Addr) (ns : List Int) (b : Int), vs = [.ref a, .int b] ∧ SqL K H a (ns.map V.int) ∧ ns.length ≤ 63 ∧ 0 ≤ b ∧ b ≤ 1000 ∧
  ∀ (d c : Addr) (H' : Hp), H d = none → H c = none → Deal H' d c → Same H H' → Q (.ref d) H'
end Wb

set_option Elab.async false
set_option linter.all false
set_option maxRecDepth 100000
set_option maxHeartbeats 4000000
/-! Wb7: data that is all new; how large it is shown. -/
namespace Wb
open PySem PySem.Spec PyProof.Rows L2

/-- what stands in H' and was free in H -/
def nw (H H' : Hp) : Hp := fun b => if H b = none then H' b else none
theorem nw_at {H H' : Hp} {b : Addr} (h : H b = none) : nw H H' b = H' b := if_pos h
theorem nw_some {H H' : Hp} {b : Addr} {o : HO} (h : nw H H' b = some o) : H b = none ∧ H' b = some o := by
  unfold nw at h
  by_cases e : H b = none
  · rw [if_pos e] at h
    exact ⟨e, h⟩
  · rw [if_neg e] at h
    cases h
theorem nw_le (H H' : Hp) : Same (nw H H') H' := fun b o h => (nw_some h).2
/-- every address that is taken stays taken -/
def Dom (H H' : Hp) : Prop := ∀ b, H' b = none → H b = none
theorem Dom.refl (H : Hp) : Dom H H := fun _ h => h
theorem Dom.trans {H G J : Hp} (a : Dom H G) (b : Dom G J) : Dom H J := fun x h => a x (b x h)
theorem Dom.of {H H' : Hp} (s : Same H H') : Dom H H' := fun b h => s.free h
theorem Dom.deal {H H' : Hp} {d c : Addr} (s : Same (off H d c) (off H' d c)) (D : Deal H' d c) : Dom H H' := by
  intro b h
  obtain ⟨n1, n2⟩ := D.free h
  have q : off H' d c b = none := (off_at n1 n2).trans h
  have z := s.free q
  rwa [off_at n1 n2] at z
/-- new since later is new since earlier; and it is kept where all but the deal is -/
theorem nw_mono {H0 H G G' : Hp} {d c : Addr} (a : Dom H0 H) (D : Deal H d c) (s : Same (off G d c) (off G' d c)) : Same (nw H G) (nw H0 G') := by
  intro b o h
  obtain ⟨h1, h2⟩ := nw_some h
  obtain ⟨n1, n2⟩ := D.free h1
  rw [nw_at (a b h1)]
  have q := s b o (by rw [off_at n1 n2]; exact h2)
  exact (off_some q).1
theorem nw_off {H G : Hp} {d c : Addr} (D : Deal H d c) : Same (nw H G) (off G d c) := by
  intro b o h
  obtain ⟨h1, h2⟩ := nw_some h
  obtain ⟨n1, n2⟩ := D.free h1
  rw [off_at n1 n2]
  exact h2
theorem nw_upd {H G : Hp} {p : Addr} {o : HO} (h : H p ≠ none) : nw H (upd G p o) = nw H G := by
  funext b
  unfold nw
  by_cases e : H b = none
  · rw [if_pos e, if_pos e, upd_ne (fun z => h (by rw [← z]; exact e))]
  · rw [if_neg e, if_neg e]

mutual
theorem dpMono {K : PySem.W.Frag} {H H' : Hp} (s : Same H H') : ∀ (d : PyData) (v : V), Dp K H v d → Dp K H' v d
  | .none, _, h => by
    cases h
    exact .non
  | .bool b, _, h => by
    cases h
    exact .bl b
  | .int i, _, h => by
    cases h
    exact .int i
  | .str x, _, h => by
    cases h
    exact .str x
  | .list ds, _, h => by
    cases h with
    | lst h1 h2 => exact .lst (s.seq h1) (dpMonoAll s ds _ h2)
  | .tuple ds, _, h => by
    cases h with
    | tup h1 h2 => exact .tup (seqT s h1) (dpMonoAll s ds _ h2)
  | .dict _, _, h => by cases h
theorem dpMonoAll {K : PySem.W.Frag} {H H' : Hp} (s : Same H H') : ∀ (ds : List PyData) (vs : List V), DpAll K H vs ds → DpAll K H' vs ds
  | [], _, h => by
    cases h
    exact .nil
  | d :: ds, _, h => by
    cases h with
    | cons h1 h2 => exact .cons (dpMono s d _ h1) (dpMonoAll s ds _ h2)
end
theorem dpAll_snoc {K : PySem.W.Frag} {H : Hp} {v : V} {e : PyData} (h : Dp K H v e) : ∀ {vs : List V} {es : List PyData}, DpAll K H vs es → DpAll K H (vs ++ [v]) (es ++ [e])
  | _, _, .nil => .cons h .nil
  | _, _, .cons h1 h2 => .cons h1 (dpAll_snoc h h2)
theorem dpAll_len {K : PySem.W.Frag} {H : Hp} : ∀ {vs : List V} {es : List PyData}, DpAll K H vs es → vs.length = es.length
  | _, _, .nil => rfl
  | _, _, .cons _ h2 => by simp [dpAll_len h2]
theorem dpAll_mem {K : PySem.W.Frag} {H : Hp} : ∀ {vs : List V} {es : List PyData} {v : V}, DpAll K H vs es → v ∈ vs → ∃ e, e ∈ es ∧ Dp K H v e
  | _, _, _, .nil, h => nomatch h
  | _, _, v, .cons h1 h2, h => by
    rcases List.mem_cons.mp h with rfl | h
    · exact ⟨_, List.mem_cons_self, h1⟩
    · obtain ⟨e, q1, q2⟩ := dpAll_mem h2 h
      exact ⟨e, List.mem_cons_of_mem _ q1, q2⟩

/-- what may be shown: n deep, of a weight W -/
structure Tame (n W : Nat) (e : PyData) : Prop where
  shows : e.showable = true
  noDict : e.hasDict = false
  deep : e.depth ≤ n
  short : e.leavesShort 13 = true
  light : e.weight ≤ W
theorem Tame.fits {n W : Nat} {e : PyData} (t : Tame n W e) (h : W ≤ 1000000) : e.shown.length ≤ sizeLine := by
  have q := PyData.shown_le 13 (by decide) e t.short
  have l := t.light
  rw [sizeLine_eq]
  omega
theorem Tame.more {n m W Z : Nat} {e : PyData} (t : Tame n W e) (h1 : n ≤ m) (h2 : W ≤ Z) : Tame m Z e :=
  ⟨t.shows, t.noDict, Nat.le_trans t.deep h1, t.short, Nat.le_trans t.light h2⟩
structure TameAll (n W : Nat) (es : List PyData) : Prop where
  shows : PyData.showableAll es = true
  noDict : PyData.hasDictAll es = false
  deep : PyData.depthAll es ≤ n
  short : PyData.leavesShortAll 13 es = true
  light : PyData.weightAll es ≤ es.length * (W + 1)
theorem TameAll.nil {n W : Nat} : TameAll n W [] := ⟨by simp [PyData.showableAll], by simp [PyData.hasDictAll], by simp [PyData.depthAll], by simp [PyData.leavesShortAll], by simp [PyData.weightAll]⟩
theorem TameAll.cons {n W : Nat} {e : PyData} {es : List PyData} (t : Tame n W e) (h : TameAll n W es) : TameAll n W (e :: es) := by
  obtain ⟨a1, a2, a3, a4, a5⟩ := t
  obtain ⟨b1, b2, b3, b4, b5⟩ := h
  refine ⟨by simp [PyData.showableAll, a1, b1], by simp [PyData.hasDictAll, a2, b2], ?_, by simp [PyData.leavesShortAll, a4, b4], ?_⟩
  · simp only [PyData.depthAll]
    exact Nat.max_le.mpr ⟨a3, b3⟩
  · simp only [PyData.weightAll, List.length_cons, Nat.succ_mul]
    omega
theorem TameAll.of {n W : Nat} : ∀ {es : List PyData}, (∀ e ∈ es, Tame n W e) → TameAll n W es
  | [], _ => .nil
  | e :: es, h => .cons (h e List.mem_cons_self) (TameAll.of fun x hx => h x (List.mem_cons_of_mem _ hx))
theorem TameAll.list {n W k : Nat} {es : List PyData} (h : TameAll n W es) (few : es.length ≤ k) : Tame (n + 1) (k * (W + 1)) (.list es) := by
  obtain ⟨b1, b2, b3, b4, b5⟩ := h
  refine ⟨by simpa [PyData.showable] using b1, by simpa [PyData.hasDict] using b2, ?_, by simpa [PyData.leavesShort] using b4, ?_⟩
  · simp only [PyData.depth]
    omega
  · simp only [PyData.weight]
    exact Nat.le_trans b5 (Nat.mul_le_mul_right _ few)
theorem TameAll.tuple {n W k : Nat} {es : List PyData} (h : TameAll n W es) (few : es.length ≤ k) : Tame (n + 1) (k * (W + 1)) (.tuple es) := by
  obtain ⟨b1, b2, b3, b4, b5⟩ := h
  refine ⟨by simpa [PyData.showable] using b1, by simpa [PyData.hasDict] using b2, ?_, by simpa [PyData.leavesShort] using b4, ?_⟩
  · simp only [PyData.depth]
    omega
  · simp only [PyData.weight]
    exact Nat.le_trans b5 (Nat.mul_le_mul_right _ few)
theorem tame_none : Tame 0 40 .none := ⟨by decide +kernel, by decide +kernel, by decide +kernel, by decide +kernel, by decide +kernel⟩
theorem tame_bool (b : Bool) : Tame 0 40 (.bool b) := by cases b <;> exact ⟨by decide +kernel, by decide +kernel, by decide +kernel, by decide +kernel, by decide +kernel⟩
theorem log2_small {i : Int} (h : i.natAbs < 10 ^ 12) : i.natAbs.log2 ≤ 39 := by
  by_cases z : i.natAbs = 0
  · rw [z]
    decide
  · have := (Nat.log2_lt z (k := 40)).mpr (Nat.lt_trans h (by decide))
    omega
theorem tame_int {i : Int} (h : i.natAbs < 10 ^ 12) : Tame 0 40 (.int i) := by
  have l := log2_small h
  refine ⟨?_, by simp [PyData.hasDict], by simp [PyData.depth], ?_, ?_⟩
  · simp only [PyData.showable, decide_eq_true_eq]
    omega
  · simp only [PyData.leavesShort, decide_eq_true_eq]
    exact PyData.shown_int_le h
  · simp only [PyData.weight]
    split <;> omega
theorem tame_str {x : Str} (h : ∀ a ∈ x.cps.toList, a < 16 ^ 8) (few : x.length ≤ 40) : Tame 0 40 (.str x) := by
  refine ⟨by simp [PyData.showable], by simp [PyData.hasDict], by simp [PyData.depth], ?_, ?_⟩
  · simp only [PyData.leavesShort, List.all_eq_true, decide_eq_true_eq]
    exact h
  · simp only [PyData.weight]
    exact few

/-- signs glued -/
theorem glued (L : List Nat) : ∀ ys : List Str, (∀ y ∈ ys, ∃ a ∈ L, y = ⟨#[a]⟩) → (Str.join (Str.ofString "") ys).length = ys.length ∧ ∀ a ∈ (Str.join (Str.ofString "") ys).cps.toList, a ∈ L
  | [], _ => ⟨by decide, fun a ha => by
    have e : (Str.join (Str.ofString "") []).cps.toList = [] := by decide
    rw [e] at ha
    cases ha⟩
  | [y], h => by
    obtain ⟨a, ha, rfl⟩ := h y List.mem_cons_self
    refine ⟨rfl, fun b hb => ?_⟩
    have hb' : b ∈ [a] := hb
    rw [List.mem_singleton.mp hb']
    exact ha
  | y :: z :: r, h => by
    obtain ⟨a, ha, rfl⟩ := h y List.mem_cons_self
    obtain ⟨i1, i2⟩ := glued L (z :: r) fun x hx => h x (List.mem_cons_of_mem _ hx)
    have e : Str.join (Str.ofString "") (⟨#[a]⟩ :: z :: r) = (⟨#[a]⟩ ++ Str.ofString "") ++ Str.join (Str.ofString "") (z :: r) := rfl
    rw [e]
    refine ⟨?_, fun b hb => ?_⟩
    · rw [strLen_append, strLen_append, i1]
      have e1 : (Str.ofString "").length = 0 := by decide
      have e2 : (⟨#[a]⟩ : Str).length = 1 := rfl
      rw [e1, e2]
      simp
      omega
    · rw [cps_toList_append, cps_toList_append] at hb
      have e1 : (Str.ofString "").cps.toList = [] := by decide
      rw [e1, List.append_nil] at hb
      rcases List.mem_append.mp hb with q | q
      · have q' : b ∈ [a] := q
        rw [List.mem_singleton.mp q']
        exact ha
      · exact i2 b q
end Wb

set_option Elab.async false
set_option linter.all false
set_option maxRecDepth 100000
set_option maxHeartbeats 4000000
/-! Wf1: what fractions take of the language: // below 0, lcm, calls by names alone, a caught error looked at. -/
namespace Wb
open PySem PySem.Spec PyProof.Rows L2
section
variable {X : Cx}
/-- // by a divisor of either sign -/
def CDivS (_ j : Int) : Prop := j ≠ 0 ∧ j.natAbs.log2 < 9000
theorem op_fdivS : OpR X (binaryOp .FloorDiv) (rI CDivS fun i j => .int (i.fdiv j)) := opI fun i j _ _ _ _ _ hc q => floordiv_int hc.1 q (.inl (PyProof.noPylong_of_log2 hc.2))
def rLcm : List V → Hp → VK → Prop := fun vs H Q => ∃ a b : Int, vs = [.int a, .int b] ∧ a.natAbs < 2 ^ 9000 ∧ b.natAbs < 2 ^ 9000 ∧ Q (.int ((Nat.lcm a.natAbs b.natAbs : Nat) : Int)) H
theorem log_le {n k : Nat} (h : n < 2 ^ k) (h0 : 0 < k) : n.log2 < k := by
  by_cases z : n = 0
  · subst z
    rw [Nat.log2_zero]
    exact h0
  · exact (Nat.log2_lt z).mpr h
theorem cr_lcm : CallR X (.builtin "math.lcm") rLcm := by
  intro pins s σ H vs us Q I r h
  obtain ⟨a, b, rfl, ha, hb, q⟩ := h
  obtain ⟨t, u, rfl⟩ := Vals.int2 r
  have one9 : (1 : Nat) < 2 ^ 9000 := Nat.one_lt_two_pow (by decide)
  have h1 : (max 1 a.natAbs).log2 < 9000 := log_le (Nat.max_lt.mpr ⟨one9, ha⟩) (by decide)
  have h2 : (max a.natAbs b.natAbs).log2 < 9000 := log_le (Nat.max_lt.mpr ⟨ha, hb⟩) (by decide)
  have h3 : (Nat.lcm 1 a.natAbs).lcm b.natAbs = Nat.lcm a.natAbs b.natAbs := by rw [PySem.W.mc_lcm_one]
  have h4 : (Nat.lcm a.natAbs b.natAbs).log2 < 18000 := by
    refine log_le (Nat.lt_of_le_of_lt (PySem.W.mc_lcm_le _ _) ?_) (by decide)
    have e : (18000 : Nat) = 9000 + 9000 := rfl
    rw [e, Nat.pow_add]
    exact Nat.mul_lt_mul'' ha hb
  have h5 : ((((Nat.lcm 1 a.natAbs).lcm b.natAbs : Nat) : Int)).natAbs.log2 < bitsLine := by
    rw [h3, Int.natAbs_natCast]
    exact Nat.lt_trans h4 (by decide)
  refine call_function_meets PySem.W.MGF.kind_lcm PySem.W.MGF.plain_lcm PySem.W.MGF.entry_lcm (PySem.W.MGF.args_lcm _ _) (PySem.W.mg_run_lcm a t b u (by omega) (by omega) h5).meets ?_
  rw [h3]
  exact ⟨.int _, H, I.tok _, ⟨_, rfl⟩, q⟩
end
section
variable {X : Cx} {CX : CXT} {k : Nat} {f C : Addr} {fd : FuncData} {ps ks : List Str} {sp : Sp} {E : XK} {x m : Str} {p pos apos kpos : Pos} {e o : Expr} {es : List Expr} {kws : List Keyword} {te ta : TE} {t tk : TA} {nm : Option Str}
variable {g : List Value → List Value → List Value} {gV : List V → List V → List V}
def tCallK0 (sp : Sp) (gV : List V → List V → List V) (E : XK) (tk : TA) : TE := fun σ H Q => tk σ H fun zs H2 => sp (gV [] zs) H2 Q E
/-- f(k = v, ..), nothing by position -/
theorem pe_callK0 (F : FnOk X.prog X.w X.K X.mg X.base CX k f fd ps sp) (hr : Room k X.A) (hg : Gl X x) (hm : X.mg x = some (.ref f)) (hk : PySem.W.keepIn X.K (.ref f) = true) (hb : KBinds X.K fd ps ks g gV) (hx : Passes CX X E)
    (hkw : PK X kws tk) (hall : (backToKw pos (keywordEach kws X.env)).all (·.1.isSome) = true := by rfl) (hks : (backToKw pos (keywordEach kws X.env)).filterMap (·.1) = ks := by rfl)
    (hdb : (x == ("__debug__" : Str)) = false := by decide) (hpl : ((backTo pos (starEach [] X.env)).any (·.1) || (backToKw pos (keywordEach kws X.env)).any (·.1.isNone)) = false := by rfl) :
    PE X (.Call (.Name x p) [] kws pos) (tCallK0 sp gV E tk) := by
  refine ⟨fun pins s σ H Q I h => ?_⟩
  refine wpAny_Call_Name_kw (ld_glob I hg hm ?_ hdb)
  refine PySem.W.callWith_KW0 (h₀ := X.base) I.ok.mod.kin hk hall (thn (hkw.run pos pins s σ H _ I h) fun ws s2 ⟨zs, H2, I2, rz, q2⟩ => ⟨I2.kIn, ?_⟩) hpl
  rw [hks]
  exact run_fnk (us := []) (vs := []) F hr hb hx I2 .nil rz q2
end
/-- a def that may raise, where it doesn't -/
theorem quiet {P : Program} {w : World} {K : PySem.W.Frag} {mg : Str → Option Value} {base : Heap} {k : Nat} {f : Addr} {fd : FuncData} {ps : List Str} {sp : Sp} (F : FnOk P w K mg base (L2.CX P w) k f fd ps sp) :
    FnOk P w K mg base CX0 k f fd ps (fun vs H Q _ => sp vs H Q (fun _ _ _ => False)) :=
  ⟨fun vs H Q E h => F.len vs H Q _ h, fun A outer s H args us vs Q E hr he hb hv hs => by
    refine codeAny_mono (F.run A outer s H args us vs Q (fun _ _ _ => False) hr he hb hv hs) ?_
    intro r s' h
    match r, h with
    | .ok (.ret u), h => exact h
    | .error er, h =>
      obtain ⟨a, B, H', cls, d, _, _, _, _, _, _, _, z⟩ := h
      exact z.elim⟩
section
variable {X : Cx} {e : Expr} {te : TE} {pos : Pos} {a : Addr} {oe : Obj} {cls : Value} {d : Option Addr} {pn : List (Addr × Obj)} {f : Str}
theorem xd_at {P : Program} {w : World} {H : Hp} {h : Heap} {dd : Addr} {fs : List (Str × V)} (hok : HOk P w H h) (ea : H dd = some (.xd fs)) : ∃ mA, h.Ns1 dd mA ∧ ∀ g, RelO (fs.lookup g) (mA g) := by
  have hx : ObjOk P w H h dd (.xd fs) := hok dd _ ea
  obtain ⟨mA, hns, hr⟩ := hx
  exact ⟨mA, hns, hr⟩
/-- e.f, e the error that the suite holds -/
def tErrF (K : PySem.W.Frag) (a : Addr) (cls : Value) (d : Option Addr) (f : Str) (te : TE) : TE := fun σ H Q => te σ H fun x H1 => x = .ref a ∧ ∃ (C dd : Addr) (v : V), cls = .ref C ∧ d = some dd ∧ ErrC K C ∧ PySem.W.findIn K (.ref C) f = some none ∧ H1 dd = some (.xd [(f, v)]) ∧ Q v H1
theorem pe_errF (hz : Zc cls d oe) (hf : ∃ vs, oe.data = .fields vs) (he : PE (X.suite a ((a, oe) :: pn)) e te) (hb : attributeBase e f X.env (eval e X.env) = eval e X.env := by rfl) :
    PE (X.suite a ((a, oe) :: pn)) (.Attribute e f pos) (tErrF X.K a cls d f te) := by
  refine ⟨fun pins s σ H Q I h => ?_⟩
  refine attr_of hb (thn (he.run pins s σ H _ I h) fun u s1 hh => ?_)
  obtain ⟨x, H1, I1, rx, ex, C, dd, v, ec, ed, T, no, ea, q⟩ := hh
  subst ex
  obtain rfl : u = Value.ref a := rx
  subst ec
  subst ed
  obtain ⟨ha, _⟩ := I1.pin (a, oe) (List.mem_append_left _ List.mem_cons_self)
  obtain ⟨vs, hd⟩ := hf
  obtain ⟨mA, hns, hr⟩ := xd_at I1.hok ea
  obtain ⟨od, ho, hl⟩ := lookIn_ns hns
  have l : List.lookup f [(f, v)] = some v := by simp [List.lookup]
  obtain ⟨u, hu, ru⟩ := RelO.some_of (v := v) (o := mA f) (by rw [← l]; exact hr f)
  have J : PySem.W.InstAt s1.heap a oe C (some od) := ⟨ha, hz.1, by unfold PySem.W.notCls; rw [hd] <;> rfl, by rw [hz.2]; exact ho⟩
  exact HandSPX.exc_get I1.kIn J T.ga T.gg T.exc (PySem.W.findObj_own T.hd no rfl (by rw [hl, hu])) (handed_of ru) ⟨v, H1, I1.tok _, ru, q⟩
/-- isinstance(e, ..), e the error that the suite holds -/
def rIsX (K : PySem.W.Frag) (a : Addr) (cls : Value) (d : Option Addr) : List V → Hp → VK → Prop := fun xs H Q =>
  ∃ (C : Addr) (c : V) (cu : Value) (b : Bool), xs = [.ref a, c] ∧ cls = .ref C ∧ (∀ dd, d = some dd → ∃ fs, H dd = some (.xd fs)) ∧ ErrC K C ∧ ClsV c cu ∧ PySem.W.kitOne K (.ref C) cu = some b ∧ Q (.bl b) H
theorem call_isX (hz : Zc cls d oe) (hf : ∃ vs, oe.data = .fields vs) : CallR (X.suite a ((a, oe) :: pn)) (.builtin "isinstance") (rIsX X.K a cls d) := by
  intro pins s σ H xs us Q I r h
  obtain ⟨C, c, cu, b, rfl, ec, hod, T, kc, ek, q⟩ := h
  obtain ⟨u1, u2, rfl, r1, r2⟩ := vals2 r
  obtain rfl : u1 = Value.ref a := r1
  have e2 := kc.eq r2
  subst e2
  subst ec
  obtain ⟨ha, _⟩ := I.pin (a, oe) (List.mem_append_left _ List.mem_cons_self)
  obtain ⟨vs, hd⟩ := hf
  have cls : (PySem.W.clsIn X.K C).isSome = true := by
    obtain ⟨cd, hcd, _⟩ := PySem.W.any_some T.hd
    rw [hcd]
    rfl
  have fin : ∀ tk, EP (X.suite a ((a, oe) :: pn)) pins σ Q (.bool b) { s with toks := tk } := fun tk => ⟨.bl b, H, I.tok tk, rfl, q⟩
  have no : PySem.W.notCls oe = true := by unfold PySem.W.notCls; rw [hd] <;> rfl
  cases d with
  | none =>
    exact PySem.W.kia_one (PySem.W.kitx_exc (od := none) cls T.ga T.gg T.exc T.hc T.hn T.ht T.hm) I.kIn (⟨ha, hz.1, no, by rw [hz.2]; exact trivial⟩ : PySem.W.InstAt s.heap a oe C none) ek (fun z => nomatch z) fin
  | some dx =>
    obtain ⟨fs, ed⟩ := hod dx rfl
    obtain ⟨mA, hns, _⟩ := xd_at I.hok ed
    obtain ⟨od, ho, _⟩ := lookIn_ns hns
    exact PySem.W.kia_one (PySem.W.kitx_exc (od := some od) cls T.ga T.gg T.exc T.hc T.hn T.ht T.hm) I.kIn (⟨ha, hz.1, no, by rw [hz.2]; exact ho⟩ : PySem.W.InstAt s.heap a oe C (some od)) ek (fun z => nomatch z) fin
end
end Wb

set_option Elab.async false
set_option linter.all false
set_option maxRecDepth 100000
set_option maxHeartbeats 4000000
/-! Wc0: a def by its name: what may be called (Cal, CalG), the rules of its calls, how one comes to be. -/
namespace Wb
open PySem PySem.Spec PyProof.Rows L2
/-- the def's record -/
def FdOf (x : Str) (st : Stmt) (fd : FuncData) : Prop := ∃ (kV dc pm : Value) (an : Option Addr) (cd ct : Value), fd = PySem.W.fnOf x x (defArgs st) (defBody st) (defScope st) .none kV dc pm an cd ct
section
variable (P : Program) (w : World) (K : PySem.W.Frag) (mg : Str → Option Value) (base : Heap)
/-- the def of this name, promised -/
def Cal (CX : CXT) (k : Nat) (x : Str) (st : Stmt) (ps : List Str) (sp : Sp) : Prop := ∃ (f : Addr) (fd : FuncData), FnOk P w K mg base CX k f fd ps sp ∧ mg x = some (.ref f) ∧ PySem.W.keepIn K (.ref f) = true ∧ Binds K fd ps [] ∧ FdOf x st fd
/-- .. where no repr runs -/
def CalG (CX : CXT) (k : Nat) (x : Str) (st : Stmt) (ps : List Str) (sp : Sp) : Prop := ∃ (f : Addr) (fd : FuncData), FnG P w K mg base CX k f fd ps sp ∧ mg x = some (.ref f) ∧ PySem.W.keepIn K (.ref f) = true ∧ Binds K fd ps [] ∧ FdOf x st fd
/-- the def of this name as it stands in the text -/
def Def (K : PySem.W.Frag) (mg : Str → Option Value) (x : Str) (st : Stmt) (ps : List Str) : Prop := ∃ (f : Addr) (fd : FuncData), Fun K x x st f fd ∧ mg x = some (.ref f) ∧ Binds K fd ps [] ∧ FdOf x st fd
end
section
variable {P : Program} {w : World} {K : PySem.W.Frag} {mg : Str → Option Value} {base : Heap} {CX : CXT} {k : Nat} {x : Str} {N ps : List Str} {sp : Sp} {st : Stmt}
theorem Cal.G (C : Cal P w K mg base CX k x st ps sp) : CalG P w K mg base CX k x st ps sp := by
  obtain ⟨f, fd, F, m, kp, b, o⟩ := C
  exact ⟨f, fd, .of F, m, kp, b, o⟩
theorem Cal.quiet (C : Cal P w K mg base (L2.CX P w) k x st ps sp) : Cal P w K mg base CX0 k x st ps (fun vs H Q _ => sp vs H Q (fun _ _ _ => False)) := by
  obtain ⟨f, fd, F, m, kp, b, o⟩ := C
  exact ⟨f, fd, Wb.quiet F, m, kp, b, o⟩
theorem Cal.weaken {sp' : Sp} (C : Cal P w K mg base CX k x st ps sp) (h : ∀ vs H Q E, sp' vs H Q E → sp vs H Q E) : Cal P w K mg base CX k x st ps sp' := by
  obtain ⟨f, fd, F, m, kp, b, o⟩ := C
  exact ⟨f, fd, ⟨fun vs H Q E z => F.len vs H Q E (h _ _ _ _ z), fun A outer s H args us vs Q E hr he hb hv hs => F.run A outer s H args us vs Q E hr he hb hv (h _ _ _ _ hs)⟩, m, kp, b, o⟩
theorem Def.ok (D : Def K mg x st ps) (S : FnScope N ps (defScope st)) (len : ∀ vs H Q E, sp vs H Q E → vs.length = ps.length)
    (hbody : ∀ (cdv : Value) (f : Addr) (A : Around) (outer : List Env) (s : Shared) (H : Hp) (vs : List V) (Q : VK) (E : XK), Room k (A.deeper (envOfC x (defScope st) s.heap.objs.size f cdv)) → sp vs H Q E →
      ∃ t, PSs (cxOf CX0 P w K mg base N x (defScope st) f cdv A outer s H E).nox (defBody st) t ∧ t { nx := fun _ H' => Q .non H', rt := Q } (start N vs) H) : Cal P w K mg base CX0 (k + 1) x st ps sp := by
  obtain ⟨f, fd, F, m, b, o⟩ := D
  exact ⟨f, fd, F.ok S len fun cdv => hbody cdv f, m, F.kp, b, o⟩
theorem Def.okX (D : Def K mg x st ps) (S : FnScope N ps (defScope st)) (len : ∀ vs H Q E, sp vs H Q E → vs.length = ps.length)
    (hbody : ∀ (cdv : Value) (f : Addr) (A : Around) (outer : List Env) (s : Shared) (H : Hp) (vs : List V) (Q : VK) (E : XK), Room k (A.deeper (envOfC x (defScope st) s.heap.objs.size f cdv)) → sp vs H Q E →
      ∃ t, PSs (cxOf (L2.CX P w) P w K mg base N x (defScope st) f cdv A outer s H E) (defBody st) t ∧ t { nx := fun _ H' => Q .non H', rt := Q } (start N vs) H) : Cal P w K mg base (L2.CX P w) (k + 1) x st ps sp := by
  obtain ⟨f, fd, F, m, b, o⟩ := D
  exact ⟨f, fd, F.okX S len fun cdv => hbody cdv f, m, F.kp, b, o⟩
theorem Def.okG (D : Def K mg x st ps) (S : FnScope N ps (defScope st)) (len : ∀ vs H Q E, sp vs H Q E → vs.length = ps.length)
    (hbody : ∀ (cdv : Value) (f : Addr) (A : Around) (outer : List Env) (s : Shared) (H : Hp) (vs : List V) (Q : VK) (E : XK),
      (A.deeper (envOfC x (defScope st) s.heap.objs.size f cdv)).guards = some [] → Room k (A.deeper (envOfC x (defScope st) s.heap.objs.size f cdv)) → sp vs H Q E →
      ∃ t, PSs (cxOf CX P w K mg base N x (defScope st) f cdv A outer s H E) (defBody st) t ∧ t { nx := fun _ H' => Q .non H', rt := Q } (start N vs) H) : CalG P w K mg base CX (k + 1) x st ps sp := by
  obtain ⟨f, fd, F, m, b, o⟩ := D
  exact ⟨f, fd, Wb.okG F S len fun cdv => hbody cdv f, m, F.kp, b, o⟩
end
section
variable {X : Cx} {CX : CXT} {k : Nat} {ps ks : List Str} {sp : Sp} {E : XK} {x : Str} {st : Stmt} {p pos : Pos} {e : Expr} {es : List Expr} {t : TA}
theorem pe_cal (C : Cal X.prog X.w X.K X.mg X.base CX k x st ps sp) (hr : Room k X.A) (hg : Gl X x) (hx : Passes CX X E)
    (ha : PA X (e :: es) t) (hdb : (x == ("__debug__" : Str)) = false := by decide) (he : starEach (e :: es) X.env = (false, eval e X.env) :: starEach es X.env := by rfl) (hpl : (backTo pos (starEach es X.env)).any (·.1) = false := by rfl) :
    PE X (.Call (.Name x p) (e :: es) [] pos) (tCall sp [] E t) := by
  obtain ⟨f, fd, F, m, kp, b, o⟩ := C
  exact pe_call F hr hg m kp b .nil hx ha hdb he hpl
theorem pe_cal0 (C : Cal X.prog X.w X.K X.mg X.base CX k x st ps sp) (hr : Room k X.A) (hg : Gl X x) (hx : Passes CX X E) (hdb : (x == ("__debug__" : Str)) = false := by decide) : PE X (.Call (.Name x p) [] [] pos) (tCall sp [] E tNil) := by
  obtain ⟨f, fd, F, m, kp, b, o⟩ := C
  exact pe_call0 F hr hg m kp b .nil hx hdb
theorem pe_calG (C : CalG X.prog X.w X.K X.mg X.base CX k x st ps sp) (gd : X.A.guards = some []) (hr : Room k X.A) (hg : Gl X x) (hx : Passes CX X E)
    (ha : PA X (e :: es) t) (hdb : (x == ("__debug__" : Str)) = false := by decide) (he : starEach (e :: es) X.env = (false, eval e X.env) :: starEach es X.env := by rfl) (hpl : (backTo pos (starEach es X.env)).any (·.1) = false := by rfl) :
    PE X (.Call (.Name x p) (e :: es) [] pos) (tCall sp [] E t) := by
  obtain ⟨f, fd, F, m, kp, b, o⟩ := C
  exact pe_callG F gd hr hg m kp b .nil hx ha hdb he hpl
/-- a def that may raise, called where it is caught, or let out -/
theorem pe_calS {E : L2.St → XK} (C : Cal X.prog X.w X.K X.mg X.base CX k x st ps sp) (hr : Room k X.A) (hg : Gl X x) (hx : ∀ σ, PassesAt CX X σ (E σ))
    (ha : PA X (e :: es) t) (hdb : (x == ("__debug__" : Str)) = false := by decide) (he : starEach (e :: es) X.env = (false, eval e X.env) :: starEach es X.env := by rfl) (hpl : (backTo pos (starEach es X.env)).any (·.1) = false := by rfl) :
    PE X (.Call (.Name x p) (e :: es) [] pos) (tCallS sp E t) := by
  obtain ⟨f, fd, F, m, kp, b, o⟩ := C
  exact pe_callS F hr hg m kp b hx ha hdb he hpl
end
/-- f(k = v, ..): ix tells, for each parameter, the place of its keyword among those written -/
def kwV (ix : List Nat) (zs : List V) : List V := ix.map fun i => zs.getD i .non
def kwU (ix : List Nat) (zs : List Value) : List Value := ix.map fun i => zs.getD i .none
theorem kw_rel {vs : List V} {us : List Value} (r : Vals vs us) : ∀ ix : List Nat, Vals (kwV ix vs) (kwU ix us)
  | [] => .nil
  | i :: ix => by
    refine .cons ?_ (kw_rel r ix)
    have go : ∀ {vs : List V} {us : List Value}, Vals vs us → ∀ i : Nat, RelV (vs.getD i .non) (us.getD i .none) := by
      intro vs us r
      induction r with
      | nil => intro i; exact rfl
      | cons h _ ih =>
        intro i
        cases i with
        | zero => exact h
        | succ i => exact ih i
    exact go r i
/-- how the keywords of such a call bind -/
def Kw (x : Str) (st : Stmt) (ps ks : List Str) (ix : List Nat) : Prop := ix.length = ps.length ∧ ∀ (kV dc pm : Value) (an : Option Addr) (cd ct : Value) (s : Shared) (ws : List Value), ws.length = ks.length →
  BindsTo s (PySem.W.fnOf x x (defArgs st) (defBody st) (defScope st) .none kV dc pm an cd ct) ⟨[], ks.zip ws⟩ (ps.zip (kwU ix ws))
section
variable {X : Cx} {CX : CXT} {k : Nat} {ps ks : List Str} {sp : Sp} {E : XK} {x : Str} {p pos : Pos} {st : Stmt} {kws : List Keyword} {tk : TA} {ix : List Nat}
def tCalK (sp : Sp) (ix : List Nat) (n : Nat) (E : XK) (tk : TA) : TE := fun σ H Q => tk σ H fun zs H2 => zs.length = n ∧ sp (kwV ix zs) H2 Q E
theorem pe_calK (C : Cal X.prog X.w X.K X.mg X.base CX k x st ps sp) (hr : Room k X.A) (hg : Gl X x) (hx : Passes CX X E) (hb : Kw x st ps ks ix)
    (hkw : PK X kws tk) (hall : (backToKw pos (keywordEach kws X.env)).all (·.1.isSome) = true := by rfl) (hks : (backToKw pos (keywordEach kws X.env)).filterMap (·.1) = ks := by rfl)
    (hdb : (x == ("__debug__" : Str)) = false := by decide) (hpl : ((backTo pos (starEach [] X.env)).any (·.1) || (backToKw pos (keywordEach kws X.env)).any (·.1.isNone)) = false := by rfl) :
    PE X (.Call (.Name x p) [] kws pos) (tCalK sp ix ks.length E tk) := by
  obtain ⟨f, fd, F, m, kp, b, ⟨kV, dc, pm, an, cd, ct, rfl⟩⟩ := C
  refine ⟨fun pins s σ H Q I h => ?_⟩
  refine wpAny_Call_Name_kw (ld_glob I hg m ?_ hdb)
  refine PySem.W.callWith_KW0 (h₀ := X.base) I.ok.mod.kin kp hall (thn (hkw.run pos pins s σ H _ I h) fun ws s2 ⟨zs, H2, I2, rz, hl, q2⟩ => ⟨I2.kIn, ?_⟩) hpl
  rw [hks]
  have hl2 : ws.length = ks.length := by rw [← rz.length]; exact hl
  have r2 := kw_rel rz ix
  refine wpAny_call (codeAny_mono (F.run X.A X.stack s2 H2 ⟨[], ks.zip ws⟩ (kwU ix ws) (kwV ix zs) _ E hr I2.env0 (hb.2 _ _ _ _ _ _ s2 ws hl2) r2 q2) fun r s' hq => ?_)
  cases r with
  | error e => exact hx pins σ H2 s2 e s' I2 hq
  | ok fl =>
    cases fl with
    | ret u => exact I2.after hq
    | next => exact False.elim hq
    | brk => exact False.elim hq
    | cont => exact False.elim hq
theorem pe_calKG (C : CalG X.prog X.w X.K X.mg X.base CX k x st ps sp) (gd : X.A.guards = some []) (hr : Room k X.A) (hg : Gl X x) (hx : Passes CX X E) (hb : Kw x st ps ks ix)
    (hkw : PK X kws tk) (hall : (backToKw pos (keywordEach kws X.env)).all (·.1.isSome) = true := by rfl) (hks : (backToKw pos (keywordEach kws X.env)).filterMap (·.1) = ks := by rfl)
    (hdb : (x == ("__debug__" : Str)) = false := by decide) (hpl : ((backTo pos (starEach [] X.env)).any (·.1) || (backToKw pos (keywordEach kws X.env)).any (·.1.isNone)) = false := by rfl) :
    PE X (.Call (.Name x p) [] kws pos) (tCalK sp ix ks.length E tk) := by
  obtain ⟨f, fd, F, m, kp, b, ⟨kV, dc, pm, an, cd, ct, rfl⟩⟩ := C
  refine ⟨fun pins s σ H Q I h => ?_⟩
  refine wpAny_Call_Name_kw (ld_glob I hg m ?_ hdb)
  refine PySem.W.callWith_KW0 (h₀ := X.base) I.ok.mod.kin kp hall (thn (hkw.run pos pins s σ H _ I h) fun ws s2 ⟨zs, H2, I2, rz, hl, q2⟩ => ⟨I2.kIn, ?_⟩) hpl
  rw [hks]
  have hl2 : ws.length = ks.length := by rw [← rz.length]; exact hl
  have r2 := kw_rel rz ix
  refine wpAny_call (codeAny_mono (F.go X.A X.stack s2 H2 ⟨[], ks.zip ws⟩ (kwU ix ws) (kwV ix zs) _ E gd hr I2.env0 (hb.2 _ _ _ _ _ _ s2 ws hl2) r2 q2) fun r s' hq => ?_)
  cases r with
  | error e => exact hx pins σ H2 s2 e s' I2 hq
  | ok fl =>
    cases fl with
    | ret u => exact I2.after hq
    | next => exact False.elim hq
    | brk => exact False.elim hq
    | cont => exact False.elim hq
end
/-! ### what the head finds -/
/-- a def as the top has left it -/
def FnF (K : PySem.W.Frag) (nm q : Str) (st : Stmt) (f : Addr) : Prop := ∃ (oc : Value) (od : Option Addr) (kV dc pm : Value) (an : Option Addr) (cd ct : Value) (sl : Array (Option Value)),
  K.lookup f = some ⟨oc, od, .func (PySem.W.fnOf nm q (defArgs st) (defBody st) (defScope st) .none kV dc pm an cd ct), sl⟩ ∧ PySem.W.codeIn K cd q = true ∧ PySem.W.keepIn K (.ref f) = true
theorem FnF.mk2 {K : PySem.W.Frag} {nm q : Str} {st : Stmt} {f : Addr} {oc : Value} {od : Option Addr} {kV dc pm : Value} {an : Option Addr} {cd ct : Value} {sl : Array (Option Value)}
    (l : K.lookup f = some ⟨oc, od, .func (PySem.W.fnOf nm q (defArgs st) (defBody st) (defScope st) .none kV dc pm an cd ct), sl⟩) (c : PySem.W.codeIn K cd q = true) (k : PySem.W.keepIn K (.ref f) = true) : FnF K nm q st f := ⟨oc, od, kV, dc, pm, an, cd, ct, sl, l, c, k⟩
theorem FnF.def_ {K : PySem.W.Frag} {mg : Str → Option Value} {h : Heap} (X : K.In h) (G : h.Ns mainGlobals mg) {x : Str} {st : Stmt} {ps : List Str} {f : Addr} (z : PySem.W.nsIn K mainGlobals x = some (some (.ref f))) (y : FnF K x x st f)
    (b : ∀ (kV doc pm : Value) (an : Option Addr) (cdv ct : Value) (us : List Value), us.length = ps.length → bindArgs (PySem.W.fnOf x x (defArgs st) (defBody st) (defScope st) .none kV doc pm an cdv ct) ⟨us, []⟩ = pure (ps.zip us)) : Def K mg x st ps := by
  obtain ⟨oc, od, kV, dc, pm, an, cd, ct, sl, l, c, kp⟩ := y
  exact ⟨f, _, fun_mk l c kp, PySem.W.mg_of X G z, .all (b kV dc pm an cd ct), kV, dc, pm, an, cd, ct, rfl⟩
end Wb

set_option Elab.async false
set_option linter.all false
set_option maxRecDepth 100000
set_option maxHeartbeats 4000000
/-! Wc1: own exceptions by their names: what the head finds of them, how they are raised, caught, asked. -/
namespace Wb
open PySem PySem.Spec PyProof.Rows L2
section
variable {K : PySem.W.Frag}
/-- an own exception's class as the top has left it: what stands above it in its chain, and how it is made -/
def ClsRow (K : PySem.W.Frag) (C : Addr) (top : List Value) (newId : String) : Prop :=
  ∃ (nm q : Str) (N : Addr) (bs : List Value) (sn : List Str) (sub : List Value) (ab : Bool) (col : Option Bool) (dd : Option Addr) (k0 k1 k2 k3 k5 : Option Value),
    K.lookup C = some (excClassObj nm q C N bs top true sn sub ab col dd k0 k1 k2 k3 k5 newId)
structure EF (K : PySem.W.Frag) (C : Addr) (top : List Value) (newId : String) : Prop where
  row : ClsRow K C top newId
  sa : PySem.W.findIn K (.ref C) "__setattr__" = some (some (.builtin "object.__setattr__"))
  ga : PySem.W.findIn K (.ref C) "__getattribute__" = some (some (.builtin "BaseException.__getattribute__"))
  gg : PySem.W.findIn K (.ref C) "__getattr__" = some none
  exc : PySem.W.subIn K (.ref C) (.type "BaseException") = some true
  ty : PySem.W.typeIn K (.ref C) = some (.type "type")
  hd : PySem.W.hasDictIn K C = true
  kp : PySem.W.keepIn K (.ref C) = true
  hc : PySem.W.findIn K (.ref C) "__class__" = some (some (.builtin "object.__class__"))
  hm : PySem.W.mroIn K C (.type "object") = some true
theorem EF.err {C : Addr} {top : List Value} {newId B initId S : String} {bmB bmS : List Value} (e : EF K C top newId) (FB : PySem.ExcBaseFacts B newId initId bmB) (SF : PySem.StoreFacts S bmS "object.__setattr__" "object") (ch : PySem.WbE.Chain top B)
    (tl : PySem.W.excTail bmS top = true) (hn : PySem.W.specialIn K (.builtin "object.__class__") "__get__" = some (some (.builtin "getset_descriptor.__get__"))) (ht : PySem.W.takesIn K (.builtin "object.__class__") = some true) : ErrC K C := by
  obtain ⟨nm, q, N, bs, sn, sub, ab, col, dd, k0, k1, k2, k3, k5, xL⟩ := e.row
  refine ⟨⟨B, newId, initId, bmB, nm, q, N, bs, top, sn, sub, ab, col, dd, k0, k1, k2, k3, k5, FB, ch, xL⟩, ⟨S, bmS, SF, ?_⟩, e.sa, e.ga, e.gg, e.exc, e.ty, e.hd, e.kp, e.hc, hn, ht, e.hm⟩
  unfold PySem.W.excOver PySem.W.clsIn
  rw [xL]
  show (C == C && PySem.W.excTail bmS top) = true
  rw [tl]
  simp
/-- what is below what -/
structure Row (K : PySem.W.Frag) (C : Addr) (top : List Value) : Prop where
  sub : ∀ v, PySem.W.subIn K (.ref C) v = some ((Value.ref C :: top).contains v)
  cls : (PySem.W.clsIn K C).isSome = true
  ty : PySem.W.typeIn K (.ref C) = some (.type "type")
theorem EF.chain {C : Addr} {top : List Value} {newId : String} (e : EF K C top newId) : Row K C top := by
  obtain ⟨nm, q, N, bs, sn, sub, ab, col, dd, k0, k1, k2, k3, k5, xL⟩ := e.row
  refine ⟨fun v => ?_, ?_, e.ty⟩
  · show PySem.W.mroIn K C v = _
    unfold PySem.W.mroIn PySem.W.clsIn
    rw [xL]
    rfl
  · unfold PySem.W.clsIn
    rw [xL]
    rfl
theorem Row.one_ty {C : Addr} {top : List Value} {X : String} (r : Row K C top) (km : PySem.W.kitMeta X = true) : PySem.W.kitOne K (.ref C) (.type X) = some (top.contains (.type X)) := by
  unfold PySem.W.kitOne
  rw [if_neg (by simp)]
  show (if PySem.W.kitMeta X = true then PySem.W.subIn K (.ref C) (.type X) else none) = _
  rw [if_pos km, r.sub]
  simp
theorem Row.one_ref {C D : Addr} {top up : List Value} (r : Row K C top) (r2 : Row K D up) : PySem.W.kitOne K (.ref C) (.ref D) = some (decide (C = D) || top.contains (.ref D)) := by
  unfold PySem.W.kitOne
  by_cases h : C = D
  · subst h
    rw [if_pos (by simp)]
    simp
  · rw [if_neg (by simpa using h)]
    show (if ((PySem.W.clsIn K D).isSome && PySem.W.typeIn K (.ref D) == some (.type "type")) = true then PySem.W.subIn K (.ref C) (.ref D) else none) = _
    rw [r2.cls, r2.ty, if_pos (by simp), r.sub]
    have h' : ¬ D = C := fun e => h e.symm
    simp [h, h']
theorem Row.exm_ref {C D : Addr} {top up : List Value} (r : Row K C top) (r2 : Row K D up) (b : up.contains (.type "BaseException") = true) : PySem.W.exmOne K (.ref C) (.ref D) = some (decide (C = D) || top.contains (.ref D)) := by
  unfold PySem.W.exmOne
  rw [r2.sub, if_pos (by rw [List.contains_cons, b]; simp)]
  show (if ((PySem.W.clsIn K D).isSome && PySem.W.typeIn K (.ref D) == some (.type "type")) = true then PySem.W.subIn K (.ref C) (.ref D) else none) = _
  rw [r2.cls, r2.ty, if_pos (by simp), r.sub]
  by_cases h : C = D
  · subst h
    simp
  · have h' : ¬ D = C := fun e => h e.symm
    simp [h, h']
theorem Row.exm_ty {C : Addr} {top : List Value} {X : String} (r : Row K C top) (km : PySem.W.kitMeta X = true) (b : PySem.W.subIn K (.type X) (.type "BaseException") = some true) : PySem.W.exmOne K (.ref C) (.type X) = some (top.contains (.type X)) := by
  unfold PySem.W.exmOne
  rw [b, if_pos (by simp)]
  show (if PySem.W.kitMeta X = true then PySem.W.subIn K (.ref C) (.type X) else none) = _
  rw [if_pos km, r.sub]
  simp
theorem ClsRow.mk2 {C : Addr} {top : List Value} {newId : String} {nm q : Str} {N : Addr} {bs : List Value} {sn : List Str} {sub : List Value} {ab : Bool} {col : Option Bool} {dd : Option Addr} {k0 k1 k2 k3 k5 : Option Value}
    (l : K.lookup C = some (excClassObj nm q C N bs top true sn sub ab col dd k0 k1 k2 k3 k5 newId)) : ClsRow K C top newId := ⟨nm, q, N, bs, sn, sub, ab, col, dd, k0, k1, k2, k3, k5, l⟩

end
def topE (CB : Addr) : List Value := [.ref CB, .type "Exception", .type "BaseException", .type "object"]
def topK : List Value := [.type "KeyError", .type "LookupError", .type "Exception", .type "BaseException", .type "object"]
def topB : List Value := [.type "Exception", .type "BaseException", .type "object"]
section
variable (P : Program) (w : World) (K : PySem.W.Frag) (mg : Str → Option Value) (base : Heap)
/-- an own exception with one field -/
structure Err (x fld : Str) (C : Addr) (top : List Value) : Prop where
  T : ErrC K C
  g : mg x = some (.ref C)
  row : Row K C top
  no : PySem.W.findIn K (.ref C) fld = some none
  ini : ∃ (fI : Addr) (fd : FuncData), PySem.W.findIn K (.ref C) "__init__" = some (some (.ref fI)) ∧ PySem.W.typeIn K (.ref fI) = some (.type "function") ∧ FnOk P w K mg base CX0 1 fI fd ["self", fld] (spIni C fld) ∧ Binds K fd ["self", fld] []
/-- an own exception without fields -/
structure ErrB (K : PySem.W.Frag) (mg : Str → Option Value) (x : Str) (C : Addr) (top : List Value) : Prop where
  T : ErrC K C
  g : mg x = some (.ref C)
  row : Row K C top
end
section
variable {P : Program} {w : World} {K : PySem.W.Frag} {mg : Str → Option Value} {base : Heap} {x fld y g : Str} {C D B : Addr} {top : List Value}
theorem Err.exm_self (Z : Err P w K mg base x fld C top) (h : top.contains (.type "BaseException") = true) : PySem.W.exmOne K (.ref C) (.ref C) = some true := by
  rw [Z.row.exm_ref Z.row h]
  simp
theorem Err.is_self (Z : Err P w K mg base x fld C top) : PySem.W.kitOne K (.ref C) (.ref C) = some true := by
  rw [Z.row.one_ref Z.row]
  simp
theorem Err.is_base (Z : Err P w K mg base x fld C (topE B)) (ZB : ErrB K mg y B topB) : PySem.W.kitOne K (.ref C) (.ref B) = some true := by
  rw [Z.row.one_ref ZB.row]
  simp [topE]
theorem Err.isnt {up : List Value} (Z : Err P w K mg base x fld C (topE B)) (Y : Err P w K mg base y g D up) (h1 : C ≠ D) (h2 : D ≠ B) : PySem.W.kitOne K (.ref C) (.ref D) = some false := by
  rw [Z.row.one_ref Y.row]
  simp [topE, h1, h2]
end
section
variable {X : Cx} {x fld : Str} {C : Addr} {top : List Value} {k : Nat} {p pos : Pos} {e : Expr} {es : List Expr} {ta : TA}
/-- raise C(e) -/
theorem pmk_E (Z : Err X.prog X.w X.K X.mg X.base x fld C top) (hr : Room k X.A) (hk : 2 ≤ k) (hg : Gl X x) (ha : PA X (e :: es) ta) (hdb : (x == ("__debug__" : Str)) = false := by decide)
    (he : starEach (e :: es) X.env = (false, eval e X.env) :: starEach es X.env := by rfl) (hpl : (backTo pos (starEach es X.env)).any (·.1) = false := by rfl) : PMk X (.Call (.Name x p) (e :: es) [] pos) (tErrX C fld ta) := by
  obtain ⟨fI, fd, iC, tI, F1, hb⟩ := Z.ini
  exact pmk_err Z.T iC tI F1 (hr.mono hk) hb pass0 hg Z.g ha hdb he hpl
end
end Wb

set_option Elab.async false
set_option linter.all false
set_option maxRecDepth 100000
set_option maxHeartbeats 4000000
/-! Wc2: the law's own call, for a def by its name; the head's ends. -/
namespace Wb
open PySem PySem.Spec PyProof.Rows L2

/-- the law's def, promised where no repr runs, called from outside -/
theorem lawG2 {P : Program} {w : World} {K : PySem.W.Frag} {mg mb : Str → Option Value} {CX : CXT} {k : Nat} {fa a : Addr} {x : Str} {sp : Sp} {st : Shared} {vs : List Value} {ns : List Int}
    (inK : K.In st.heap) (names : st.heap.Ns mainGlobals mg) (bns : st.heap.Ns builtinsNs mb) (boot : ∀ x : Str, x ≠ "__name__" → mb x = bootBuiltins x) (lim : st.heap.NoLimit) (nogen : st.gens = #[])
    (atA : st.heap.get? a = some { cls := .type "list", data := .seq vs.toArray }) (areInts : IntsAre vs ns) (short : ns.length ≤ sizeLine) (room : Room k callerA)
    (F : ∀ base : Heap, K.In base → base.Ns mainGlobals mg → ∃ fd : FuncData, (∀ (s : Shared) (u : Value), BindsTo s fd ⟨[u], []⟩ [(x, u)]) ∧ FnG P w K mg base CX k fa fd [x] sp)
    (want : ∀ H : Hp, Only H → SqL K H a (ns.map V.int) → sp [.ref a] H (fun v _ => v = .bl true) fun _ _ _ => False)
    (noX : ∀ H e s', CX [] H st (fun _ _ _ => False) e s' → False) :
    codeAny (model P w) callerA (.call (.ref fa) ⟨[.ref a], []⟩) (fun r s' => r = .ok (.ret (.bool true)) ∧ OldK st.heap s'.heap ∧ s'.os = st.os ∧ AllBare s'.gens) st := by
  have rel := vals_ints areInts
  have same := areInts.length
  -- what is told of any abstract heap that tracks the script at most
  suffices go : ∀ H : Hp, Only H → SqL K H a (ns.map V.int) → HOk P w H st.heap → (∀ b, H b ≠ none → b = a) → (H a ≠ none → K.lookup a = none) →
      codeAny (model P w) callerA (.call (.ref fa) ⟨[.ref a], []⟩) (fun r s' => r = .ok (.ret (.bool true)) ∧ OldK st.heap s'.heap ∧ s'.os = st.os ∧ AllBare s'.gens) st by
    rcases own : K.lookup a with _ | ob
    · -- the script is tracked, as a thing that stands still
      let frozen : HO := .frz { cls := .type "list", data := .seq vs.toArray } (.lst (ns.map V.int))
      refine go (fun b => if b = a then some frozen else none) ?_ ?_ ?_ ?_ (fun _ => own)
      · intro b
        by_cases e : b = a
        · exact Or.inr ⟨_, _, if_pos e⟩
        · exact Or.inl (if_neg e)
      · exact Or.inl (Or.inr ⟨_, if_pos rfl⟩)
      · intro b u e
        by_cases h : b = a
        · subst h
          cases (if_pos rfl).symm.trans e
          exact ⟨atA, by simpa using short, vs, _, rel, atA⟩
        · cases (if_neg h).symm.trans e
      · intro b e
        by_cases h : b = a
        · exact h
        · exact absurd (if_neg h) e
    · -- the script is one of the module's own objects
      have there := inK a ob own
      rw [atA] at there
      cases there
      refine go (fun _ => none) (fun _ => Or.inl rfl) ?_ (fun b u e => ?_) (fun b e => absurd rfl e) (fun e => absurd rfl e)
      · exact Or.inr ⟨_, vs.toArray, _, own, rfl, rfl, rfl, by rw [List.size_toArray, same]; exact short, by simpa using rel⟩
      · have e' : (none : Option HO) = some u := e
        cases e'
  intro H only seq ok just notK
  have keepB : ∀ {b : Addr} {o : Obj}, st.heap.get? b = some o → H b = none → (hidT st.heap H).get? b = some o := fun e n => hidT_get e n
  have dictFree : ∀ {b : Addr} {o : Obj} {es : Array DictEntry} {ep : Nat}, st.heap.get? b = some o → o.data = .dict es ep → H b = none := by
    intro b o es ep e d
    by_cases q : H b = none
    · exact q
    · have h := just b q
      subst h
      rw [atA] at e
      cases e
      have d' : Data.seq vs.toArray _ = Data.dict es ep := d
      cases d'
  have nsIn : ∀ {b : Addr} {m : Str → Option Value}, st.heap.Ns b m → (hidT st.heap H).Ns b m := by
    rintro b m ⟨o, es, ep, e, d, r⟩
    exact ⟨o, es, ep, keepB e (dictFree e d), d, r⟩
  have inBase : K.In (hidT st.heap H) := by
    intro b o e
    refine keepB (inK b o e) ?_
    by_cases q : H b = none
    · exact q
    · have h := just b q
      subst h
      rw [notK q] at e
      cases e
  have md : Mod K mg (hidT st.heap H) := by
    obtain ⟨mc, l1, l2⟩ := lim
    exact ⟨inBase, nsIn names, ⟨mb, nsIn bns, boot⟩, ⟨mc, nsIn l1, l2⟩⟩
  have env0 : Env0 P w K mg (hidT st.heap H) callerA [] st H :=
    ⟨rfl, md, fun b o e => of_hidT e, Nat.le_of_eq (hidT_size _ _), trivial, fun b hb => absurd (show b ∈ ([] : List Addr) from hb) (by simp), ok, .of_eq nogen⟩
  obtain ⟨fd, bind1, FF⟩ := F _ inBase (nsIn names)
  have ran := FF.go callerA [] st H ⟨[.ref a], []⟩ [.ref a] [.ref a] _ _ rfl room env0 (bind1 st (.ref a)) (.cons rfl .nil) (want H only seq)
  refine codeAny_mono ran ?_
  intro r s' h
  match r, h with
  | .error e, h => exact (noX H e s' h).elim
  | .ok (.ret u), h =>
    obtain ⟨v, H', os, bare, un, ok', rv, q⟩ := h
    have q' : v = .bl true := q
    subst q'
    obtain rfl : u = Value.bool true := rv
    refine ⟨rfl, OldK.of_keep ?_, os, bare⟩
    intro b o e
    by_cases q : H b = none
    · exact un.keep b o e q (fun z => absurd (show b ∈ ([] : List Addr) from z) (by simp)) (by simp)
    · rcases only b with z | ⟨ob, xs, z⟩
      · exact absurd z q
      · obtain ⟨e1, _⟩ := ok b _ z
        obtain ⟨e2, _⟩ := ok' b _ (un.frzs b ob _ z)
        rw [e] at e1
        cases e1
        exact e2

/-- the goal that the head leaves, from such a promise of the law's def -/
theorem walkG2 {l : PySem.W.OpenLaw} {n k : Nat} {q : Program} {loose : List Str} {XP : (Str → Option Value) → Heap → Prop} {YP : World → Heap → Prop} {d : DefRec} {K : Params → PySem.W.Frag} {CX : World → CXT} {sp : World → Sp} {x : Str}
    (h1 : l.most = some n) (h2 : n ≤ sizeLine) (h3 : d.params.defaults = []) (room : Room k callerA) (hY : ∀ (w : World) (h : Heap), YP w h → (K w.params).In h)
    (F : ∀ (w : World) (mg : Str → Option Value) (fa : Addr) (h : Heap), (K w.params).In h → h.Ns mainGlobals mg → mg d.name = some (.ref fa) →
      ∀ base : Heap, (K w.params).In base → base.Ns mainGlobals mg → ∃ fd : FuncData, (∀ (s : Shared) (u : Value), BindsTo s fd ⟨[u], []⟩ [(x, u)]) ∧ FnG l.prog w (K w.params) mg base (CX w) k fa fd [x] (sp w))
    (want : ∀ (w : World) (H : Hp) (a : Addr) (ns : List Int), ns.length ≤ n → Only H → SqL (K w.params) H a (ns.map V.int) → sp w [.ref a] H (fun v _ => v = .bl true) fun _ _ _ => False)
    (noX : ∀ (w : World) (H : Hp) (s : Shared) (e : Value) (s' : Shared), CX w [] H s (fun _ _ _ => False) e s' → False) :
    PySem.W.WalkO q loose XP YP l.row.toRowW d [] (fun f vs => PySem.call f vs) := by
  apply Att.attach_call h1 h3
  intro w s₀ s₁ mg mb fa o pm cd doc a vs ns G Y ho hd hcd hmg hobj hints hlen hg
  have inK := hY w _ Y
  have hF := F w mg fa _ inK G.T.g hmg
  exact lawG2 inK G.T.g G.T.b G.T.builtins G.T.nolimit hg hobj hints (Nat.le_trans hlen h2) room hF (fun H hO hS => want w H a ns hlen hO hS) fun H e s' => noX w H s₁ e s'
theorem FnF.fn {K : PySem.W.Frag} {nm q : Str} {st : Stmt} {f : Addr} (h : FnF K nm q st f) : ∃ (kV dc pm : Value) (an : Option Addr) (cd ct : Value), Fun K nm q st f (PySem.W.fnOf nm q (defArgs st) (defBody st) (defScope st) .none kV dc pm an cd ct) := by
  obtain ⟨oc, od, kV, dc, pm, an, cd, ct, sl, l, c, k⟩ := h
  exact ⟨kV, dc, pm, an, cd, ct, fun_mk l c k⟩
/-- what the head needs of the law -/
theorem CalG.law {P : Program} {w : World} {K : PySem.W.Frag} {mg : Str → Option Value} {base : Heap} {k : Nat} {st : Stmt} {sp : Sp} {fa : Addr} (C : CalG P w K mg base CX0 k "law" st ["script"] sp) (hfa : mg "law" = some (.ref fa))
    (hb : ∀ (kV dc pm : Value) (an : Option Addr) (cd ct : Value) (s : Shared) (u : Value), BindsTo s (PySem.W.fnOf "law" "law" (defArgs st) (defBody st) (defScope st) .none kV dc pm an cd ct) ⟨[u], []⟩ [("script", u)]) :
    ∃ fd : FuncData, (∀ (s : Shared) (u : Value), BindsTo s fd ⟨[u], []⟩ [("script", u)]) ∧ FnG P w K mg base CX0 k fa fd ["script"] sp := by
  obtain ⟨f, fd, F, m, _, _, kV, dc, pm, an, cd, ct, rfl⟩ := C
  have e := m.symm.trans hfa
  cases e
  exact ⟨_, hb kV dc pm an cd ct, F⟩
/-- the law of a script -/
def spLaw (K : PySem.W.Frag) : Sp := fun vs H Q _ => ∃ (a : Addr) (ns : List Int), vs = [.ref a] ∧ SqL K H a (ns.map V.int) ∧ ns.length ≤ 63 ∧ ∀ H', Q (.bl true) H'
theorem walk2 {l : PySem.W.OpenLaw} {q : Program} {loose : List Str} {XP : (Str → Option Value) → Heap → Prop} {YP : World → Heap → Prop} {d : DefRec} {K : Params → PySem.W.Frag} {k : Nat} (room : Room k callerA) (hn : l.most = some 63) (hdf : d.params.defaults = [])
    (hY : ∀ (w : World) (h : Heap), YP w h → (K w.params).In h)
    (F : ∀ (w : World) (mg : Str → Option Value) (fa : Addr) (h : Heap), (K w.params).In h → h.Ns mainGlobals mg → mg d.name = some (.ref fa) →
      ∀ base : Heap, (K w.params).In base → base.Ns mainGlobals mg → ∃ fd : FuncData, (∀ (s : Shared) (u : Value), BindsTo s fd ⟨[u], []⟩ [("script", u)]) ∧ FnG l.prog w (K w.params) mg base CX0 k fa fd ["script"] (spLaw (K w.params))) :
    PySem.W.WalkO q loose XP YP l.row.toRowW d [] (fun f vs => PySem.call f vs) :=
  walkG2 (n := 63) (k := k) (x := "script") (CX := fun _ => CX0) (sp := fun w => spLaw (K w.params)) hn (by decide) hdf room hY F (fun _ _ a ns hl _ hS => ⟨a, ns, rfl, hS, hl, fun _ => rfl⟩) fun _ _ _ _ _ z => z
/-- a written tuple of ints -/
theorem tup_of {K : PySem.W.Frag} {a : Addr} {od : Option Addr} {its : Array Value} {n : Nat} {sl : Array (Option Value)} {xs : List V} (l : K.lookup a = some ⟨.type "tuple", od, .seq its n, sl⟩) (hz : its.size ≤ sizeLine) (r : Vals xs its.toList) : ∀ H, SqT K H a xs :=
  fun H => .inr ⟨_, its, n, l, rfl, rfl, hz, r⟩
end Wb

set_option Elab.async false
set_option linter.all false
set_option maxRecDepth 100000
set_option maxHeartbeats 4000000
/-! Wd0: what may be shown, ints of some hundred figures among it. -/
namespace Wb
open PySem PySem.Spec PyProof.Rows L2
/-- what repr asks of data -/
def Shw (d : PyData) : Prop := d.showable = true ∧ d.hasDict = false ∧ d.depth ≤ 60 ∧ d.shown.length ≤ sizeLine
structure Tb (n W : Nat) (e : PyData) : Prop where
  shows : e.showable = true
  noDict : e.hasDict = false
  deep : e.depth ≤ n
  short : e.leavesShort 2000 = true
  light : e.bulk ≤ W
structure TbAll (n W : Nat) (es : List PyData) : Prop where
  shows : PyData.showableAll es = true
  noDict : PyData.hasDictAll es = false
  deep : PyData.depthAll es ≤ n
  short : PyData.leavesShortAll 2000 es = true
  light : PyData.bulkAll es ≤ W
theorem Tb.shw {n W : Nat} {e : PyData} (t : Tb n W e) (h : n ≤ 60 := by decide) (hw : W ≤ 8000 := by decide) : Shw e := by
  refine ⟨t.shows, t.noDict, Nat.le_trans t.deep h, ?_⟩
  have q := PyData.shown_le_bulk 2000 (by decide) e t.short
  have l := t.light
  rw [sizeLine_eq]
  omega
theorem Tb.more {n m W Z : Nat} {e : PyData} (t : Tb n W e) (h1 : n ≤ m) (h2 : W ≤ Z) : Tb m Z e :=
  ⟨t.shows, t.noDict, Nat.le_trans t.deep h1, t.short, Nat.le_trans t.light h2⟩
theorem TbAll.nil {n : Nat} : TbAll n 0 [] := ⟨by simp [PyData.showableAll], by simp [PyData.hasDictAll], by simp [PyData.depthAll], by simp [PyData.leavesShortAll], by simp [PyData.bulkAll]⟩
theorem TbAll.cons {n V W : Nat} {e : PyData} {es : List PyData} (t : Tb n V e) (h : TbAll n W es) : TbAll n (V + 1 + W) (e :: es) := by
  obtain ⟨a1, a2, a3, a4, a5⟩ := t
  obtain ⟨b1, b2, b3, b4, b5⟩ := h
  refine ⟨by simp [PyData.showableAll, a1, b1], by simp [PyData.hasDictAll, a2, b2], ?_, by simp [PyData.leavesShortAll, a4, b4], ?_⟩
  · simp only [PyData.depthAll]
    exact Nat.max_le.mpr ⟨a3, b3⟩
  · simp only [PyData.bulkAll]
    omega
theorem TbAll.of {n W : Nat} : ∀ {es : List PyData}, (∀ e ∈ es, Tb n W e) → TbAll n (es.length * (W + 1)) es
  | [], _ => by
    have := TbAll.nil (n := n)
    simpa using this
  | e :: es, h => by
    have a := TbAll.cons (h e List.mem_cons_self) (TbAll.of fun x hx => h x (List.mem_cons_of_mem _ hx))
    have q : (e :: es).length * (W + 1) = W + 1 + es.length * (W + 1) := by
      rw [List.length_cons, Nat.succ_mul]
      omega
    rw [q]
    exact a
theorem TbAll.more {n m W Z : Nat} {es : List PyData} (t : TbAll n W es) (h1 : n ≤ m) (h2 : W ≤ Z) : TbAll m Z es :=
  ⟨t.shows, t.noDict, Nat.le_trans t.deep h1, t.short, Nat.le_trans t.light h2⟩
theorem TbAll.list {n W : Nat} {es : List PyData} (h : TbAll n W es) : Tb (n + 1) W (.list es) := by
  obtain ⟨b1, b2, b3, b4, b5⟩ := h
  refine ⟨by simpa [PyData.showable] using b1, by simpa [PyData.hasDict] using b2, ?_, by simpa [PyData.leavesShort] using b4, by simpa [PyData.bulk] using b5⟩
  simp only [PyData.depth]
  omega
theorem TbAll.tuple {n W : Nat} {es : List PyData} (h : TbAll n W es) : Tb (n + 1) W (.tuple es) := by
  obtain ⟨b1, b2, b3, b4, b5⟩ := h
  refine ⟨by simpa [PyData.showable] using b1, by simpa [PyData.hasDict] using b2, ?_, by simpa [PyData.leavesShort] using b4, by simpa [PyData.bulk] using b5⟩
  simp only [PyData.depth]
  omega
theorem tb_none : Tb 0 0 .none := ⟨by decide +kernel, by decide +kernel, by decide +kernel, by decide +kernel, by decide +kernel⟩
theorem tb_bool (b : Bool) : Tb 0 0 (.bool b) := by cases b <;> exact ⟨by decide +kernel, by decide +kernel, by decide +kernel, by decide +kernel, by decide +kernel⟩
theorem tb_int {i : Int} (h : i.natAbs < 2 ^ 1900) : Tb 0 0 (.int i) := by
  have l : i.natAbs.log2 < 1900 := log_le h (by decide)
  refine ⟨?_, by simp [PyData.hasDict], by simp [PyData.depth], ?_, by simp [PyData.bulk]⟩
  · simp only [PyData.showable, decide_eq_true_eq]
    omega
  · simp only [PyData.leavesShort, decide_eq_true_eq]
    have := int_text_length_le (a := i) (by decide) l
    show (Str.ofString (toString i)).length ≤ 2000
    have e : (Str.ofString (toString i)).length = (toString i).length := by
      rw [Str.ofString_eq_toList]
      simp [Str.length]
      exact String.length_toList
    rw [e]
    omega
theorem tb_str {x : Str} {n : Nat} (h : ∀ a ∈ x.cps.toList, a < 16 ^ 8) (few : x.length ≤ n) : Tb 0 n (.str x) := by
  refine ⟨by simp [PyData.showable], by simp [PyData.hasDict], by simp [PyData.depth], ?_, ?_⟩
  · simp only [PyData.leavesShort, List.all_eq_true, decide_eq_true_eq]
    exact h
  · simp only [PyData.bulk]
    exact few
end Wb

set_option Elab.async false
set_option linter.all false
set_option maxRecDepth 100000
set_option maxHeartbeats 4000000
/-! Wv0: what an expression is worth, told apart from what may change: a base heap that only grows, values by relations. -/
namespace Wv
open PySem PySem.Spec PyProof.Rows L2 Wb

/-- a base within a heap, and both later: nothing hidden comes into the base -/
structure Ext (B H B' H' : Hp) : Prop where
  hh : Same H H'
  bb : Same B B'
  bh : Same B' H'
  nw : ∀ b, H b ≠ none → B b = none → B' b = none
theorem Ext.refl {B H : Hp} (s : Same B H) : Ext B H B H := ⟨Same.refl _, Same.refl _, s, fun _ _ h => h⟩
theorem Ext.trans {B H B1 H1 B2 H2 : Hp} (a : Ext B H B1 H1) (b : Ext B1 H1 B2 H2) : Ext B H B2 H2 :=
  ⟨a.hh.trans b.hh, a.bb.trans b.bb, b.bh, fun x h1 h2 => by
    refine b.nw x ?_ (a.nw x h1 h2)
    cases e : H x with
    | none => exact absurd e h1
    | some o =>
      rw [a.hh x o e]
      exact fun z => nomatch z⟩
/-- a new object, in the base too -/
theorem Ext.new {B H : Hp} {p : Addr} {o : HO} (s : Same B H) (h : H p = none) : Ext B H (upd B p o) (upd H p o) :=
  ⟨new_same h, new_same (s.free h), fun b u z => by
    by_cases e : b = p
    · subst e
      rw [upd_same] at *
      exact z
    · rw [upd_ne e] at *
      exact s b u z, fun b h1 h2 => by
    have e : b ≠ p := fun e => h1 (by rw [e]; exact h)
    rw [upd_ne e]
    exact h2⟩
/-- .. of the heap alone -/
theorem Ext.own {B H : Hp} {p : Addr} {o : HO} (s : Same B H) (h : H p = none) : Ext B H B (upd H p o) :=
  ⟨new_same h, Same.refl _, s.trans (new_same h), fun _ _ h => h⟩

/-! ### relations -/
abbrev Rel := Hp → V → Prop
class Mo (R : Rel) : Prop where
  mo : ∀ {B B' : Hp} {v : V}, Same B B' → R B v → R B' v
def dat (K : PySem.W.Frag) (d : PyData) : Rel := fun B v => Dp K B v d
instance {K : PySem.W.Frag} {d : PyData} : Mo (dat K d) := ⟨fun s h => dpMono s d _ h⟩
def AllR : List Rel → Hp → List V → Prop
  | [], _, vs => vs = []
  | R :: Rs, B, vs => ∃ v r, vs = v :: r ∧ R B v ∧ AllR Rs B r
class MoA (Rs : List Rel) : Prop where
  mo : ∀ {B B' : Hp} {vs : List V}, Same B B' → AllR Rs B vs → AllR Rs B' vs
instance : MoA [] := ⟨fun _ h => h⟩
instance {R : Rel} {Rs : List Rel} [m : Mo R] [t : MoA Rs] : MoA (R :: Rs) := ⟨fun s ⟨v, r, e, h, g⟩ => ⟨v, r, e, m.mo s h, t.mo s g⟩⟩
theorem moA_of {Rs : List Rel} (h : ∀ R ∈ Rs, Mo R) : MoA Rs := by
  induction Rs with
  | nil => exact inferInstance
  | cons R Rs ih =>
    have := h R List.mem_cons_self
    have := ih fun R hR => h R (List.mem_cons_of_mem _ hR)
    exact inferInstance
instance {K : PySem.W.Frag} {ds : List PyData} : MoA (ds.map (dat K)) := moA_of fun R h => by
  obtain ⟨d, _, rfl⟩ := List.mem_map.mp h
  exact inferInstance
theorem allR_dp {K : PySem.W.Frag} {B : Hp} : ∀ {ds : List PyData} {vs : List V}, AllR (ds.map (dat K)) B vs → DpAll K B vs ds
  | [], _, h => by
    have h : _ = [] := h
    subst h
    exact .nil
  | d :: ds, _, h => by
    obtain ⟨v, r, rfl, h1, h2⟩ := h
    exact .cons h1 (allR_dp h2)
theorem dp_allR {K : PySem.W.Frag} {B : Hp} : ∀ {ds : List PyData} {vs : List V}, DpAll K B vs ds → AllR (ds.map (dat K)) B vs
  | _, _, .nil => rfl
  | _, _, .cons h t => ⟨_, _, rfl, h, dp_allR t⟩
theorem allR_len {B : Hp} : ∀ {Rs : List Rel} {vs : List V}, AllR Rs B vs → vs.length = Rs.length
  | [], _, h => by
    have h : _ = [] := h
    subst h
    rfl
  | R :: Rs, _, h => by
    obtain ⟨v, r, rfl, _, h2⟩ := h
    simp [allR_len h2]
theorem allR_at {B : Hp} : ∀ {Rs : List Rel} {vs : List V} {i : Nat} {v : V}, AllR Rs B vs → vs[i]? = some v → ∃ R, Rs[i]? = some R ∧ R B v
  | [], _, _, _, h, z => by
    have h : _ = [] := h
    subst h
    cases z
  | R :: Rs, _, 0, _, h, z => by
    obtain ⟨v, r, rfl, h1, _⟩ := h
    cases z
    exact ⟨R, rfl, h1⟩
  | R :: Rs, _, i + 1, _, h, z => by
    obtain ⟨v, r, rfl, _, h2⟩ := h
    exact allR_at (i := i) h2 z
theorem allR_of {B : Hp} : ∀ {Rs : List Rel} {vs : List V} {i : Nat} {R : Rel}, AllR Rs B vs → Rs[i]? = some R → ∃ v, vs[i]? = some v ∧ R B v
  | R :: Rs, _, 0, _, h, z => by
    obtain ⟨v, r, rfl, h1, _⟩ := h
    cases z
    exact ⟨v, rfl, h1⟩
  | R :: Rs, _, i + 1, _, h, z => by
    obtain ⟨v, r, rfl, _, h2⟩ := h
    exact allR_of (i := i) h2 z
theorem allR_app {B : Hp} : ∀ {Rs Ss : List Rel} {vs ws : List V}, AllR Rs B vs → AllR Ss B ws → AllR (Rs ++ Ss) B (vs ++ ws)
  | [], _, _, _, h, g => by
    have h : _ = [] := h
    subst h
    exact g
  | R :: Rs, _, _, _, h, g => by
    obtain ⟨v, r, rfl, h1, h2⟩ := h
    exact ⟨v, r ++ _, rfl, h1, allR_app h2 g⟩
theorem allR_snoc {B : Hp} {R : Rel} {Rs : List Rel} {vs : List V} {v : V} (h : AllR Rs B vs) (g : R B v) : AllR (Rs ++ [R]) B (vs ++ [v]) := allR_app h ⟨v, [], rfl, g, rfl⟩
/-- a list, a tuple of such -/
def lstR (K : PySem.W.Frag) (Rs : List Rel) : Rel := fun B v => ∃ a xs, v = .ref a ∧ SqL K B a xs ∧ AllR Rs B xs
def tupR (K : PySem.W.Frag) (Rs : List Rel) : Rel := fun B v => ∃ a xs, v = .ref a ∧ SqT K B a xs ∧ AllR Rs B xs
instance {K : PySem.W.Frag} {Rs : List Rel} [m : MoA Rs] : Mo (lstR K Rs) := ⟨fun s ⟨a, xs, e, h, g⟩ => ⟨a, xs, e, s.seq h, m.mo s g⟩⟩
instance {K : PySem.W.Frag} {Rs : List Rel} [m : MoA Rs] : Mo (tupR K Rs) := ⟨fun s ⟨a, xs, e, h, g⟩ => ⟨a, xs, e, seqT s h, m.mo s g⟩⟩
theorem lstR_dat {K : PySem.W.Frag} {ds : List PyData} {B : Hp} {v : V} (h : lstR K (ds.map (dat K)) B v) : dat K (.list ds) B v := by
  obtain ⟨a, xs, rfl, h, g⟩ := h
  exact .lst h (allR_dp g)
theorem tupR_dat {K : PySem.W.Frag} {ds : List PyData} {B : Hp} {v : V} (h : tupR K (ds.map (dat K)) B v) : dat K (.tuple ds) B v := by
  obtain ⟨a, xs, rfl, h, g⟩ := h
  exact .tup h (allR_dp g)
theorem dat_lstR {K : PySem.W.Frag} {ds : List PyData} {B : Hp} {v : V} (h : dat K (.list ds) B v) : lstR K (ds.map (dat K)) B v := by
  cases h with
  | lst h1 h2 => exact ⟨_, _, rfl, h1, dp_allR h2⟩
theorem dat_tupR {K : PySem.W.Frag} {ds : List PyData} {B : Hp} {v : V} (h : dat K (.tuple ds) B v) : tupR K (ds.map (dat K)) B v := by
  cases h with
  | tup h1 h2 => exact ⟨_, _, rfl, h1, dp_allR h2⟩
theorem dat_int {K : PySem.W.Frag} {i : Int} {B : Hp} {v : V} (h : dat K (.int i) B v) : v = .int i := by cases h; rfl
theorem dat_str {K : PySem.W.Frag} {i : Str} {B : Hp} {v : V} (h : dat K (.str i) B v) : v = .str i := by cases h; rfl
theorem dat_bl {K : PySem.W.Frag} {i : Bool} {B : Hp} {v : V} (h : dat K (.bool i) B v) : v = .bl i := by cases h; rfl

/-! ### what evaluates to what -/
def De (te : TE) (σ : L2.St) (B : Hp) (R : Rel) : Prop := ∀ B1 H, Same B B1 → Same B1 H → ∀ Q : VK, (∀ v B' H', Ext B1 H B' H' → R B' v → Q v H') → te σ H Q
def Da (ta : TA) (σ : L2.St) (B : Hp) (Rs : List Rel) : Prop := ∀ B1 H, Same B B1 → Same B1 H → ∀ Q : List V → Hp → Prop, (∀ vs B' H', Ext B1 H B' H' → AllR Rs B' vs → Q vs H') → ta σ H Q
def Dt (tt : TT) (σ : L2.St) (B : Hp) (b : Bool) : Prop := ∀ B1 H, Same B B1 → Same B1 H → ∀ Q : Bool → Hp → Prop, (∀ B' H', Ext B1 H B' H' → Q b H') → tt σ H Q
def Do (to : TO) (σ : L2.St) (B : Hp) (o : Option Int) : Prop := ∀ B1 H, Same B B1 → Same B1 H → ∀ Q : Option Int → Hp → Prop, (∀ B' H', Ext B1 H B' H' → Q o H') → to σ H Q
/-- operations on values -/
def Rv (r : R2) (B : Hp) (R S T : Rel) : Prop := ∀ x y B1 H, Same B B1 → Same B1 H → R B1 x → S B1 y → ∀ Q : VK, (∀ v B' H', Ext B1 H B' H' → T B' v → Q v H') → r x y H Q
def Ru (r : V → Hp → VK → Prop) (B : Hp) (R T : Rel) : Prop := ∀ x B1 H, Same B B1 → Same B1 H → R B1 x → ∀ Q : VK, (∀ v B' H', Ext B1 H B' H' → T B' v → Q v H') → r x H Q
def Rc (r : List V → Hp → VK → Prop) (B : Hp) (Rs : List Rel) (T : Rel) : Prop := ∀ vs B1 H, Same B B1 → Same B1 H → AllR Rs B1 vs → ∀ Q : VK, (∀ v B' H', Ext B1 H B' H' → T B' v → Q v H') → r vs H Q

section
variable {K : PySem.W.Frag} {σ : L2.St} {B B' : Hp} {ta tb te : TE} {tt tu : TT} {R S T U : Rel} {Rs : List Rel} {x v : V}
theorem De.mono (s : Same B B') (h : De te σ B R) : De te σ B' R := fun B1 H s1 s2 => h B1 H (s.trans s1) s2
theorem Da.mono {ta : TA} (s : Same B B') (h : Da ta σ B Rs) : Da ta σ B' Rs := fun B1 H s1 s2 => h B1 H (s.trans s1) s2
theorem Dt.mono {b : Bool} (s : Same B B') (h : Dt tt σ B b) : Dt tt σ B' b := fun B1 H s1 s2 => h B1 H (s.trans s1) s2
theorem De.conv (h : De te σ B R) (f : ∀ B v, R B v → S B v) : De te σ B S := fun B1 H s1 s2 Q q => h B1 H s1 s2 Q fun v B2 H2 e hv => q v B2 H2 e (f _ _ hv)
theorem De.eq {d e : PyData} (h : De te σ B (dat K d)) (z : d = e) : De te σ B (dat K e) := z ▸ h
theorem Dt.eq {b c : Bool} (h : Dt tt σ B b) (z : b = c) : Dt tt σ B c := z ▸ h
theorem De.var {i : Nat} [m : Mo R] (hR : R B v) (h : σ[i]? = some (some v)) : De (tVar i) σ B R := fun B1 H s1 s2 Q q => ⟨v, h, q v B1 H (.refl s2) (m.mo s1 hR)⟩
theorem De.cst (h : ∀ B, R B v) : De (tC v) σ B R := fun B1 H _ s2 Q q => q v B1 H (.refl s2) (h _)
theorem De.int {n : Int} : De (tC (.int n)) σ B (dat K (.int n)) := .cst fun _ => .int n
theorem De.str {z : Str} : De (tC (.str z)) σ B (dat K (.str z)) := .cst fun _ => .str z
theorem De.bl {b : Bool} : De (tC (.bl b)) σ B (dat K (.bool b)) := .cst fun _ => .bl b
theorem De.non : De (tC .non) σ B (dat K .none) := .cst fun _ => .non
theorem Da.nil : Da tNil σ B [] := fun B1 H _ s2 Q q => q [] B1 H (.refl s2) rfl
theorem Da.cons {tr : TA} [m : Mo R] (h : De ta σ B R) (t : Da tr σ B Rs) : Da (tCons ta tr) σ B (R :: Rs) := fun B1 H s1 s2 Q q =>
  h B1 H s1 s2 _ fun v B2 H2 e hv => t B2 H2 (s1.trans e.bb) e.bh _ fun vs B3 H3 e2 hvs => q _ B3 H3 (e.trans e2) ⟨v, vs, rfl, m.mo e2.bb hv, hvs⟩
theorem De.lst {ta : TA} [m : MoA Rs] (h : Da ta σ B Rs) (hz : Rs.length ≤ sizeLine) : De (tLst ta) σ B (lstR K Rs) := fun B1 H s1 s2 Q q =>
  h B1 H s1 s2 _ fun vs B2 H2 e hvs => ⟨by rw [allR_len hvs]; exact hz, fun p hp => q _ (upd B2 p (.lst vs)) _ (e.trans (Ext.new e.bh hp)) ⟨p, vs, rfl, SqL.of upd_same, m.mo (new_same (e.bh.free hp)) hvs⟩⟩
theorem De.tup {ta : TA} [m : MoA Rs] (h : Da ta σ B Rs) (hz : Rs.length ≤ sizeLine) : De (tTup ta) σ B (tupR K Rs) := fun B1 H s1 s2 Q q =>
  h B1 H s1 s2 _ fun vs B2 H2 e hvs => ⟨by rw [allR_len hvs]; exact hz, fun p hp => q _ (upd B2 p (.tup vs)) _ (e.trans (Ext.new e.bh hp)) ⟨p, vs, rfl, SqT.of upd_same, m.mo (new_same (e.bh.free hp)) hvs⟩⟩
theorem De.op {r : R2} [m : Mo R] (ha : De ta σ B R) (hb : De tb σ B S) (hr : Rv r B R S T) : De (tOp r ta tb) σ B T := fun B1 H s1 s2 Q q =>
  ha B1 H s1 s2 _ fun x B2 H2 e hx => hb B2 H2 (s1.trans e.bb) e.bh _ fun y B3 H3 e2 hy => hr x y B3 H3 ((s1.trans e.bb).trans e2.bb) e2.bh (m.mo e2.bb hx) hy Q fun v B4 H4 e3 hv => q v B4 H4 ((e.trans e2).trans e3) hv
theorem De.un {r : V → Hp → VK → Prop} (ha : De ta σ B R) (hr : Ru r B R T) : De (tUn r ta) σ B T := fun B1 H s1 s2 Q q =>
  ha B1 H s1 s2 _ fun x B2 H2 e hx => hr x B2 H2 (s1.trans e.bb) e.bh hx Q fun v B4 H4 e3 hv => q v B4 H4 (e.trans e3) hv
theorem De.cb {r : List V → Hp → VK → Prop} {ta : TA} (ha : Da ta σ B Rs) (hr : Rc r B Rs T) : De (tCB r ta) σ B T := fun B1 H s1 s2 Q q =>
  ha B1 H s1 s2 _ fun x B2 H2 e hx => hr x B2 H2 (s1.trans e.bb) e.bh hx Q fun v B4 H4 e3 hv => q v B4 H4 (e.trans e3) hv
/-- what a def is worth, that changes nothing that was -/
def Pf {α : Type} (args : α → List Rel) (pre : α → Prop) (res : α → Rel) : Sp := fun vs H Q _ => ∃ (B : Hp) (a : α), Same B H ∧ AllR (args a) B vs ∧ pre a ∧ ∀ v B' H', Ext B H B' H' → res a B' v → Q v H'
theorem De.call {α : Type} {args : α → List Rel} {pre : α → Prop} {res : α → Rel} {E : XK} {ta : TA} (a : α) (ha : Da ta σ B (args a)) (hp : pre a) : De (tCall (Pf args pre res) [] E ta) σ B (res a) := fun B1 H s1 s2 Q q =>
  ha B1 H s1 s2 _ fun x B2 H2 e hx => by
    show Pf args pre res (x ++ []) H2 Q E
    rw [List.append_nil]
    exact ⟨B2, a, e.bh, hx, hp, fun v B4 H4 e3 hv => q v B4 H4 (e.trans e3) hv⟩
/-- .. by names: the values as they are written, the parameters' places among them -/
theorem De.callK {α : Type} {args : α → List Rel} {pre : α → Prop} {res : α → Rel} {E : XK} {tk : TA} {ix : List Nat} {n : Nat} (a : α) (ha : Da tk σ B Rs) (hn : Rs.length = n) (hx : ∀ B vs, AllR Rs B vs → AllR (args a) B (kwV ix vs)) (hp : pre a) : De (tCalK (Pf args pre res) ix n E tk) σ B (res a) := fun B1 H s1 s2 Q q =>
  ha B1 H s1 s2 _ fun x B2 H2 e hv => ⟨by rw [allR_len hv]; exact hn, B2, a, e.bh, hx _ _ hv, hp, fun v B4 H4 e3 hv => q v B4 H4 (e.trans e3) hv⟩
theorem Do.none : Do tNoPart σ B none := fun B1 H _ s2 Q q => q B1 H (.refl s2)
theorem Do.some {i : Int} (h : De te σ B (dat K (.int i))) : Do (tPart te) σ B (some i) := fun B1 H s1 s2 Q q =>
  h B1 H s1 s2 _ fun v B2 H2 e hv => ⟨i, dat_int hv, q B2 H2 e⟩
theorem De.sl {r : V → Option Int → Option Int → Hp → VK → Prop} {tl th : TO} {lo hi : Option Int} [m : Mo R] (h : De te σ B R) (h1 : Do tl σ B lo) (h2 : Do th σ B hi)
    (hr : ∀ x B1 H, Same B B1 → Same B1 H → R B1 x → ∀ Q : VK, (∀ v B' H', Ext B1 H B' H' → T B' v → Q v H') → r x lo hi H Q) : De (tSl r te tl th) σ B T := fun B1 H s1 s2 Q q =>
  h B1 H s1 s2 _ fun x B2 H2 e hx => h1 B2 H2 (s1.trans e.bb) e.bh _ fun B3 H3 e2 => h2 B3 H3 ((s1.trans e.bb).trans e2.bb) e2.bh _ fun B4 H4 e3 =>
    hr x B4 H4 (((s1.trans e.bb).trans e2.bb).trans e3.bb) e3.bh (m.mo (e2.bb.trans e3.bb) hx) Q fun v B5 H5 e4 hv => q v B5 H5 (((e.trans e2).trans e3).trans e4) hv

/-! ### tests, choices -/
theorem Dt.test {b : Bool} (h : De te σ B (dat K (.bool b))) : Dt (tTest te) σ B b := fun B1 H s1 s2 Q q => h B1 H s1 s2 _ fun v B2 H2 e hv => ⟨b, dat_bl hv, q B2 H2 e⟩
theorem Dt.tB {b : Bool} (h : De te σ B (dat K (.bool b))) : Dt (tB te) σ B b := fun B1 H s1 s2 Q q => h B1 H s1 s2 _ fun v B2 H2 e hv => ⟨b, dat_bl hv, q B2 H2 e⟩
theorem Dt.and {a b : Bool} (h1 : Dt tt σ B a) (h2 : a = true → Dt tu σ B b) : Dt (tAnd tt tu) σ B (a && b) := fun B1 H s1 s2 Q q => h1 B1 H s1 s2 _ fun B2 H2 e => by
  cases a with
  | true => exact h2 rfl B2 H2 (s1.trans e.bb) e.bh Q fun B3 H3 e3 => q B3 H3 (e.trans e3)
  | false => exact q B2 H2 e
theorem Dt.or {a b : Bool} (h1 : Dt tt σ B a) (h2 : a = false → Dt tu σ B b) : Dt (tOr tt tu) σ B (a || b) := fun B1 H s1 s2 Q q => h1 B1 H s1 s2 _ fun B2 H2 e => by
  cases a with
  | true => exact q B2 H2 e
  | false => exact h2 rfl B2 H2 (s1.trans e.bb) e.bh Q fun B3 H3 e3 => q B3 H3 (e.trans e3)
theorem Dt.not {a : Bool} (h1 : Dt tt σ B a) : Dt (tNot tt) σ B (!a) := fun B1 H s1 s2 Q q => h1 B1 H s1 s2 _ q
theorem Dt.yes : Dt tYes σ B true := fun B1 H _ s2 Q q => q B1 H (.refl s2)
theorem De.ite {b : Bool} (h : Dt tt σ B b) (h1 : b = true → De ta σ B R) (h2 : b = false → De tb σ B R) : De (tIf tt ta tb) σ B R := fun B1 H s1 s2 Q q => h B1 H s1 s2 _ fun B2 H2 e => by
  cases b with
  | true => exact h1 rfl B2 H2 (s1.trans e.bb) e.bh Q fun v B3 H3 e3 => q v B3 H3 (e.trans e3)
  | false => exact h2 rfl B2 H2 (s1.trans e.bb) e.bh Q fun v B3 H3 e3 => q v B3 H3 (e.trans e3)
theorem De.iteD {b : Bool} {d e : PyData} (h : Dt tt σ B b) (h1 : b = true → De ta σ B (dat K d)) (h2 : b = false → De tb σ B (dat K e)) : De (tIf tt ta tb) σ B (dat K (if b = true then d else e)) :=
  .ite h (fun z => by rw [if_pos z]; exact h1 z) (fun z => by rw [if_neg (by rw [z]; decide)]; exact h2 z)
theorem De.andV {a b : Bool} (h1 : De ta σ B (dat K (.bool a))) (h2 : a = true → De tb σ B (dat K (.bool b))) : De (tAndV ta tb) σ B (dat K (.bool (a && b))) := fun B1 H s1 s2 Q q => h1 B1 H s1 s2 _ fun v B2 H2 e hv => ⟨a, dat_bl hv, by
  cases a with
  | true => exact h2 rfl B2 H2 (s1.trans e.bb) e.bh Q fun v B3 H3 e3 => q v B3 H3 (e.trans e3)
  | false => exact q _ B2 H2 e (.bl false)⟩
theorem De.orV {a b : Bool} (h1 : De ta σ B (dat K (.bool a))) (h2 : a = false → De tb σ B (dat K (.bool b))) : De (tOrV ta tb) σ B (dat K (.bool (a || b))) := fun B1 H s1 s2 Q q => h1 B1 H s1 s2 _ fun v B2 H2 e hv => ⟨a, dat_bl hv, by
  cases a with
  | true => exact q _ B2 H2 e (.bl true)
  | false => exact h2 rfl B2 H2 (s1.trans e.bb) e.bh Q fun v B3 H3 e3 => q v B3 H3 (e.trans e3)⟩
theorem De.notV {a : Bool} (h1 : De ta σ B (dat K (.bool a))) : De (tNotV ta) σ B (dat K (.bool (!a))) := fun B1 H s1 s2 Q q => h1 B1 H s1 s2 _ fun v B2 H2 e hv => ⟨a, dat_bl hv, q _ B2 H2 e (.bl _)⟩

/-! ### operations -/
theorem Rv.I0 {f : Int → Int → Int} {i j : Int} : Rv (rI0 fun i j => V.int (f i j)) B (dat K (.int i)) (dat K (.int j)) (dat K (.int (f i j))) := fun x y B1 H _ s2 hx hy Q q =>
  ⟨i, j, dat_int hx, dat_int hy, q _ B1 H (.refl s2) (.int _)⟩
theorem Rv.I0b {f : Int → Int → Bool} {i j : Int} : Rv (rI0 fun i j => V.bl (f i j)) B (dat K (.int i)) (dat K (.int j)) (dat K (.bool (f i j))) := fun x y B1 H _ s2 hx hy Q q =>
  ⟨i, j, dat_int hx, dat_int hy, q _ B1 H (.refl s2) (.bl _)⟩
theorem Rv.I {C : Int → Int → Prop} {f : Int → Int → Int} {i j : Int} (hc : C i j) : Rv (rI C fun i j => V.int (f i j)) B (dat K (.int i)) (dat K (.int j)) (dat K (.int (f i j))) := fun x y B1 H _ s2 hx hy Q q =>
  ⟨i, j, dat_int hx, dat_int hy, hc, q _ B1 H (.refl s2) (.int _)⟩
theorem Rv.addS {x y : Str} (hz : x.length + y.length ≤ sizeLine) : Rv (fun x y H Q => ∃ i j, x = .str i ∧ y = .str j ∧ i.length + j.length ≤ sizeLine ∧ Q (.str (i ++ j)) H) B (dat K (.str x)) (dat K (.str y)) (dat K (.str (x ++ y))) := fun _ _ B1 H _ s2 hx hy Q q =>
  ⟨x, y, dat_str hx, dat_str hy, hz, q _ B1 H (.refl s2) (.str _)⟩
theorem Rv.eqD {d e : PyData} (hd : SeqAt.shaped d = true) (he : SeqAt.shaped e = true) : Rv (rEqD K) B (dat K d) (dat K e) (dat K (.bool (PyData.eqv d e))) := fun x y B1 H _ s2 hx hy Q q =>
  ⟨d, e, dpMono s2 _ _ hx, dpMono s2 _ _ hy, hd, he, q _ B1 H (.refl s2) (.bl _)⟩
theorem Rv.neD {d e : PyData} (hd : SeqAt.shaped d = true) (he : SeqAt.shaped e = true) : Rv (rNeD K) B (dat K d) (dat K e) (dat K (.bool (!PyData.eqv d e))) := fun x y B1 H _ s2 hx hy Q q =>
  ⟨d, e, dpMono s2 _ _ hx, dpMono s2 _ _ hy, hd, he, q _ B1 H (.refl s2) (.bl _)⟩
theorem Rv.inL {d : PyData} {ds : List PyData} (hd : SeqAt.shaped d = true) (he : SeqAt.shaped (.list ds) = true) : Rv (rInD K) B (dat K d) (dat K (.list ds)) (dat K (.bool (ds.any fun z => PyData.eqv z d))) := fun x y B1 H _ s2 hx hy Q q =>
  ⟨d, ds, dpMono s2 _ _ hx, dpMono s2 _ _ hy, hd, he, q _ B1 H (.refl s2) (.bl _)⟩
theorem Rv.notInL {d : PyData} {ds : List PyData} (hd : SeqAt.shaped d = true) (he : SeqAt.shaped (.list ds) = true) : Rv (rNotInD K) B (dat K d) (dat K (.list ds)) (dat K (.bool (!ds.any fun z => PyData.eqv z d))) := fun x y B1 H _ s2 hx hy Q q =>
  ⟨d, ds, dpMono s2 _ _ hx, dpMono s2 _ _ hy, hd, he, q _ B1 H (.refl s2) (.bl _)⟩
theorem allR_atI {xs : List V} {i : Int} (h : AllR Rs B xs) (z : atI Rs i = some R) : ∃ v, atI xs i = some v ∧ R B v := by
  unfold atI at *
  rw [allR_len h]
  cases e : ixN Rs.length i with
  | none =>
    rw [e] at z
    cases z
  | some j =>
    rw [e] at z
    exact allR_of h z
theorem Rv.ixL {i : Int} (z : atI Rs i = some R) : Rv (rIxL K) B (lstR K Rs) (dat K (.int i)) R := fun x y B1 H _ s2 hx hy Q q => by
  obtain ⟨a, xs, rfl, h, g⟩ := hx
  obtain ⟨v, hv, hR⟩ := allR_atI g z
  exact ⟨a, xs, i, v, rfl, dat_int hy, s2.seq h, hv, q v B1 H (.refl s2) hR⟩
theorem Rv.ixT {i : Int} (z : atI Rs i = some R) : Rv (rIxT K) B (tupR K Rs) (dat K (.int i)) R := fun x y B1 H _ s2 hx hy Q q => by
  obtain ⟨a, xs, rfl, h, g⟩ := hx
  obtain ⟨v, hv, hR⟩ := allR_atI g z
  exact ⟨a, xs, i, v, rfl, dat_int hy, seqT s2 h, hv, q v B1 H (.refl s2) hR⟩
theorem atI_map {α β : Type} (f : α → β) {xs : List α} {i : Int} {x : α} (h : atI xs i = some x) : atI (xs.map f) i = some (f x) := by
  unfold atI at *
  rw [List.length_map]
  cases e : ixN xs.length i with
  | none =>
    rw [e] at h
    cases h
  | some j =>
    rw [e] at h
    have h : xs[j]? = some x := h
    show (xs.map f)[j]? = some (f x)
    rw [List.getElem?_map, h]
    rfl
theorem Rv.ixLD {ds : List PyData} {d : PyData} {i : Int} (z : atI ds i = some d) : Rv (rIxL K) B (dat K (.list ds)) (dat K (.int i)) (dat K d) := fun x y B1 H s1 s2 hx hy => Rv.ixL (K := K) (atI_map (dat K) z) x y B1 H s1 s2 (dat_lstR hx) hy
theorem Rv.ixTD {ds : List PyData} {d : PyData} {i : Int} (z : atI ds i = some d) : Rv (rIxT K) B (dat K (.tuple ds)) (dat K (.int i)) (dat K d) := fun x y B1 H s1 s2 hx hy => Rv.ixT (K := K) (atI_map (dat K) z) x y B1 H s1 s2 (dat_tupR hx) hy
/-- tuple + tuple -/
theorem Rv.catT {xs ys : List PyData} (hz : xs.length + ys.length ≤ sizeLine) : Rv (rCatA K) B (dat K (.tuple xs)) (dat K (.tuple ys)) (dat K (.tuple (xs ++ ys))) := fun x y B1 H _ s2 hx hy Q q => by
  have hx' := hx
  have hy' := hy
  obtain ⟨a, us, rfl, h, g⟩ := dat_tupR hx
  obtain ⟨b, ws, rfl, h', g'⟩ := dat_tupR hy
  have l1 := allR_len g
  have l2 := allR_len g'
  rw [List.length_map] at l1 l2
  refine ⟨a, b, us, ws, rfl, rfl, seqT s2 h, seqT s2 h', by omega, fun e => ?_, fun _ e => ?_, fun _ _ p hp => ?_⟩
  · have : xs = [] := List.eq_nil_of_length_eq_zero (by rw [← l1, e]; rfl)
    subst this
    exact q _ B1 H (.refl s2) hy'
  · have : ys = [] := List.eq_nil_of_length_eq_zero (by rw [← l2, e]; rfl)
    subst this
    rw [List.append_nil] at q
    exact q _ B1 H (.refl s2) hx'
  · refine q _ (upd B1 p (.tup (us ++ ws))) _ (Ext.new s2 hp) ?_
    have s := new_same (o := .tup (us ++ ws)) (s2.free hp)
    exact .tup (SqT.of upd_same) (dpMonoAll s _ _ (allR_dp (by rw [List.map_append]; exact allR_app g g')))
end
end Wv

set_option Elab.async false
set_option linter.all false
set_option maxRecDepth 100000
set_option maxHeartbeats 4000000
/-! Ws0: sorted(xs), xs a list of data that are alike, empty tuples among them too. -/
namespace PySem.W
open PySem PySem.Calls PyProof.Rows PySem.SeqAt
section
variable {prog : Program} {w : World} {A : Around} {E : Value → Shared → Prop} {s : Shared}
theorem oneLt_tup {f : Bool} {xs ys : List PyData} {a b : Value} {as bs : List Addr} {Q : Bool → Shared → Prop} (ra : Reads s.heap a (.tuple xs) as) (rb : Reads s.heap b (.tuple ys) bs) (h : alike (.tuple xs) (.tuple ys) = true)
    (hu : A.units + min (PyData.tuple xs).depth (PyData.tuple ys).depth < cLine) (hq : Q (dataLt (.tuple xs) (.tuple ys)) s) : wpAny (model prog w) A (oneLt' f a b) Q E s := by
  cases f with
  | false => exact oneLt_alike (fun z => nomatch z) ra rb h (fun z => nomatch z) hu hq
  | true =>
    have hal : alikeAll xs ys = true := by simpa [alike] using h
    cases ra with
    | @tuple l o vs n _ as₁ h1 h2 h3 h4 =>
      cases rb with
      | @tuple l' o' vs' n' _ bs₁ k1 k2 k3 k4 =>
        have n1 : vs.size = xs.length := by simpa using ReadsAll.length _ _ _ h4
        have n2 : vs'.size = ys.length := by simpa using ReadsAll.length _ _ _ k4
        rw [dataLt_tuple, ← firstLt_toks xs ys hal, ← n1, ← n2] at hq
        rw [oneLt'_eq]
        simp only [if_true]
        refine wpAny_bind (wpAny_cRoomFor (room_here hu) ?_)
        obtain ⟨cls, dd, data, sl⟩ := o
        obtain ⟨cls2, dd2, data2, sl2⟩ := o'
        simp only at h2 h3 k2 k3
        subst h2 h3 k2 k3
        refine wpAny_bind (wpAny_callSpecialIfBound?_slot (T := "tuple") ⟨_, h1, rfl⟩ F.slot_tuple_lt (call_meets F.slot_tuple_lt ⟨_, h1, rfl⟩ F.entry_tuple_lt (F.args_tuple_lt_2 _ _)
          (tuple_ltAt l l' vs vs' n n' dd dd2 sl sl2 (pairEq xs ys) (fun j => dataLt (xs.getD j .none) (ys.getD j .none))) ⟨h1, k1, fun j j1 j2 => ?_, fun j j1 j2 hj => ?_, ?_⟩))
        · have := eqAt_alikeAll xs ys A.in1 s vs.toList vs'.toList _ _ h4 k4 hal (room_in hu) j (by simpa using j1) (by simpa using j2)
          simpa using this
        · have := rcLt_alikeAll xs ys A.in1 s vs.toList vs'.toList _ _ h4 k4 hal (room_in hu) j (by simpa using j1) (by simpa using j2) hj
          simpa using this
        · exact wpAny_truthy_bool hq
def full : PyData → Bool
  | .tuple (_ :: _) => true
  | _ => false
/-- the first items of tuples, empty ones among them -/
theorem firsts_mix : ∀ (vs : List Value) (ds : List PyData) {Q : List (Option Value) → Shared → Prop}, EachIs (fun v d => ∃ as, Reads s.heap v d as) vs ds → (∀ d, d ∈ ds → ∃ xs, d = .tuple xs) →
    (∀ fs : List (Option Value), fs.map (·.isSome) = ds.map full → Q fs s) → wpAny (model prog w) A (vs.mapM firstOfTuple') Q E s
  | _, _, _, .nil, _, h => by
    rw [List.mapM_nil]
    exact wpAny_pure (h [] rfl)
  | _, _, Q, .cons (b := d) (as := vs) (bs := ds) ⟨as, r⟩ t, ht, h => by
    obtain ⟨xs, rfl⟩ := ht d List.mem_cons_self
    cases r with
    | @tuple a o us n _ _ ho hc hd hr =>
      rw [List.mapM_cons]
      refine wpAny_bind ?_
      rw [kas_first_eq]
      refine wpAny_bind (Looks.here (show Looks (model prog w) s.heap (typeOf (.ref a)) o.cls from (Looks.ld ho).andThen .now) ?_)
      rw [hc, if_neg (by first | decide | simp)]
      refine wpAny_bind (listItems_at ho hd (wpAny_pure ?_))
      have e : (us[0]?).isSome = full (.tuple xs) := by
        have n1 : us.size = xs.length := by simpa using ReadsAll.length _ _ _ hr
        cases xs with
        | nil =>
          have : us[0]? = none := by
            rw [Array.getElem?_eq_none_iff, n1]
            exact Nat.le_refl _
          rw [this]
          rfl
        | cons x r =>
          have : 0 < us.size := by rw [n1]; simp
          rw [Array.getElem?_eq_getElem this]
          rfl
      exact wpAny_bind (firsts_mix vs ds (Q := fun bs s' => wpAny (model prog w) A (pure (us[0]? :: bs)) Q E s') t (fun d hd => ht d (List.mem_cons_of_mem _ hd)) fun fs hf => wpAny_pure (h _ (by rw [List.map_cons, List.map_cons, hf, e])))
/-- tuples that are alike can be sorted -/
theorem SortsAt.tups {vs : List Value} {ds : List PyData} (e : EachIs (fun v d => ∃ as, Reads s.heap v d as) vs ds) (hal : AllAlike ds) (ht : ∀ d, d ∈ ds → ∃ xs, d = .tuple xs) (hu : ∀ d, d ∈ ds → A.units + d.depth < cLine) : SortsAt prog w A s (dataKind s.heap ds) vs := by
  by_cases hf : ∀ d, d ∈ ds → full d = true
  · refine SortsAt.data e hal (.inl fun d hd => ?_) hu
    obtain ⟨xs, rfl⟩ := ht d hd
    have := hf _ hd
    cases xs with
    | nil => cases this
    | cons x r => exact ⟨x, r, rfl⟩
  have lt : ∀ kd : SortKind, (∀ x y, keyLt' kd x y = oneLt' true x y) ∨ (∀ x y, keyLt' kd x y = oneLt' false x y) → H.LtAt prog w A s (dataKind s.heap ds) kd := by
    intro kd hk E x y a b Q ha hb hq
    obtain ⟨d, as, hd, ra, rfl⟩ := dataKind_inv ha
    obtain ⟨d', as', hd', rb, rfl⟩ := dataKind_inv hb
    obtain ⟨xs, rfl⟩ := ht d hd
    obtain ⟨ys, rfl⟩ := ht d' hd'
    have room : A.units + min (PyData.tuple xs).depth (PyData.tuple ys).depth < cLine := Nat.lt_of_le_of_lt (Nat.add_le_add_left (Nat.min_le_left _ _) _) (hu _ hd)
    rcases hk with hk | hk
    · rw [hk]
      exact oneLt_tup ra rb (hal _ hd _ hd') room hq
    · rw [hk]
      exact oneLt_tup ra rb (hal _ hd _ hd') room hq
  have hkeys : ∀ v, v ∈ vs → ∃ a, (dataKind s.heap ds).keyOf v = some a := fun v hv => by
    obtain ⟨d, hd, as, r⟩ := e.left v hv
    exact ⟨_, dataKind_some hal hd r⟩
  cases ds with
  | nil => exact absurd (fun d hd => nomatch hd) hf
  | cons d₀ ds₀ =>
    have many : ∀ fs : List (Option Value), fs.map (·.isSome) = (d₀ :: ds₀).map full → fs.toArray.all (·.isSome) = false := by
      intro fs hfs
      rw [Bool.eq_false_iff]
      intro q
      refine hf fun d hd => ?_
      rw [List.all_toArray, List.all_eq_true] at q
      have m : full d ∈ fs.map (·.isSome) := by
        rw [hfs]
        exact List.mem_map.mpr ⟨d, hd, rfl⟩
      obtain ⟨o, ho, eo⟩ := List.mem_map.mp m
      rw [← eo]
      exact q o ho
    have first : ∀ fs : List (Option Value), fs.map (·.isSome) = (d₀ :: ds₀).map full → ((fs.toArray[0]?).bind id).isSome = full d₀ := by
      intro fs hfs
      cases fs with
      | nil => cases hfs
      | cons o r =>
        rw [List.map_cons, List.map_cons] at hfs
        have := (List.cons.inj hfs).1
        simpa using this
    cases hd0 : full d₀ with
    | true =>
      refine ⟨hkeys, general', lt _ (.inr fun _ _ => rfl), fun _ E Q hq => ?_⟩
      rw [keyKind'_eq, List.mapM_toArray, map_eq_pure_bind]
      refine wpAny_bind (wpAny_bind (firsts_mix vs _ e ht fun fs hfs => wpAny_pure ?_))
      rw [if_neg (by rw [many fs hfs]; decide), if_pos (by rw [first fs hfs, hd0])]
      exact wpAny_pure hq
    | false =>
      refine ⟨hkeys, oneType', lt _ (.inl fun _ _ => rfl), fun _ E Q hq => ?_⟩
      rw [keyKind'_eq, List.mapM_toArray, map_eq_pure_bind]
      refine wpAny_bind (wpAny_bind (firsts_mix vs _ e ht fun fs hfs => wpAny_pure ?_))
      rw [if_neg (by rw [many fs hfs]; decide), if_neg (by rw [first fs hfs, hd0]; decide)]
      rw [oneTypeOnly'_eq, List.mapM_toArray, map_eq_pure_bind]
      have tys : ∀ v ∈ vs, ∀ Q' : Value → Shared → Prop, Q' (.type "tuple") s → wpAny (model prog w) A (typeOf v) Q' E s := fun v hv Q' hq' => by
        obtain ⟨d, hd, as, r⟩ := e.left v hv
        obtain ⟨xs, rfl⟩ := ht d hd
        exact (looks_reads r).here hq'
      refine wpAny_bind (wpAny_bind (wpAny_bind (kas_mapM (r := Value.type "tuple") _ (fun v hv Q' hq' => tys v hv Q' hq') (wpAny_pure ?_))))
      cases e with
      | cons h1 t =>
        rename_i v0 vr _
        have h0 : (List.map (fun _ => Value.type "tuple") (v0 :: vr)).toArray[0]? = some (Value.type "tuple") := by simp
        rw [h0]
        have h3 : ((List.map (fun _ => Value.type "tuple") (v0 :: vr)).toArray.all fun x => x == Value.type "tuple") = true := by
          simp only [List.all_toArray, List.all_map, List.all_eq_true]
          intro _ _
          exact beq_self_eq_true _
        dsimp only
        rw [if_pos h3]
        exact wpAny_pure (wpAny_pure hq)
/-- what can be sorted: tuples, or neither tuples nor None -/
def SortOk (ds : List PyData) : Prop := (∀ d, d ∈ ds → ∃ xs, d = .tuple xs) ∨ ∀ d, d ∈ ds → d ≠ .none ∧ ∀ xs, d ≠ .tuple xs
theorem SortsAt.ok {vs : List Value} {ds : List PyData} (e : EachIs (fun v d => ∃ as, Reads s.heap v d as) vs ds) (hal : AllAlike ds) (hk : SortOk ds) (hu : ∀ d, d ∈ ds → A.units + d.depth < cLine) : SortsAt prog w A s (dataKind s.heap ds) vs := by
  rcases hk with h | h
  · exact SortsAt.tups e hal h hu
  · exact SortsAt.data e hal (.inr h) hu
theorem sorted_ok {l : Addr} {β : Type} {vs : List Value} {bs : List β} {enc : β → PyData} {R : Value → β → Prop} {Q : Value → Shared → Prop} (hl : s.heap.IsList l vs.toArray) (e : EachIs R vs bs) (er : EachIs (fun v b => ∃ as, Reads s.heap v (enc b) as) vs bs)
    (hal : AllAlike (bs.map enc)) (hk : SortOk (bs.map enc)) (hL : bs.length ≤ sizeLine)
    (hu : ∀ b, b ∈ bs → A.units + 2 + (enc b).depth < cLine) (h : ∀ out, out.length = bs.length → EachIs R out (bs.mergeSort (dataLe false enc)) → Q (.ref (s.heap.objs.size + 1)) { s with heap := sortedAll s.heap vs (List.toArray out) }) :
    wpAny (model prog w) A (call (.builtin "sorted") [.ref l]) Q E s := by
  have er' : EachIs (fun v b => ∃ as, Reads (sortingHeap (copyHeap s.heap vs) (s.heap.objs.size + 1) vs) v (enc b) as) vs bs := er.mono fun _ _ ⟨as, r⟩ => ⟨as, PyProof.Rows.Reads.keeps (fun _ _ => sorting_copy_old) r⟩
  exact sorted_vals hl (SortsAt.ok (s := { s with heap := sortingHeap (copyHeap s.heap vs) (s.heap.objs.size + 1) vs }) (each_map (R := fun v d => ∃ as, Reads (sortingHeap (copyHeap s.heap vs) (s.heap.objs.size + 1) vs) v d as) enc er') hal hk (bound_map hu)) (by rw [e.length]; exact hL)
    (h _ (by rw [sortVals_length false rfl]; exact e.length) (sortVals_data false e er' hal))
end
end PySem.W
namespace Wb
open PySem PySem.Spec PyProof.Rows L2
/-- the order of data -/
def dle (x y : PyData) : Bool := PySem.W.dataLe false (fun d : PyData => d) x y
def sortD (ds : List PyData) : List PyData := ds.mergeSort dle
/-- the values in that order -/
def sortV (xs : List V) (ds : List PyData) : List V := ((xs.zip ds).mergeSort fun a b => dle a.2 b.2).map Prod.fst
/-- sorted(xs) of a list of data -/
def rSortedD (K : PySem.W.Frag) : List V → Hp → VK → Prop := fun vs H Q => ∃ (a : Addr) (xs : List V) (ds : List PyData), vs = [.ref a] ∧ SqL K H a xs ∧ DpAll K H xs ds ∧ PySem.W.AllAlike ds ∧ PySem.W.SortOk ds ∧ (∀ d ∈ ds, d.depth ≤ 60) ∧
  ∀ p, H p = none → Q (.ref p) (upd H p (.lst (sortV xs ds)))
theorem dpAll_pairs {K : PySem.W.Frag} {H : Hp} : ∀ {l : List (V × PyData)}, (∀ p ∈ l, Dp K H p.1 p.2) → DpAll K H (l.map Prod.fst) (l.map Prod.snd)
  | [], _ => .nil
  | p :: l, h => .cons (h p List.mem_cons_self) (dpAll_pairs fun q hq => h q (List.mem_cons_of_mem _ hq))
theorem pairs_dpAll {K : PySem.W.Frag} {H : Hp} : ∀ {xs : List V} {ds : List PyData}, DpAll K H xs ds → ∀ p ∈ xs.zip ds, Dp K H p.1 p.2
  | _, _, .nil => fun p h => nomatch h
  | _, _, .cons h t => fun p hp => by
    rcases List.mem_cons.mp hp with e | hp
    · rw [e]
      exact h
    · exact pairs_dpAll t p hp
theorem each_pairs {X : Cx} {pins : List (Addr × Obj)} {σ : L2.St} {H : Hp} {s : Shared} (I : Inv X pins σ H s) : ∀ {xs : List V} {its : List Value} {ds : List PyData}, Vals xs its → DpAll X.K H xs ds →
    PySem.W.EachIs (fun (v : Value) (b : V × PyData) => RelV b.1 v ∧ Dp X.K H b.1 b.2) its (xs.zip ds)
  | _, _, _, .nil, .nil => .nil
  | _, _, _, .cons r t, .cons h g => .cons ⟨r, h⟩ (each_pairs I t g)
theorem pairs_out {K : PySem.W.Frag} {H : Hp} : ∀ {out : List Value} {bs : List (V × PyData)}, PySem.W.EachIs (fun (v : Value) (b : V × PyData) => RelV b.1 v ∧ Dp K H b.1 b.2) out bs → Vals (bs.map Prod.fst) out ∧ DpAll K H (bs.map Prod.fst) (bs.map Prod.snd)
  | _, _, .nil => ⟨.nil, .nil⟩
  | _, _, .cons h t => by
    obtain ⟨a, b⟩ := pairs_out t
    exact ⟨.cons h.1 a, .cons h.2 b⟩
theorem zip_snd : ∀ {xs : List V} {ds : List PyData}, xs.length = ds.length → (xs.zip ds).map Prod.snd = ds
  | [], [], _ => rfl
  | x :: xs, d :: ds, h => by
    rw [List.zip_cons_cons, List.map_cons, zip_snd (by simpa using h)]
theorem dp_sort {K : PySem.W.Frag} {H : Hp} {xs : List V} {ds : List PyData} (h : DpAll K H xs ds) : DpAll K H (sortV xs ds) (sortD ds) := by
  have e : ((xs.zip ds).mergeSort fun a b => dle a.2 b.2).map Prod.snd = sortD ds := by
    unfold sortD
    rw [List.map_mergeSort (s := dle) (f := Prod.snd) (fun a _ b _ => rfl), zip_snd (dpAll_len h)]
  rw [← e]
  exact dpAll_pairs fun p hp => pairs_dpAll h p ((List.mergeSort_perm _ _).mem_iff.mp hp)
section
variable {X : Cx}
theorem cr_sortedD (hu : X.A.units + 64 < cLine) : CallR X (.builtin "sorted") (rSortedD X.K) := by
  intro pins s σ H vs us Q I r h
  obtain ⟨a, xs, ds, rfl, hs, hd, hal, hk, hdep, q⟩ := h
  obtain ⟨its, rv, hl, hz⟩ := I.list hs
  obtain ⟨u, rfl, ru⟩ := vals1 r
  obtain rfl : u = Value.ref a := ru
  have len : xs.length = ds.length := dpAll_len hd
  have em : (xs.zip ds).map Prod.snd = ds := zip_snd len
  have e := each_pairs I rv hd
  have er : PySem.W.EachIs (fun (v : Value) (b : V × PyData) => ∃ as, Reads s.heap v b.2 as) its (xs.zip ds) := e.mono fun v b h => Dp.reads I b.2 b.1 v h.2 h.1
  refine PySem.W.sorted_ok (enc := Prod.snd) hl.isList e er (by rw [em]; exact hal) (by rw [em]; exact hk) (by rw [List.length_zip]; omega) (fun b hb => ?_) fun out ho eo => ?_
  · have := hdep b.2 (List.of_mem_zip hb).2
    omega
  · obtain ⟨o1, o2⟩ := pairs_out eo
    obtain ⟨c, hc⟩ := PyProof.Rows.sortedAll_at s.heap its out.toArray
    have ln : (((xs.zip ds).mergeSort (PySem.W.dataLe false Prod.snd)).map Prod.fst).length ≤ sizeLine := by
      rw [List.length_map, List.length_mergeSort, List.length_zip]
      omega
    exact ⟨.ref (s.heap.objs.size + 1), upd H (s.heap.objs.size + 1) (.lst (((xs.zip ds).mergeSort (PySem.W.dataLe false Prod.snd)).map Prod.fst)), I.laid (t' := s.toks) (fun _ _ => PyProof.Rows.sortedAll_old) (Nat.le_succ _) ⟨ln, out, c, o1, hc⟩, rfl, q _ (I.hok.fresh (Nat.le_succ _))⟩
end
end Wb

set_option Elab.async false
set_option linter.all false
set_option maxRecDepth 100000
set_option maxHeartbeats 4000000
/-! Wv1: what is walked, loops, comprehensions, built-in functions, objects that never change. -/
namespace Wv
open PySem PySem.Spec PyProof.Rows L2 Wb

/-! ### more rules of the language -/
section
variable {X : Cx}
/-- list + list -/
def rCatS (K : PySem.W.Frag) : R2 := fun x y H Q => ∃ l b xs zs, x = .ref l ∧ y = .ref b ∧ SqL K H l xs ∧ SqL K H b zs ∧ xs.length + zs.length ≤ sizeLine ∧ ∀ p, H p = none → Q (.ref p) (upd H p (.lst (xs ++ zs)))
theorem op_catS : OpR X (binaryOp .Add) (rCatS X.K) := by
  intro pins s σ H x y v u Q I rx ry h
  obtain ⟨l, b, xs, zs, rfl, rfl, hl, hb, hz, q⟩ := h
  cases rx
  cases ry
  obtain ⟨its, r, ⟨⟨c1, d1, t1, sl1⟩, n, e, hc, hd, ht⟩, z1⟩ := I.list hl
  obtain ⟨its2, r2, ⟨⟨c2, d2, t2, sl2⟩, n2, e2, hc2, hd2, ht2⟩, z2⟩ := I.list hb
  simp only at hc hd ht hc2 hd2 ht2
  subst hc hd ht hc2 hd2 ht2
  have hlen := r.length
  have hlen2 := r2.length
  refine concat_meets ⟨_, e, rfl⟩ ⟨_, e2, rfl⟩ noFill_list_add seq_list_add PySem.F.slot_list_add PySem.F.entry_list_add (PySem.F.args_list_add_2 _ _) (list_addW l b its.toArray its2.toArray n n2 none none sl1 sl2 (by rw [List.size_toArray, List.size_toArray]; omega)) ⟨e, e2, ?_⟩
  have ea : its.toArray ++ its2.toArray = (its ++ its2).toArray := by simp
  rw [ea]
  exact ⟨.ref _, _, I.lnew (t' := s.toks) (r.append r2) (by rw [List.length_append]; omega), rfl, q _ I.fresh⟩
/-- x in t, a tuple of data -/
def rInT (K : PySem.W.Frag) (neg : Bool) : R2 := fun x y H Q => ∃ d ds, Dp K H x d ∧ Dp K H y (.tuple ds) ∧ SeqAt.shaped d = true ∧ SeqAt.shaped (.tuple ds) = true ∧ Q (.bl (if neg = true then !ds.any fun z => PyData.eqv z d else ds.any fun z => PyData.eqv z d)) H
theorem room_in_shaped' {ds : List PyData} {d : PyData} {u : Nat} (sd : SeqAt.shaped d = true) (hu : u + 65 < cLine) : u + 1 + min (PyData.depthAll ds) d.depth < cLine := by
  have h : d.depth ≤ 64 := by
    unfold SeqAt.shaped at sd
    rw [Bool.and_eq_true] at sd
    exact of_decide_eq_true sd.2
  omega
theorem canLay_tup {ds : List PyData} (h : SeqAt.shaped (.tuple ds) = true) : PyData.canLayAll0 ds = true := by
  unfold SeqAt.shaped at h
  rw [Bool.and_eq_true] at h
  simpa only [PyData.canLay0] using h.1
theorem op_inT (hu : X.A.units + 65 < cLine) : OpR X (compareOp .In) (rInT X.K false) := by
  intro pins s σ H x y v u Q I rx ry h
  obtain ⟨d, ds, hd, he, sd, se, q⟩ := h
  obtain ⟨as, r1⟩ := Dp.reads I d x v hd rx
  obtain ⟨bs, r2⟩ := Dp.reads I (.tuple ds) y u he ry
  exact SeqAt.in_tuple_reads r2 r1 (canLay_tup se) (SeqAt.canLay_of_shaped sd) (room_in_shaped' sd hu) ⟨.bl _, H, I, rfl, q⟩
theorem op_notInT (hu : X.A.units + 65 < cLine) : OpR X (compareOp .NotIn) (rInT X.K true) := by
  intro pins s σ H x y v u Q I rx ry h
  obtain ⟨d, ds, hd, he, sd, se, q⟩ := h
  obtain ⟨as, r1⟩ := Dp.reads I d x v hd rx
  obtain ⟨bs, r2⟩ := Dp.reads I (.tuple ds) y u he ry
  exact SeqAt.notIn_tuple_reads r2 r1 (canLay_tup se) (SeqAt.canLay_of_shaped sd) (room_in_shaped' sd hu) ⟨.bl _, H, I, rfl, q⟩
theorem fold_rep (b : Array Nat) : ∀ (k : Nat) (a : Array Nat), (List.foldl (· ++ ·) a (List.replicate k b)).toList = a.toList ++ (List.replicate k b.toList).flatten
  | 0, a => by simp
  | k + 1, a => by
    rw [List.replicate_succ, List.foldl_cons, fold_rep b k (a ++ b), List.replicate_succ, List.flatten_cons, Array.toList_append, List.append_assoc]
/-- a text some times -/
def mulS (z : Str) (n : Nat) : Str := ⟨((List.replicate n z.cps.toList).flatten).toArray⟩
theorem mulS_eq (z : Str) (n : Nat) : (⟨List.foldl (· ++ ·) #[] (List.replicate n z.cps)⟩ : Str) = mulS z n := by
  unfold mulS
  congr 1
  apply Array.toList_inj.mp
  rw [fold_rep]
  simp
theorem mulS_len (z : Str) (n : Nat) : (mulS z n).length = n * z.length := by
  unfold mulS Str.length
  simp
def rMulS : R2 := fun x y H Q => ∃ (z : Str) (n : Int), x = .str z ∧ y = .int n ∧ 2 ≤ n ∧ n ≤ 1000 ∧ 0 < z.length ∧ z.length ≤ 1000 ∧ Q (.str (mulS z n.toNat)) H
theorem op_mulS : OpR X (binaryOp .Mult) rMulS := by
  intro pins s σ H x y v u Q I rx ry h
  obtain ⟨z, n, rfl, rfl, n2, n3, z0, z1, q⟩ := h
  obtain ⟨t, rfl⟩ := rx
  obtain ⟨t', rfl⟩ := ry
  have h1 : ¬ n < 1 := by omega
  have h2 : (n == 1 || z.length == 0) = false := by
    simp only [Bool.or_eq_false_iff, beq_eq_false_iff_ne]
    constructor <;> omega
  have len : z.length * n.toNat ≤ 1000 * 1000 := Nat.mul_le_mul z1 (by omega)
  refine PySem.P.mul_str (by simp only [Bool.or_eq_false_iff, decide_eq_false_iff_not]; constructor <;> omega) (fun _ _ => ?_) (fun _ _ => ?_) ?_
  · have : (2 ^ 63 - 1 : Int) / n ≥ 1000 := by
      refine (Int.le_ediv_iff_mul_le (by omega)).mpr ?_
      have : (1000 : Int) * n ≤ 1000 * 1000 := by omega
      omega
    omega
  · have : sizeLine = 16777216 := sizeLine_eq
    have : ¬ z.length * n.toNat > sizeLine := by omega
    exact decide_eq_false this
  · rw [if_neg h1, h2, if_neg (by decide)]
    rw [mulS_eq]
    refine ⟨?_, ⟨.str _, H, I.tok _, ⟨_, rfl⟩, q⟩⟩
    rw [mulS_len, sizeLine_eq, Nat.mul_comm]
    omega
end

/-! ### what is walked -/
section
variable {K : PySem.W.Frag} {σ : L2.St} {B B' : Hp} {ta tb te tl : TE} {tt tu : TT} {R S T U : Rel} {Rs : List Rel} {x v : V}
/-- an iterator that gives such items, while a base stands -/
def Wk (J : It) (B1 : Hp) (Rs : List Rel) : Prop := Walk J Rs.length (fun H => Same B1 H) (fun i H x H' => ∃ R, Rs[i]? = some R ∧ ∀ Bc, Same B1 Bc → Same Bc H → ∃ Bn, Ext Bc H Bn H' ∧ R Bn x)
def Di (wi : TI) (σ : L2.St) (B : Hp) (Rs : List Rel) : Prop := ∀ B1 H, Same B B1 → Same B1 H → ∀ Q : It → Hp → Prop, (∀ J B' H', Ext B1 H B' H' → Wk J B' Rs → Q J H') → wi σ H Q
theorem Di.mono {wi : TI} (s : Same B B') (h : Di wi σ B Rs) : Di wi σ B' Rs := fun B1 H s1 s2 => h B1 H (s.trans s1) s2
theorem Di.list [m : MoA Rs] (h : De tl σ B (lstR K Rs)) : Di (iList K tl) σ B Rs := fun B1 H s1 s2 Q q => h B1 H s1 s2 _ fun v B2 H2 e hv => by
  obtain ⟨a, xs, rfl, hs, hR⟩ := hv
  refine ⟨a, rfl, ⟨xs, e.bh.seq hs⟩, q _ B2 H2 e ?_⟩
  have len := allR_len hR
  unfold Wk
  rw [← len]
  refine (walk_list (K := K) (a := a) (xs := xs)).mono (fun H' s => s.seq hs) fun i H' x H'' hi s y => ?_
  obtain ⟨rfl, hx⟩ := y
  obtain ⟨R, hR1, hR2⟩ := allR_at hR hx
  exact ⟨R, hR1, fun Bc sc sh => ⟨Bc, .refl sh, by
    obtain ⟨v', hv', hR3⟩ := allR_of (m.mo sc hR) hR1
    rw [hx] at hv'
    cases hv'
    exact hR3⟩⟩
theorem Di.tup [m : MoA Rs] (h : De tl σ B (tupR K Rs)) : Di (iTup K tl) σ B Rs := fun B1 H s1 s2 Q q => h B1 H s1 s2 _ fun v B2 H2 e hv => by
  obtain ⟨a, xs, rfl, hs, hR⟩ := hv
  refine ⟨a, rfl, ⟨xs, seqT e.bh hs⟩, q _ B2 H2 e ?_⟩
  have len := allR_len hR
  unfold Wk
  rw [← len]
  refine (walk_tup (K := K) (a := a) (xs := xs)).mono (fun H' s => seqT s hs) fun i H' x H'' hi s y => ?_
  obtain ⟨rfl, hx⟩ := y
  obtain ⟨R, hR1, hR2⟩ := allR_at hR hx
  exact ⟨R, hR1, fun Bc sc sh => ⟨Bc, .refl sh, by
    obtain ⟨v', hv', hR3⟩ := allR_of (m.mo sc hR) hR1
    rw [hx] at hv'
    cases hv'
    exact hR3⟩⟩
theorem Di.listD {ds : List PyData} (h : De tl σ B (dat K (.list ds))) : Di (iList K tl) σ B (ds.map (dat K)) := .list (h.conv fun _ _ => dat_lstR)
theorem Di.tupD {ds : List PyData} (h : De tl σ B (dat K (.tuple ds))) : Di (iTup K tl) σ B (ds.map (dat K)) := .tup (h.conv fun _ _ => dat_tupR)
def intsR (K : PySem.W.Frag) (lo : Int) (n : Nat) : List Rel := (List.range n).map fun i : Nat => dat K (.int (lo + (i : Int)))
theorem wk_ints {lo : Int} {n : Nat} : Wk (Itr lo n) B (intsR K lo n) := by
  unfold Wk intsR
  rw [List.length_map, List.length_range]
  refine (walk_range (lo := lo) (n := n)).mono (fun _ _ => trivial) fun i H' x H'' hi s y => ?_
  obtain ⟨rfl, rfl⟩ := y
  refine ⟨dat K (.int (lo + (i : Int))), by rw [List.getElem?_map, List.getElem?_range hi]; rfl, fun Bc sc sh => ⟨Bc, .refl sh, Dp.int _⟩⟩
theorem Di.rng1 {ta : TA} {n : Int} (h : Da ta σ B [dat K (.int n)]) (h0 : -(2 ^ 62) ≤ n) (h1 : n < 2 ^ 62) : Di (iRng1 ta) σ B (intsR K 0 n.toNat) := fun B1 H s1 s2 Q q => h B1 H s1 s2 _ fun vs B2 H2 e hv => by
  obtain ⟨v, r, rfl, h2, h3⟩ := hv
  have h3 : r = [] := h3
  subst h3
  have h2 := dat_int h2
  subst h2
  exact ⟨n, rfl, h0, h1, q _ B2 H2 e wk_ints⟩
theorem Di.rng2 {ta : TA} {lo n : Int} (h : Da ta σ B [dat K (.int lo), dat K (.int n)]) (h0 : -(2 ^ 62) ≤ lo ∧ lo < 2 ^ 62 ∧ -(2 ^ 62) ≤ n ∧ n < 2 ^ 62) : Di (iRng2 ta) σ B (intsR K lo (n - lo).toNat) := fun B1 H s1 s2 Q q => h B1 H s1 s2 _ fun vs B2 H2 e hv => by
  obtain ⟨v, r, rfl, h2, v', r', rfl, h4, h5⟩ := hv
  have h5 : r' = [] := h5
  subst h5
  have h2 := dat_int h2
  subst h2
  have h4 := dat_int h4
  subst h4
  exact ⟨lo, n, rfl, h0, q _ B2 H2 e wk_ints⟩
theorem Di.str {z : Str} (h : De tl σ B (dat K (.str z))) : Di (iStr tl) σ B (z.cps.toList.map fun c => dat K (.str ⟨#[c]⟩)) := fun B1 H s1 s2 Q q => h B1 H s1 s2 _ fun v B2 H2 e hv => by
  have hv := dat_str hv
  subst hv
  refine ⟨z, rfl, q _ B2 H2 e ?_⟩
  unfold Wk
  have len : (z.cps.toList.map fun c => dat K (.str ⟨#[c]⟩)).length = z.cps.size := by simp
  rw [len]
  refine (walk_str (z := z)).mono (fun _ _ => trivial) fun i H' x H'' hi s y => ?_
  obtain ⟨rfl, c, hc, rfl⟩ := y
  refine ⟨dat K (.str ⟨#[c]⟩), ?_, fun Bc sc sh => ⟨Bc, .refl sh, Dp.str _⟩⟩
  rw [List.getElem?_map, Array.getElem?_toList, hc]
  rfl
/-- a new pair -/
theorem pair_new {R S : Rel} [m1 : Mo R] [m2 : Mo S] {Bc H : Hp} {p : Addr} {x y : V} (sh : Same Bc H) (hp : H p = none) (hx : R Bc x) (hy : S Bc y) : ∃ Bn, Ext Bc H Bn (upd H p (.tup [x, y])) ∧ tupR K [R, S] Bn (.ref p) :=
  ⟨upd Bc p (.tup [x, y]), .new sh hp, p, _, rfl, SqT.of upd_same, x, [y], rfl, m1.mo (new_same (sh.free hp)) hx, y, [], rfl, m2.mo (new_same (sh.free hp)) hy, rfl⟩
theorem Di.zip {ta : TA} {Ss : List Rel} [m : MoA Rs] [m' : MoA Ss] (hm : ∀ R ∈ Rs, Mo R) (hm' : ∀ R ∈ Ss, Mo R) (h : Da ta σ B [lstR K Rs, lstR K Ss]) : Di (iZip K ta) σ B ((Rs.zip Ss).map fun p => tupR K [p.1, p.2]) := fun B1 H s1 s2 Q q => h B1 H s1 s2 _ fun vs B2 H2 e hv => by
  obtain ⟨v, r, rfl, ⟨a, xs, rfl, hs, hR⟩, v', r', rfl, ⟨b, ys, rfl, hs', hR'⟩, h5⟩ := hv
  have h5 : r' = [] := h5
  subst h5
  refine ⟨a, b, xs, ys, rfl, e.bh.seq hs, e.bh.seq hs', q _ B2 H2 e ?_⟩
  have len := allR_len hR
  have len' := allR_len hR'
  unfold Wk
  rw [List.length_map]
  refine (walk_zip (K := K) (a := a) (b := b) (xs := xs) (ys := ys) (n := (Rs.zip Ss).length) (by rw [List.length_zip, len, len'])).mono (fun H' s => ⟨s.seq hs, s.seq hs'⟩) fun i H' x H'' hi s y => ?_
  obtain ⟨p, u, w, rfl, hp, rfl, hu, hw⟩ := y
  have hu : xs[i]? = some u := hu
  have hw : ys[i]? = some w := hw
  obtain ⟨R, hR1, _⟩ := allR_at hR hu
  obtain ⟨S, hS1, _⟩ := allR_at hR' hw
  refine ⟨tupR K [R, S], ?_, fun Bc sc sh => ?_⟩
  · rw [List.getElem?_map, List.getElem?_zip_eq_some (z := (R, S)) |>.mpr ⟨hR1, hS1⟩]
    rfl
  · have := hm R (List.mem_of_getElem? hR1)
    have := hm' S (List.mem_of_getElem? hS1)
    obtain ⟨v1, hv1, q1⟩ := allR_of (m.mo sc hR) hR1
    obtain ⟨v2, hv2, q2⟩ := allR_of (m'.mo sc hR') hS1
    rw [hu] at hv1
    rw [hw] at hv2
    cases hv1
    cases hv2
    exact pair_new sh hp q1 q2
theorem Di.enum {ta : TA} [m : MoA Rs] (hm : ∀ R ∈ Rs, Mo R) (h : Da ta σ B [lstR K Rs]) : Di (iEnum K ta) σ B (Rs.zipIdx.map fun p => tupR K [dat K (.int (p.2 : Int)), p.1]) := fun B1 H s1 s2 Q q => h B1 H s1 s2 _ fun vs B2 H2 e hv => by
  obtain ⟨v, r, rfl, ⟨a, xs, rfl, hs, hR⟩, h5⟩ := hv
  have h5 : r = [] := h5
  subst h5
  refine ⟨a, xs, rfl, e.bh.seq hs, q _ B2 H2 e ?_⟩
  have len := allR_len hR
  unfold Wk
  rw [List.length_map, List.length_zipIdx, ← len]
  refine (walk_enum (K := K) (a := a) (xs := xs)).mono (fun H' s => s.seq hs) fun i H' x H'' hi s y => ?_
  obtain ⟨p, u, w, rfl, hp, rfl, hu, hw⟩ := y
  cases hu
  have hw : xs[i]? = some w := hw
  obtain ⟨R, hR1, _⟩ := allR_at hR hw
  refine ⟨tupR K [dat K (.int (i : Int)), R], ?_, fun Bc sc sh => ?_⟩
  · rw [List.getElem?_map, List.getElem?_zipIdx, hR1]
    simp
  · have := hm R (List.mem_of_getElem? hR1)
    obtain ⟨v1, hv1, q1⟩ := allR_of (m.mo sc hR) hR1
    rw [hw] at hv1
    cases hv1
    exact pair_new sh hp (Dp.int _) q1

/-! ### loops -/
/-- what is wanted behind a turn -/
def Nx (B1 : Hp) (P : L2.St → Hp → Hp → Prop) : L2.St → Hp → Prop := fun σ H => ∃ B', Same B1 B' ∧ Same B' H ∧ P σ B' H
theorem s_for {wi : TI} {g : TG} {ts : TS} {D : Ends} {H : Hp} (hi : Di wi σ B Rs) (hB : Same B H) (Pv : Nat → L2.St → Hp → Hp → Prop) (h0 : ∀ B' H', Ext B H B' H' → Pv 0 σ B' H')
    (hs : ∀ B1 i R v σ' Bc Hc Bn Hn, Same B B1 → Same B1 Bc → Rs[i]? = some R → Pv i σ' Bc Hc → Ext Bc Hc Bn Hn → R Bn v → g v σ' Hn fun σ2 H2 => ts { D with nx := Nx B1 (Pv (i + 1)), ct := Nx B1 (Pv (i + 1)), bk := D.nx } σ2 H2)
    (hd : ∀ σ' B' H', Same B B' → Same B' H' → Pv Rs.length σ' B' H' → D.nx σ' H') : tFor wi g ts D σ H :=
  hi B H (Same.refl _) hB _ fun J B1 H1 e hw => for_it hw (fun i σ' H' => Nx B1 (Pv i) σ' H') ⟨B1, Same.refl _, e.bh, h0 B1 H1 e⟩ (fun i σ' H' _ ⟨B', s1, s2, _⟩ => s1.trans s2)
    (fun i x σ' H' H'' hi ⟨Bc, s1, s2, p⟩ ⟨R, hR, y⟩ => by
      obtain ⟨Bn, e2, hx⟩ := y Bc s1 s2
      exact hs B1 i R x σ' Bc H' Bn H'' e.bb s1 hR p e2 hx)
    (fun σ' H' ⟨B', s1, s2, p⟩ => hd σ' B' H' (e.bb.trans s1) s2 p)

/-! ### comprehensions -/
theorem De.lc {α : Type} {as : List α} {r : α → Rel} {wi : TI} {g : TG} {vs : List Nat} (hi : Di wi σ B (as.map r)) (p : α → Bool) (o : α → Rel) [mo : ∀ a, Mo (o a)] (hz : as.length < sizeLine)
    (turn : ∀ a v Bn H, a ∈ as → Same B Bn → Same Bn H → r a Bn v → ∃ σ2, (∀ Q : L2.St → Hp → Prop, Q σ2 H → g v (wipe σ vs) H Q) ∧ wipe σ2 vs = wipe σ vs ∧ Dt tt σ2 Bn (p a) ∧ (p a = true → De te σ2 Bn (o a))) :
    De (tLc wi g tt te vs) σ B (lstR K ((as.filter p).map o)) := fun B1 H s1 s2 Q q => hi B1 H s1 s2 _ fun J B2 H2 e hw => fun D hD => by
  have moA : ∀ l : List α, MoA (l.map o) := fun l => moA_of fun R h => by
    obtain ⟨a, _, rfl⟩ := List.mem_map.mp h
    exact mo a
  have hw' : Walk J as.length (fun H => Same B2 H) (fun i H x H' => ∃ R, (as.map r)[i]? = some R ∧ ∀ Bc, Same B2 Bc → Same Bc H → ∃ Bn, Ext Bc H Bn H' ∧ R Bn x) := by
    have := hw
    unfold Wk at this
    rw [List.length_map] at this
    exact this
  refine lc_it hw' (fun i H' => ∃ B' xs, Ext B2 H2 B' H' ∧ B' D = none ∧ H' D = some (.lst xs) ∧ xs.length ≤ i ∧ AllR (((as.take i).filter p).map o) B' xs) ?_ (fun i H' _ ⟨B', xs, e', _⟩ => e'.bb.trans e'.bh) ?_ ?_
  · exact ⟨B2, [], .own e.bh hD, e.bh.free hD, upd_same, Nat.le_refl _, by rw [List.take_zero]; rfl⟩
  · rintro i x H' H'' hi' ⟨B', xs, e', nD, atD, few, hxs⟩ ⟨R, hR, y⟩
    obtain ⟨Bn, e2, hx⟩ := y B' e'.bb e'.bh
    rw [List.getElem?_map] at hR
    obtain ⟨a, ha, rfl⟩ := Option.map_eq_some_iff.mp hR
    obtain ⟨σ2, t1, t2, t3, t4⟩ := turn a x Bn H'' (List.mem_of_getElem? ha) (((s1.trans e.bb).trans e'.bb).trans e2.bb) e2.bh hx
    have atD2 := e2.hh _ _ atD
    have nD2 : Bn D = none := e2.nw D (by rw [atD]; exact fun z => nomatch z) nD
    have tk : as.take (i + 1) = as.take i ++ [a] := by rw [List.take_succ, ha]; rfl
    refine t1 _ ⟨t2, t3 Bn H'' (Same.refl _) e2.bh _ fun B3 H3 e3 => ?_⟩
    have atD3 := e3.hh _ _ atD2
    have nD3 : B3 D = none := e3.nw D (by rw [atD2]; exact fun z => nomatch z) nD2
    have e13 := (e'.trans e2).trans e3
    cases hp : p a with
    | true =>
      refine t4 hp B3 H3 e3.bb e3.bh _ fun y B4 H4 e4 hy => ?_
      have atD4 := e4.hh _ _ atD3
      have nD4 : B4 D = none := e4.nw D (by rw [atD3]; exact fun z => nomatch z) nD3
      have e14 := e13.trans e4
      refine ⟨xs, atD4, by omega, B4, xs ++ [y], ⟨fun b u hb => ?_, e14.bb, fun b u hb => ?_, e14.nw⟩, nD4, upd_same, by simp; omega, ?_⟩
      · rw [upd_ne (ne_of_none hb hD)]
        exact e14.hh b u hb
      · rw [upd_ne (ne_of_none hb nD4)]
        exact e14.bh b u hb
      · rw [tk, List.filter_append, List.map_append]
        have : [a].filter p = [a] := by simp [hp]
        rw [this]
        exact allR_snoc ((moA _).mo ((e2.bb.trans e3.bb).trans e4.bb) hxs) hy
    | false =>
      refine ⟨B3, xs, e13, nD3, atD3, by omega, ?_⟩
      rw [tk, List.filter_append]
      have : [a].filter p = [] := by simp [hp]
      rw [this, List.append_nil]
      exact (moA _).mo (e2.bb.trans e3.bb) hxs
  · rintro H' ⟨B', xs, e', nD, atD, few, hxs⟩
    rw [List.take_length] at hxs
    refine q (.ref D) (upd B' D (.lst xs)) H' ⟨e.hh.trans e'.hh, (e.bb.trans e'.bb).trans (new_same nD), fun b u hb => ?_, fun b h1 h2 => ?_⟩ ⟨D, xs, rfl, SqL.of upd_same, (moA _).mo (new_same nD) hxs⟩
    · by_cases z : b = D
      · subst z
        rw [upd_same] at hb
        cases hb
        exact atD
      · rw [upd_ne z] at hb
        exact e'.bh b u hb
    · have z : b ≠ D := by
        rintro rfl
        cases w : H b with
        | none => exact h1 w
        | some u =>
          rw [e.hh b u w] at hD
          cases hD
      rw [upd_ne z]
      exact (e.trans e').nw b h1 h2
/-- .. of data -/
theorem De.lcD {α : Type} {as : List α} {r : α → Rel} {wi : TI} {g : TG} {vs : List Nat} (hi : Di wi σ B (as.map r)) (p : α → Bool) (o : α → PyData) (hz : as.length < sizeLine)
    (turn : ∀ a v Bn H, a ∈ as → Same B Bn → Same Bn H → r a Bn v → ∃ σ2, (∀ Q : L2.St → Hp → Prop, Q σ2 H → g v (wipe σ vs) H Q) ∧ wipe σ2 vs = wipe σ vs ∧ Dt tt σ2 Bn (p a) ∧ (p a = true → De te σ2 Bn (dat K (o a)))) :
    De (tLc wi g tt te vs) σ B (dat K (.list ((as.filter p).map o))) :=
  (De.lc (K := K) hi p (fun a => dat K (o a)) hz turn).conv fun B' v h => lstR_dat (by rw [List.map_map]; exact h)
/-- without a test -/
theorem De.lcA {α : Type} {as : List α} {r : α → Rel} {wi : TI} {g : TG} {vs : List Nat} (hi : Di wi σ B (as.map r)) (o : α → PyData) (hz : as.length < sizeLine)
    (turn : ∀ a v Bn H, a ∈ as → Same B Bn → Same Bn H → r a Bn v → ∃ σ2, (∀ Q : L2.St → Hp → Prop, Q σ2 H → g v (wipe σ vs) H Q) ∧ wipe σ2 vs = wipe σ vs ∧ De te σ2 Bn (dat K (o a))) :
    De (tLc wi g tYes te vs) σ B (dat K (.list (as.map o))) := by
  have := De.lcD (K := K) (tt := tYes) (te := te) hi (fun _ => true) o hz fun a v Bn H h1 h2 h3 h4 => by
    obtain ⟨σ2, t1, t2, t3⟩ := turn a v Bn H h1 h2 h3 h4
    exact ⟨σ2, t1, t2, .yes, fun _ => t3⟩
  rw [List.filter_eq_self.mpr (fun _ _ => rfl)] at this
  exact this
/-- a pair is taken apart -/
theorem gTup2 {Bn H : Hp} {v : V} {R S : Rel} {σ1 : L2.St} {i j : Nat} (s : Same Bn H) (h : tupR K [R, S] Bn v) : ∃ x y, R Bn x ∧ S Bn y ∧ ∀ Q : L2.St → Hp → Prop, Q ((σ1.set i (some x)).set j (some y)) H → gTup K 2 (gCons (gName i) (gCons (gName j) gNil)) v σ1 H Q := by
  obtain ⟨a, xs, rfl, hs, x, r, rfl, hx, y, r', rfl, hy, hr⟩ := h
  have hr : r' = [] := hr
  subst hr
  exact ⟨x, y, hx, hy, fun Q q => ⟨a, _, rfl, seqT s hs, rfl, x, [y], rfl, y, [], rfl, rfl, q⟩⟩
theorem dat_pair {d e : PyData} {Bn : Hp} {v : V} (h : dat K (.tuple [d, e]) Bn v) : tupR K [dat K d, dat K e] Bn v := dat_tupR h

/-! ### built-in functions -/
theorem rc_len {ds : List PyData} : Rc (fun xs H Q => ∃ x n, xs = [x] ∧ LenV K x H n ∧ Q (.int n) H) B [dat K (.list ds)] (dat K (.int (ds.length : Int))) := fun vs B1 H _ s2 hv Q q => by
  obtain ⟨v, r, rfl, h, h2⟩ := hv
  have h2 : r = [] := h2
  subst h2
  obtain ⟨a, xs, rfl, hs, hR⟩ := dat_lstR h
  have len := allR_len hR
  rw [List.length_map] at len
  exact ⟨.ref a, ds.length, rfl, .inl ⟨xs, s2.seq hs, len.symm⟩, q _ B1 H (.refl s2) (.int _)⟩
theorem rc_lenT {ds : List PyData} : Rc (fun xs H Q => ∃ x n, xs = [x] ∧ LenV K x H n ∧ Q (.int n) H) B [dat K (.tuple ds)] (dat K (.int (ds.length : Int))) := fun vs B1 H _ s2 hv Q q => by
  obtain ⟨v, r, rfl, h, h2⟩ := hv
  have h2 : r = [] := h2
  subst h2
  obtain ⟨a, xs, rfl, hs, hR⟩ := dat_tupR h
  have len := allR_len hR
  rw [List.length_map] at len
  exact ⟨.ref a, ds.length, rfl, .inr ⟨xs, seqT s2 hs, len.symm⟩, q _ B1 H (.refl s2) (.int _)⟩
theorem rc_lenS {z : Str} (hz : z.length ≤ sizeLine) : Rc (fun xs H Q => ∃ x n, xs = [x] ∧ LenV K x H n ∧ Q (.int n) H) B [dat K (.str z)] (dat K (.int (z.length : Int))) := fun vs B1 H _ s2 hv Q q => by
  obtain ⟨v, r, rfl, h, h2⟩ := hv
  have h2 : r = [] := h2
  subst h2
  have h := dat_str h
  subst h
  exact ⟨.str z, z.length, rfl, ⟨hz, rfl⟩, q _ B1 H (.refl s2) (.int _)⟩
theorem rc_show {d : PyData} (h : Shw d) : Rc (rShow K) B [dat K d] (dat K (.str d.shown)) := fun vs B1 H _ s2 hv Q q => by
  obtain ⟨v, r, rfl, hv, h2⟩ := hv
  have h2 : r = [] := h2
  subst h2
  exact ⟨v, d, rfl, dpMono s2 _ _ hv, h.1, h.2.1, h.2.2.1, h.2.2.2, q _ B1 H (.refl s2) (.str _)⟩
theorem rc_tupL {Rs : List Rel} [m : MoA Rs] : Rc (fun xs H Q => ∃ p ys, xs = [.ref p] ∧ ((SqL K H p ys ∧ ∀ l, H l = none → Q (.ref l) (upd H l (.tup ys))) ∨ (SqT K H p ys ∧ Q (.ref p) H))) B [lstR K Rs] (tupR K Rs) := fun vs B1 H _ s2 hv Q q => by
  obtain ⟨v, r, rfl, ⟨a, xs, rfl, hs, hR⟩, h2⟩ := hv
  have h2 : r = [] := h2
  subst h2
  exact ⟨a, xs, rfl, .inl ⟨s2.seq hs, fun p hp => q _ (upd B1 p (.tup xs)) _ (.new s2 hp) ⟨p, xs, rfl, SqT.of upd_same, m.mo (new_same (s2.free hp)) hR⟩⟩⟩
theorem rc_tupT {Rs : List Rel} [m : MoA Rs] : Rc (fun xs H Q => ∃ p ys, xs = [.ref p] ∧ ((SqL K H p ys ∧ ∀ l, H l = none → Q (.ref l) (upd H l (.tup ys))) ∨ (SqT K H p ys ∧ Q (.ref p) H))) B [tupR K Rs] (tupR K Rs) := fun vs B1 H _ s2 hv Q q => by
  obtain ⟨v, r, rfl, ⟨a, xs, rfl, hs, hR⟩, h2⟩ := hv
  have h2 : r = [] := h2
  subst h2
  exact ⟨a, xs, rfl, .inr ⟨seqT s2 hs, q _ B1 H (.refl s2) ⟨a, xs, rfl, hs, hR⟩⟩⟩
theorem rc_lstL {Rs : List Rel} [m : MoA Rs] : Rc (fun xs H Q => ∃ p ys, xs = [.ref p] ∧ (SqL K H p ys ∨ SqT K H p ys) ∧ ∀ l, H l = none → Q (.ref l) (upd H l (.lst ys))) B [lstR K Rs] (lstR K Rs) := fun vs B1 H _ s2 hv Q q => by
  obtain ⟨v, r, rfl, ⟨a, xs, rfl, hs, hR⟩, h2⟩ := hv
  have h2 : r = [] := h2
  subst h2
  exact ⟨a, xs, rfl, .inl (s2.seq hs), fun p hp => q _ (upd B1 p (.lst xs)) _ (.new s2 hp) ⟨p, xs, rfl, SqL.of upd_same, m.mo (new_same (s2.free hp)) hR⟩⟩
theorem rc_lstT {Rs : List Rel} [m : MoA Rs] : Rc (fun xs H Q => ∃ p ys, xs = [.ref p] ∧ (SqL K H p ys ∨ SqT K H p ys) ∧ ∀ l, H l = none → Q (.ref l) (upd H l (.lst ys))) B [tupR K Rs] (lstR K Rs) := fun vs B1 H _ s2 hv Q q => by
  obtain ⟨v, r, rfl, ⟨a, xs, rfl, hs, hR⟩, h2⟩ := hv
  have h2 : r = [] := h2
  subst h2
  exact ⟨a, xs, rfl, .inr (seqT s2 hs), fun p hp => q _ (upd B1 p (.lst xs)) _ (.new s2 hp) ⟨p, xs, rfl, SqL.of upd_same, m.mo (new_same (s2.free hp)) hR⟩⟩
theorem rc_sorted {ds : List PyData} (hal : PySem.W.AllAlike ds) (hk : PySem.W.SortOk ds) (hd : ∀ d ∈ ds, d.depth ≤ 60) : Rc (rSortedD K) B [dat K (.list ds)] (dat K (.list (sortD ds))) := fun vs B1 H _ s2 hv Q q => by
  obtain ⟨v, r, rfl, h, h2⟩ := hv
  have h2 : r = [] := h2
  subst h2
  obtain ⟨a, xs, rfl, hs, hR⟩ := dat_lstR h
  have g := allR_dp hR
  exact ⟨a, xs, ds, rfl, s2.seq hs, dpMonoAll s2 _ _ g, hal, hk, hd, fun p hp => q _ (upd B1 p (.lst (sortV xs ds))) _ (.new s2 hp) (.lst (SqL.of upd_same) (dpMonoAll (new_same (s2.free hp)) _ _ (dp_sort g)))⟩
/-- lists and tuples of data, by what they are -/
theorem Da.one {d : PyData} (h : De ta σ B (dat K d)) : Da (tCons ta tNil) σ B [dat K d] := .cons h .nil

/-! ### objects that never change -/
def AllF : List (Str × Rel) → Hp → List (Str × V) → Prop
  | [], _, us => us = []
  | (f, R) :: r, B, us => ∃ v u, us = (f, v) :: u ∧ R B v ∧ AllF r B u
class MoF (fs : List (Str × Rel)) : Prop where
  mo : ∀ {B B' : Hp} {us : List (Str × V)}, Same B B' → AllF fs B us → AllF fs B' us
instance : MoF [] := ⟨fun _ h => h⟩
instance {f : Str} {R : Rel} {r : List (Str × Rel)} [m : Mo R] [t : MoF r] : MoF ((f, R) :: r) := ⟨fun s ⟨v, u, e, h, g⟩ => ⟨v, u, e, m.mo s h, t.mo s g⟩⟩
def insR (C : Addr) (fs : List (Str × Rel)) : Rel := fun B v => ∃ a dx us, v = .ref a ∧ B a = some (.ins C dx us) ∧ AllF fs B us
instance {C : Addr} {fs : List (Str × Rel)} [m : MoF fs] : Mo (insR C fs) := ⟨fun s ⟨a, dx, us, e, h, g⟩ => ⟨a, dx, us, e, s _ _ h, m.mo s g⟩⟩
theorem allF_get {f : Str} : ∀ {fs : List (Str × Rel)} {us : List (Str × V)}, AllF fs B us → fs.lookup f = some R → ∃ v, us.lookup f = some v ∧ R B v
  | (g, S) :: r, _, ⟨v, u, e, h, t⟩, z => by
    subst e
    simp only [List.lookup] at *
    cases q : f == g with
    | true =>
      rw [q] at z
      cases z
      exact ⟨v, rfl, h⟩
    | false =>
      rw [q] at z
      exact allF_get t z
theorem De.fld {C : Addr} {f : Str} {fs : List (Str × Rel)} (he : De te σ B (insR C fs)) (c : Cls K C) (n : NoAttr K C f) (hf : fs.lookup f = some R) : De (tFld K te f) σ B R := fun B1 H s1 s2 Q q => he B1 H s1 s2 _ fun v B2 H2 e hv => by
  obtain ⟨a, dx, us, rfl, h, g⟩ := hv
  obtain ⟨x, hx, hR⟩ := allF_get g hf
  exact ⟨a, C, dx, us, x, rfl, e.bh _ _ h, c, n, hx, q x B2 H2 e hR⟩
/-- __init__ that keeps its arguments -/
def spIns (C : Addr) (fs : List Str) : Sp := fun vs H Q _ => ∃ (x dx : Addr) (us : List V), vs = .ref x :: us ∧ us.length = fs.length ∧ H x = some (.ins C dx []) ∧ Q .non (upd H x (.ins C dx (fs.zip us)))
theorem allF_zip : ∀ {fs : List Str} {Rs : List Rel} {us : List V}, fs.length = Rs.length → AllR Rs B us → AllF (fs.zip Rs) B (fs.zip us)
  | [], [], _, _, _ => rfl
  | f :: fs, R :: Rs, _, h, ⟨v, u, e, g, t⟩ => by
    subst e
    exact ⟨v, _, rfl, g, allF_zip (by simpa using h) t⟩
theorem upd_over {H : Hp} {x d : Addr} {o p q : HO} : upd (upd (upd H d p) x o) x q = upd (upd H d p) x q := by
  funext b
  unfold upd
  by_cases h : b = x
  · rw [if_pos h, if_pos h]
  · rw [if_neg h, if_neg h, if_neg h]
theorem De.make {C : Addr} {fs : List Str} {E : XK} {ta : TA} [m : MoA Rs] (ha : Da ta σ B Rs) (hl : fs.length = Rs.length) : De (tMake C (spIns C fs) [] E ta) σ B (insR C (fs.zip Rs)) := fun B1 H s1 s2 Q q =>
  ha B1 H s1 s2 _ fun vs B2 H2 e hv => fun x dx hx hd ne => by
    have len := allR_len hv
    refine ⟨x, dx, vs, by rw [List.append_nil], by omega, upd_same, rfl, ?_⟩
    rw [upd_over]
    have e1 : Ext B2 H2 B2 (upd H2 dx (.own x)) := .own e.bh hd
    have hx1 : upd H2 dx (.own x) x = none := by
      rw [upd_ne ne.symm]
      exact hx
    have e2 := Ext.new (o := .ins C dx (fs.zip vs)) e1.bh hx1
    exact q _ _ _ ((e.trans e1).trans e2) ⟨x, dx, _, rfl, upd_same, allF_zip hl (m.mo (new_same (e.bh.free hx)) hv)⟩
end
end Wv

set_option Elab.async false
set_option linter.all false
set_option maxRecDepth 100000
set_option maxHeartbeats 4000000
/-! Wv2: comprehensions with two fors, list(range), classes by their names, data args. -/
namespace Wv
open PySem PySem.Spec PyProof.Rows L2 Wb
section
variable {K : PySem.W.Frag} {σ : L2.St} {B B' : Hp} {ta tb te tl : TE} {tt tu : TT} {R S T U : Rel} {Rs : List Rel} {x v : V}
theorem stays {B H B' H' : Hp} {D : Addr} {o : HO} (e : Ext B H B' H') (h : H D = some o) (n : B D = none) : H' D = some o ∧ B' D = none :=
  ⟨e.hh _ _ h, e.nw D (by rw [h]; exact fun z => nomatch z) n⟩
/-- one more in a list that is being made -/
theorem grown {B2 H2 B4 H4 : Hp} {D : Addr} {xs : List V} {y : V} (hD : H2 D = none) (e : Ext B2 H2 B4 H4) (n : B4 D = none) : Ext B2 H2 B4 (upd H4 D (.lst (xs ++ [y]))) :=
  ⟨fun b u hb => by
    rw [upd_ne (ne_of_none hb hD)]
    exact e.hh b u hb, e.bb, fun b u hb => by
    rw [upd_ne (ne_of_none hb n)]
    exact e.bh b u hb, e.nw⟩
theorem De.lc2D {α β : Type} {as : List α} {r : α → Rel} {wi wi1 : TI} {g g1 : TG} {vs vs1 : List Nat} (hi : Di wi σ B (as.map r)) (bs : α → List β) (r1 : α → β → Rel) (o : α → β → PyData) (hz : (as.flatMap fun a => (bs a).map (o a)).length < sizeLine)
    (turn : ∀ a v Bn H, a ∈ as → Same B Bn → Same Bn H → r a Bn v → ∃ σ2, (∀ Q : L2.St → Hp → Prop, Q σ2 H → g v (wipe σ vs) H Q) ∧ wipe σ2 vs = wipe σ vs ∧ Di wi1 σ2 Bn ((bs a).map (r1 a)) ∧
      ∀ b v' Bm H', b ∈ bs a → Same Bn Bm → Same Bm H' → r1 a b Bm v' → ∃ σ3, (∀ Q : L2.St → Hp → Prop, Q σ3 H' → g1 v' (wipe σ2 vs1) H' Q) ∧ wipe σ3 vs1 = wipe σ2 vs1 ∧ De te σ3 Bm (dat K (o a b))) :
    De (tLc2 wi g tYes wi1 g1 tYes te vs vs1) σ B (dat K (.list (as.flatMap fun a => (bs a).map (o a)))) := fun B1 H s1 s2 Q q => hi B1 H s1 s2 _ fun J B2 H2 e hw => fun D hD => by
  have w : Walk J as.length (fun H => Same B2 H) (fun i H x H' => ∃ R, (as.map r)[i]? = some R ∧ ∀ Bc, Same B2 Bc → Same Bc H → ∃ Bn, Ext Bc H Bn H' ∧ R Bn x) := by
    have := hw
    unfold Wk at this
    rw [List.length_map] at this
    exact this
  have part : ∀ i, i ≤ as.length → ((as.take i).flatMap fun a => (bs a).map (o a)).length ≤ (as.flatMap fun a => (bs a).map (o a)).length := fun i _ => by
    conv => rhs; rw [← List.take_append_drop i as, List.flatMap_append, List.length_append]
    omega
  refine ⟨fun i m H' => m = as.length - i ∧ i ≤ as.length ∧ ∃ B' xs, Ext B2 H2 B' H' ∧ B' D = none ∧ H' D = some (.lst xs) ∧ AllR (((as.take i).flatMap fun a => (bs a).map (o a)).map (dat K)) B' xs,
    ⟨as.length, rfl, Nat.zero_le _, B2, [], .own e.bh hD, e.bh.free hD, upd_same, by rw [List.take_zero]; rfl⟩, ?_⟩
  rintro i m H' ⟨rfl, le, B', xs, e', nD, atD, hxs⟩
  by_cases lt : i < as.length
  · refine .inr ⟨w.goes i H' lt (e'.bb.trans e'.bh), fun H'' => ∃ B' xs, Ext B2 H2 B' H'' ∧ B' D = none ∧ H'' D = some (.lst xs) ∧ AllR (((as.take (i + 1)).flatMap fun a => (bs a).map (o a)).map (dat K)) B' xs,
      fun H'' h => ⟨as.length - (i + 1), by omega, rfl, lt, h⟩, fun x H'' y => ?_⟩
    obtain ⟨R, hR, y⟩ := w.yields i H' x H'' lt (e'.bb.trans e'.bh) y
    obtain ⟨Bn, e2, hx⟩ := y B' e'.bb e'.bh
    rw [List.getElem?_map] at hR
    obtain ⟨a, ha, rfl⟩ := Option.map_eq_some_iff.mp hR
    obtain ⟨σ2, t1, t2, t3, t4⟩ := turn a x Bn H'' (List.mem_of_getElem? ha) (((s1.trans e.bb).trans e'.bb).trans e2.bb) e2.bh hx
    obtain ⟨atD2, nD2⟩ := stays e2 atD nD
    have tk : as.take (i + 1) = as.take i ++ [a] := by rw [List.take_succ, ha]; rfl
    have pt := part (i + 1) lt
    rw [tk, List.flatMap_append, List.length_append] at pt
    have e1f : ([a].flatMap fun a => (bs a).map (o a)) = (bs a).map (o a) := by simp
    rw [e1f, List.length_map] at pt
    refine t1 _ ⟨t2, ?_⟩
    show wi1 σ2 H'' _
    refine t3 Bn H'' (Same.refl _) e2.bh _ fun J1 Bm H4 e3 hw1 => ?_
    have w1 : Walk J1 (bs a).length (fun H => Same Bm H) (fun i H x H' => ∃ R, ((bs a).map (r1 a))[i]? = some R ∧ ∀ Bc, Same Bm Bc → Same Bc H → ∃ Bn, Ext Bc H Bn H' ∧ R Bn x) := by
      have := hw1
      unfold Wk at this
      rw [List.length_map] at this
      exact this
    obtain ⟨atD3, nD3⟩ := stays e3 atD2 nD2
    have e13 := (e'.trans e2).trans e3
    refine ⟨fun j k H5 => k = (bs a).length - j ∧ j ≤ (bs a).length ∧ ∃ B5 ys, Ext B2 H2 B5 H5 ∧ Same Bm B5 ∧ B5 D = none ∧ H5 D = some (.lst ys) ∧ AllR ((((as.take i).flatMap fun a => (bs a).map (o a)) ++ ((bs a).take j).map (o a)).map (dat K)) B5 ys,
      ⟨(bs a).length, rfl, Nat.zero_le _, Bm, xs, e13, Same.refl _, nD3, atD3, ?_⟩, ?_⟩
    · rw [List.take_zero, List.map_nil, List.append_nil]
      exact MoA.mo (e2.bb.trans e3.bb) hxs
    rintro j k H5 ⟨rfl, le1, B5, ys, e5, sm, nD5, atD5, hys⟩
    by_cases lt1 : j < (bs a).length
    · refine .inr ⟨w1.goes j H5 lt1 (sm.trans e5.bh), fun H6 => ∃ B5 ys, Ext B2 H2 B5 H6 ∧ Same Bm B5 ∧ B5 D = none ∧ H6 D = some (.lst ys) ∧ AllR ((((as.take i).flatMap fun a => (bs a).map (o a)) ++ ((bs a).take (j + 1)).map (o a)).map (dat K)) B5 ys,
        fun H6 h => ⟨(bs a).length - (j + 1), by omega, rfl, lt1, h⟩, fun x' H6 y' => ?_⟩
      obtain ⟨R', hR', y'⟩ := w1.yields j H5 x' H6 lt1 (sm.trans e5.bh) y'
      obtain ⟨B6, e6, hx'⟩ := y' B5 sm e5.bh
      rw [List.getElem?_map] at hR'
      obtain ⟨b, hb, rfl⟩ := Option.map_eq_some_iff.mp hR'
      obtain ⟨σ3, u1, u2, u3⟩ := t4 b x' B6 H6 (List.mem_of_getElem? hb) ((e3.bb.trans sm).trans e6.bb) e6.bh hx'
      obtain ⟨atD6, nD6⟩ := stays e6 atD5 nD5
      refine u1 _ ⟨u2, ?_⟩
      show te σ3 H6 _
      refine u3 B6 H6 (Same.refl _) e6.bh _ fun y7 B7 H7 e7 hy7 => ?_
      obtain ⟨atD7, nD7⟩ := stays e7 atD6 nD6
      have len := allR_len hys
      rw [List.length_map, List.length_append, List.length_map, List.length_take] at len
      have tk1 : (bs a).take (j + 1) = (bs a).take j ++ [b] := by rw [List.take_succ, hb]; rfl
      refine ⟨ys, atD7, by omega, B7, ys ++ [y7], grown hD ((e5.trans e6).trans e7) nD7, (sm.trans e6.bb).trans e7.bb, nD7, upd_same, ?_⟩
      have eq : ((as.take i).flatMap fun a => (bs a).map (o a)) ++ ((bs a).take (j + 1)).map (o a) = (((as.take i).flatMap fun a => (bs a).map (o a)) ++ ((bs a).take j).map (o a)) ++ [o a b] := by
        rw [tk1, List.map_append, ← List.append_assoc]
        rfl
      rw [eq, List.map_append (l₂ := [o a b])]
      exact allR_snoc (MoA.mo (e6.bb.trans e7.bb) hys) hy7
    · have : j = (bs a).length := by omega
      subst this
      refine .inl ⟨w1.stops H5 (sm.trans e5.bh), B5, ys, e5, nD5, atD5, ?_⟩
      rw [List.take_length] at hys
      rw [tk, List.flatMap_append, e1f]
      exact hys
  · have : i = as.length := by omega
    subst this
    refine .inl ⟨w.stops H' (e'.bb.trans e'.bh), ?_⟩
    rw [List.take_length] at hxs
    refine q (.ref D) (upd B' D (.lst xs)) H' ⟨e.hh.trans e'.hh, (e.bb.trans e'.bb).trans (new_same nD), fun b u hb => ?_, fun b h1 h2 => ?_⟩ (lstR_dat ⟨D, xs, rfl, SqL.of upd_same, MoA.mo (new_same nD) hxs⟩)
    · by_cases z : b = D
      · subst z
        rw [upd_same] at hb
        cases hb
        exact atD
      · rw [upd_ne z] at hb
        exact e'.bh b u hb
    · have z : b ≠ D := by
        rintro rfl
        cases w : H b with
        | none => exact h1 w
        | some u =>
          rw [e.hh b u w] at hD
          cases hD
      rw [upd_ne z]
      exact (e.trans e').nw b h1 h2
/-- walks over data that stands for things -/
theorem Di.conv {wi : TI} {Ss : List Rel} (h : Di wi σ B Rs) (e : Rs = Ss) : Di wi σ B Ss := e ▸ h
theorem Di.listM {α : Type} {as : List α} {f : α → PyData} (h : De tl σ B (dat K (.list (as.map f)))) : Di (iList K tl) σ B (as.map fun a => dat K (f a)) := (Di.listD h).conv (by rw [List.map_map]; rfl)
theorem Di.tupM {α : Type} {as : List α} {f : α → PyData} (h : De tl σ B (dat K (.tuple (as.map f)))) : Di (iTup K tl) σ B (as.map fun a => dat K (f a)) := (Di.tupD h).conv (by rw [List.map_map]; rfl)
theorem rangeI {lo : Int} {n : Nat} : intsR K lo n = (List.range n).map fun i : Nat => dat K (.int (lo + (i : Int))) := rfl
theorem Di.rng {ta : TE} {n : Nat} (h : De ta σ B (dat K (.int (n : Int)))) (h1 : n < 2 ^ 62) : Di (iRng1 (tCons ta tNil)) σ B ((List.range n).map fun i : Nat => dat K (.int (i : Int))) := by
  have := Di.rng1 (K := K) (Da.one h) (by omega) (by omega)
  refine this.conv ?_
  unfold intsR
  have e : ((n : Int)).toNat = n := by omega
  rw [e]
  exact List.map_congr_left fun i _ => by rw [Int.zero_add]
/-- data, one after another -/
def Dd (K : PySem.W.Frag) (ta : TA) (σ : L2.St) (B : Hp) (ds : List PyData) : Prop := Da ta σ B (ds.map (dat K))
theorem Dd.nil : Dd K tNil σ B [] := Da.nil
theorem Dd.cons {tr : TA} {d : PyData} {ds : List PyData} (h : De ta σ B (dat K d)) (t : Dd K tr σ B ds) : Dd K (tCons ta tr) σ B (d :: ds) := Da.cons h t
theorem De.tupD {ta : TA} {ds : List PyData} (h : Dd K ta σ B ds) (hz : ds.length ≤ sizeLine) : De (tTup ta) σ B (dat K (.tuple ds)) := (De.tup h (by rw [List.length_map]; exact hz)).conv fun _ _ => tupR_dat
theorem De.lstD {ta : TA} {ds : List PyData} (h : Dd K ta σ B ds) (hz : ds.length ≤ sizeLine) : De (tLst ta) σ B (dat K (.list ds)) := (De.lst h (by rw [List.length_map]; exact hz)).conv fun _ _ => lstR_dat
/-- tuple(list), tuple(tuple), list(..) -/
theorem De.tupleL {ta : TE} {ds : List PyData} (h : De ta σ B (dat K (.list ds))) : De (tCB (fun xs H Q => ∃ p ys, xs = [.ref p] ∧ ((SqL K H p ys ∧ ∀ l, H l = none → Q (.ref l) (upd H l (.tup ys))) ∨ (SqT K H p ys ∧ Q (.ref p) H))) (tCons ta tNil)) σ B (dat K (.tuple ds)) :=
  (De.cb (.cons (h.conv fun _ _ => dat_lstR) .nil) rc_tupL).conv fun _ _ => tupR_dat
theorem De.tupleT {ta : TE} {ds : List PyData} (h : De ta σ B (dat K (.tuple ds))) : De (tCB (fun xs H Q => ∃ p ys, xs = [.ref p] ∧ ((SqL K H p ys ∧ ∀ l, H l = none → Q (.ref l) (upd H l (.tup ys))) ∨ (SqT K H p ys ∧ Q (.ref p) H))) (tCons ta tNil)) σ B (dat K (.tuple ds)) :=
  (De.cb (.cons (h.conv fun _ _ => dat_tupR) .nil) rc_tupT).conv fun _ _ => tupR_dat
theorem De.listL {ta : TE} {ds : List PyData} (h : De ta σ B (dat K (.list ds))) : De (tCB (fun xs H Q => ∃ p ys, xs = [.ref p] ∧ (SqL K H p ys ∨ SqT K H p ys) ∧ ∀ l, H l = none → Q (.ref l) (upd H l (.lst ys))) (tCons ta tNil)) σ B (dat K (.list ds)) :=
  (De.cb (.cons (h.conv fun _ _ => dat_lstR) .nil) rc_lstL).conv fun _ _ => lstR_dat
theorem De.listT {ta : TE} {ds : List PyData} (h : De ta σ B (dat K (.tuple ds))) : De (tCB (fun xs H Q => ∃ p ys, xs = [.ref p] ∧ (SqL K H p ys ∨ SqT K H p ys) ∧ ∀ l, H l = none → Q (.ref l) (upd H l (.lst ys))) (tCons ta tNil)) σ B (dat K (.list ds)) :=
  (De.cb (.cons (h.conv fun _ _ => dat_tupR) .nil) rc_lstT).conv fun _ _ => lstR_dat
theorem De.lenL {ta : TE} {ds : List PyData} (h : De ta σ B (dat K (.list ds))) : De (tCB (fun xs H Q => ∃ x n, xs = [x] ∧ LenV K x H n ∧ Q (.int n) H) (tCons ta tNil)) σ B (dat K (.int (ds.length : Int))) := .cb (.one h) rc_len
theorem De.lenT {ta : TE} {ds : List PyData} (h : De ta σ B (dat K (.tuple ds))) : De (tCB (fun xs H Q => ∃ x n, xs = [x] ∧ LenV K x H n ∧ Q (.int n) H) (tCons ta tNil)) σ B (dat K (.int (ds.length : Int))) := .cb (.one h) rc_lenT
theorem De.sorted {ta : TE} {ds : List PyData} (h : De ta σ B (dat K (.list ds))) (hal : PySem.W.AllAlike ds) (hk : PySem.W.SortOk ds) (hd : ∀ d ∈ ds, d.depth ≤ 60) : De (tCB (rSortedD K) (tCons ta tNil)) σ B (dat K (.list (sortD ds))) := .cb (.one h) (rc_sorted hal hk hd)
theorem De.show {ta : TE} {d : PyData} (h : De ta σ B (dat K d)) (hs : Shw d) : De (tCB (rShow K) (tCons ta tNil)) σ B (dat K (.str d.shown)) := .cb (.one h) (rc_show hs)
theorem De.listRg {ta : TE} {n : Nat} (h : De ta σ B (dat K (.int (n : Int)))) (h1 : n ≤ 1000000) : De (tLstRg (tRg1 ta)) σ B (dat K (.list ((List.range n).map fun i : Nat => .int (i : Int)))) := fun B1 H s1 s2 Q q => h B1 H s1 s2 _ fun v B2 H2 e hv => by
  have hv := dat_int hv
  subst hv
  refine ⟨n, rfl, RgOk.of_le (Int.le_refl 0) (by omega) (by decide) (by omega), fun p hp => ?_⟩
  have ev : rgV 0 (n : Int) = ((List.range n).map fun i : Nat => V.int (i : Int)) := by
    unfold rgV
    have e : ((n : Int) - 0).toNat = n := by omega
    rw [e]
    exact List.map_congr_left fun i _ => by rw [Int.zero_add]
  rw [ev]
  refine q _ (upd B2 p (.lst ((List.range n).map fun i : Nat => V.int (i : Int)))) _ (e.trans (.new e.bh hp)) ?_
  refine Dp.lst (SqL.of upd_same) ?_
  have : ∀ l : List Nat, DpAll K (upd B2 p (.lst ((List.range n).map fun i : Nat => V.int (i : Int)))) (l.map fun i : Nat => V.int (i : Int)) (l.map fun i : Nat => PyData.int (i : Int)) := by
    intro l
    induction l with
    | nil => exact .nil
    | cons i l ih => exact .cons (.int _) ih
  exact this _
theorem Rv.catS {xs ys : List PyData} (hz : xs.length + ys.length ≤ sizeLine) : Rv (rCatS K) B (dat K (.list xs)) (dat K (.list ys)) (dat K (.list (xs ++ ys))) := fun x y B1 H _ s2 hx hy Q q => by
  obtain ⟨a, us, rfl, h, g⟩ := dat_lstR hx
  obtain ⟨b, ws, rfl, h', g'⟩ := dat_lstR hy
  have l1 := allR_len g
  have l2 := allR_len g'
  rw [List.length_map] at l1 l2
  refine ⟨a, b, us, ws, rfl, rfl, s2.seq h, s2.seq h', by omega, fun p hp => ?_⟩
  refine q _ (upd B1 p (.lst (us ++ ws))) _ (.new s2 hp) ?_
  have s := new_same (o := .lst (us ++ ws)) (s2.free hp)
  exact .lst (SqL.of upd_same) (dpMonoAll s _ _ (allR_dp (by rw [List.map_append]; exact allR_app g g')))
theorem Rv.inT {d : PyData} {ds : List PyData} (hd : SeqAt.shaped d = true) (he : SeqAt.shaped (.tuple ds) = true) : Rv (rInT K false) B (dat K d) (dat K (.tuple ds)) (dat K (.bool (ds.any fun z => PyData.eqv z d))) := fun x y B1 H _ s2 hx hy Q q =>
  ⟨d, ds, dpMono s2 _ _ hx, dpMono s2 _ _ hy, hd, he, q _ B1 H (.refl s2) (Dp.bl _)⟩
theorem Rv.notInT {d : PyData} {ds : List PyData} (hd : SeqAt.shaped d = true) (he : SeqAt.shaped (.tuple ds) = true) : Rv (rInT K true) B (dat K d) (dat K (.tuple ds)) (dat K (.bool (!ds.any fun z => PyData.eqv z d))) := fun x y B1 H _ s2 hx hy Q q =>
  ⟨d, ds, dpMono s2 _ _ hx, dpMono s2 _ _ hy, hd, he, q _ B1 H (.refl s2) (Dp.bl _)⟩
theorem Rv.eqI {i j : Int} : Rv rEq B (dat K (.int i)) (dat K (.int j)) (dat K (.bool (decide (i = j)))) := fun x y B1 H _ s2 hx hy Q q => by
  have hx := dat_int hx
  have hy := dat_int hy
  subst hx hy
  have e : decide (V.int i = V.int j) = decide (i = j) := by simp
  refine ⟨rfl, ?_⟩
  rw [e]
  exact q _ B1 H (.refl s2) (Dp.bl _)
theorem Rv.neI {i j : Int} : Rv rNe B (dat K (.int i)) (dat K (.int j)) (dat K (.bool (!decide (i = j)))) := fun x y B1 H _ s2 hx hy Q q => by
  have hx := dat_int hx
  have hy := dat_int hy
  subst hx hy
  have e : decide (V.int i = V.int j) = decide (i = j) := by simp
  refine ⟨rfl, ?_⟩
  rw [e]
  exact q _ B1 H (.refl s2) (Dp.bl _)
theorem Rv.eqS {i j : Str} : Rv rEq B (dat K (.str i)) (dat K (.str j)) (dat K (.bool (decide (i = j)))) := fun x y B1 H _ s2 hx hy Q q => by
  have hx := dat_str hx
  have hy := dat_str hy
  subst hx hy
  have e : decide (V.str i = V.str j) = decide (i = j) := by simp
  refine ⟨rfl, ?_⟩
  rw [e]
  exact q _ B1 H (.refl s2) (Dp.bl _)
theorem Rv.neS {i j : Str} : Rv rNe B (dat K (.str i)) (dat K (.str j)) (dat K (.bool (!decide (i = j)))) := fun x y B1 H _ s2 hx hy Q q => by
  have hx := dat_str hx
  have hy := dat_str hy
  subst hx hy
  have e : decide (V.str i = V.str j) = decide (i = j) := by simp
  refine ⟨rfl, ?_⟩
  rw [e]
  exact q _ B1 H (.refl s2) (Dp.bl _)
end
section
variable (P : Program) (w : World) (K : PySem.W.Frag) (mg : Str → Option Value) (base : Heap)
/-- a class of objects that keep their arguments -/
structure CalC (x : Str) (C : Addr) (fs : List Str) : Prop where
  c : Cls K C
  g : mg x = some (.ref C)
  na : ∀ f ∈ fs, NoAttr K C f
  ini : ∃ (f : Addr) (fd : FuncData), Mk K C f ∧ FnOk P w K mg base CX0 1 f fd ("self" :: fs) (spIns C fs) ∧ Binds K fd ("self" :: fs) []
end
section
variable {X : Cx} {x : Str} {C : Addr} {fs : List Str} {k : Nat} {p pos : Pos} {e : Expr} {es : List Expr} {t : TA}
theorem pe_calC (c : CalC X.prog X.w X.K X.mg X.base x C fs) (hr : Room k X.A) (hk : 2 ≤ k) (hg : Gl X x) (ha : PA X (e :: es) t) (hdb : (x == ("__debug__" : Str)) = false := by decide)
    (he : starEach (e :: es) X.env = (false, eval e X.env) :: starEach es X.env := by rfl) (hpl : (backTo pos (starEach es X.env)).any (·.1) = false := by rfl) : PE X (.Call (.Name x p) (e :: es) [] pos) (tMake C (spIns C fs) [] E0 t) := by
  obtain ⟨f, fd, M, F, b⟩ := c.ini
  exact pe_make M F (hr.mono hk) hg c.g b .nil pass0 ha hdb he hpl
end
end Wv

set_option Elab.async false
set_option linter.all false
set_option maxRecDepth 100000
set_option maxHeartbeats 4000000
/-! Wv3: enumerate of a tuple, zip of tuples; promises by their arguments. -/
namespace Wb
open PySem PySem.Spec PyProof.Rows L2
/-- the tuple at a, each item in a new pair with its number -/
def IteT (K : PySem.W.Frag) (a : Addr) : It :=
  ⟨fun i H => ∃ (xs : List V) (x : V), SqT K H a xs ∧ xs[i]? = some x, fun i H v H' => ∃ T x, v = .ref T ∧ H T = none ∧ H' = upd H T (.tup [.int (i : Nat), x]) ∧ ∀ xs, SqT K H a xs → xs[i]? = some x, fun i H => ∃ xs : List V, SqT K H a xs ∧ xs.length ≤ i⟩
theorem two_mem {α : Type} {b x y : α} (h : b ∈ [x, y]) : b = x ∨ b = y := by simpa using h
theorem apart_tup {h : Heap} {it a : Addr} {i : Nat} {xs : Array Value} (h1 : h.IsTupleIter it a i) (h2 : h.IsTuple a xs) : a ≠ it := by
  rintro rfl
  obtain ⟨o, e, c, _⟩ := h1
  obtain ⟨o', e', c', _⟩ := h2
  rw [e] at e'
  cases e'
  rw [c] at c'
  exact absurd c' (by decide)
theorem turn_enumT {P : Program} {w : World} {K : PySem.W.Frag} {elts : List Expr} {kk : Nat} {tpos : Pos} (a e it : Addr) :
    Turn P w K (.Tuple elts kk tpos) (IteT K a) [e, it] e (fun i h => (∃ old, IsEnum h e it ((i : Nat) : Int) old) ∧ h.IsTupleIter it a i ∧ e ≠ it ∧ e ≠ a) where
  mem := by simp
  obj := fun i h st b hb => by
    obtain ⟨⟨old, he⟩, ⟨o, ho, hc, hd⟩, _⟩ := st
    rcases two_mem hb with z | z <;> subst z
    · exact ⟨_, he, fun v q => nomatch q⟩
    · exact ⟨o, ho, fun v q => by rw [hd] at q; cases q⟩
  keep := fun i h h' ⟨⟨old, he⟩, hi, hne⟩ k => ⟨⟨old, k e (by simp) _ he⟩, hi.at fun o q => k it (by simp) o q, hne⟩
  item := by
    intro X hP hw hK hc i pins s σ H E I hf ⟨⟨old, he⟩, hit, hne, hea⟩ ⟨xs, x, hq, hx⟩
    subst hP hw hK
    obtain ⟨its, rv, p, hz⟩ := I.tuple hq
    obtain ⟨u, hu, ru⟩ := rv.get hx
    have lt : ∀ b ∈ [e, it], b < s.heap.objs.size := fun b hb => by
      rcases two_mem hb with z | z <;> subst z
      · exact Heap.lt_size he
      · obtain ⟨_, q, _⟩ := hit
        exact Heap.lt_size q
    have hel := lt e (by simp)
    have hi : i < its.toArray.size := by
      have := List.getElem?_eq_some_iff.mp hu
      simpa using this.1
    refine wpAny_pyNext_enum_itemD (Draws.tuple (A := X.A.in1) (show X.A.in1.handled = none from I.ok.hd hc) it a (apart_tup hit p) its.toArray) he ⟨hit, p⟩ hi hne (by simp [hne, hea]) fun y h1 tk hy ho hst hT hsz hk => ?_
    have hy : its[i]? = some y := by simpa using hy
    rw [hu] at hy
    cases hy
    refine ⟨_, rfl, wpAny_letOwnedTupleGo_enum (s := { s with heap := h1, toks := tk + 1 }) ho fun h2 he' sb => ?_⟩
    have hT2 := (sb.2 _ (Nat.ne_of_gt hel)).trans hT
    refine ⟨.ref s.heap.objs.size, _, I.turnedNew (t' := tk + 1) (ch := [e, it]) (ob := .tup [.int (i : Nat), x]) (fun b ob hb q => (sb.2 b (fun z => hb (by simp [z]))).trans (hk b ob (fun z => hb (by simp [z])) (fun z => hb (by simp [z])) q)) hf (Nat.le_refl _)
      ⟨by show 2 ≤ sizeLine; decide, [.int i tk, u], .cons ⟨_, rfl⟩ (.cons ru .nil), ⟨_, hT2, rfl, _, rfl⟩⟩, rfl, ⟨_, x, rfl, I.hok.fresh (Nat.le_refl _), rfl, fun ys hy => by rw [I.tuple_inj hy hq]; exact hx⟩, ⟨⟨u, ?_⟩, hst.1.at fun o q => (sb.2 it (Ne.symm hne)).trans q, hne, hea⟩, fun b hb => ?_⟩
    · rw [show ((i + 1 : Nat) : Int) = (i : Int) + 1 by omega]
      exact he'
    · rw [upd_ne (Nat.ne_of_lt (lt b hb))]
      exact (hf b hb).1
  done := by
    intro X hP hw hK hc i pins s σ H E I hf ⟨⟨old, he⟩, hit, hne, hea⟩ ⟨xs, hq, hx⟩
    subst hP hw hK
    obtain ⟨its, rv, p, hz⟩ := I.tuple hq
    obtain ⟨f0, f1, f2, f3, f4, f5⟩ := hf it (by simp)
    have hl := rv.length
    have hno : its.toArray[i]? = none := by simp; omega
    have hT : s.TypeIs (.ref e) "enumerate" := ⟨_, he, rfl⟩
    unfold pyNext
    refine wpAny_bind (wpAny_attempt (wpAny_callSpecial?_slot (name := Str.ofString "__next__") hT F.slot_enumerate_next
      (wpAny_call_entry F.slot_enumerate_next hT F.entry_enumerate_next ?_ (F.args_enumerate_next_1 _))))
    show wpAny _ _ (field (.ref e) 2 >>= _) _ _ _
    refine wpAny_bind (wpAny_field he rfl (x := .ref it) rfl ?_)
    refine wpAny_bind (RZ.nextOf_tuple_end (I.ok.hd hc) hit p hno fun h' x he' ⟨o, ho, hc'⟩ => ?_)
    refine wpAny_bind (wpAny_isInstance (T := "StopIteration") (b := true) ⟨o, ho, hc'⟩ isSubtype_stop ?_)
    exact wpAny_pure ⟨rfl, I.turned (t' := s.toks) (fun b o hb q => he' b o hb q) f0 f1 f3 f4 f5⟩
  self := fun A i s Q E ⟨⟨_, he⟩, _⟩ h => wpAny_pyIter_enum he h
set_option maxHeartbeats 8000000 in
theorem meets_enumB1 {v : Value} {o : Obj} {H : Heap → Prop} (B : Begins v o H) :
    Meets (Builtin.«enumerate.__new__» ⟨[.type "enumerate", v], []⟩) (fun _ R s => H s.heap ∧
      R (.ok (.ret (.ref (s.heap.push o).objs.size))) { s with heap := (s.heap.push o).push { cls := .type "enumerate", data := .fields #[.none, .bool false, .ref s.heap.objs.size, rawInt 0, .none, .none] } }) :=
  .of_wp fun prog w A R ⟨hp, g, d, tk, os⟩ ⟨h1, h⟩ => by
    have hsub := sub_enumerate
    have q1 : ∀ {A' : Around} {E : Value → Shared → Prop} {Q : Value → Shared → Prop}, Q (.ref hp.objs.size) ⟨hp.push o, g, d, tk, os⟩ → wpAny (model prog w) A' (pyIter v) Q E ⟨hp, g, d, tk, os⟩ :=
      fun q => B.iter prog w _ _ ⟨hp, g, d, tk, os⟩ _ h1 q
    wp_walk using q1
    refine wpAny_stack_any fun st => wpAny_pure ?_
    split
    · rename_i c _ _ _ _ _
      cases (c == Value.type "enumerate") <;> (wp_walk using q1; exact ⟨_, rfl, h⟩)
    · wp_walk using q1
      exact ⟨_, rfl, h⟩
def iEnumT (K : PySem.W.Frag) (ta : TA) : TI := fun σ H R => ta σ H fun vs H1 => ∃ a xs, vs = [.ref a] ∧ SqT K H1 a xs ∧ R (IteT K a) H1
theorem pi_enumT {X : Cx} {e : Expr} {ta : TA} {p pos tpos : Pos} {elts : List Expr} {kk : Nat} (hg : Gl X "enumerate") (hm : X.mg "enumerate" = none) (ha : PA X [e] ta) (hs : starEach [e] X.env = [(false, eval e X.env)] := by rfl) :
    PI X (.Tuple elts kk tpos) (.Call (.Name "enumerate" p) [e] [] pos) (iEnumT X.K ta) := by
  refine ⟨fun pins s σ H R I h => ?_⟩
  refine Call_ (ld_blt I hg hm boot_enumerate (PyProof.Rows.callWith_type1 (thn (ha.run pos pins s σ H _ I h) fun us s1 ⟨vs, H1, I1, r1, q1⟩ => ?_) hs rfl))
  obtain ⟨a, xs, rfl, hq, q⟩ := q1
  obtain ⟨u, rfl, ru⟩ := vals1 r1
  obtain rfl : u = Value.ref a := ru
  obtain ⟨its, rv, p', hz⟩ := I1.tuple hq
  have hT : s1.heap.IsTuple a its.toArray := p'
  refine callType_new F.called_enumerate (by decide) (F.typeCall_enumerate_1 _) (F.newCall_enumerate_1 _) (fun obj => F.args_object_init_2 obj _) F.entry_enumerate_new (meets_enumB1 (begins_tuple a its.toArray)) ⟨hT, ?_⟩
  have sz : (s1.heap.push { cls := .type "tuple_iterator", data := .fields #[.ref a, .int 0 0] }).objs.size = s1.heap.objs.size + 1 := Heap.size_push ..
  have he : IsEnum ((s1.heap.push { cls := .type "tuple_iterator", data := .fields #[.ref a, .int 0 0] }).push { cls := .type "enumerate", data := .fields #[.none, .bool false, .ref s1.heap.objs.size, rawInt 0, .none, .none] }) (s1.heap.objs.size + 1) s1.heap.objs.size 0 .none := by
    have := Heap.get?_push_size (s1.heap.push { cls := .type "tuple_iterator", data := .fields #[.ref a, .int 0 0] }) (o := { cls := .type "enumerate", data := .fields #[.none, .bool false, .ref s1.heap.objs.size, rawInt 0, .none, .none] }) rfl
    rw [sz] at this
    exact this
  show _ ∧ _
  rw [sz]
  refine ⟨⟨_, he, rfl⟩, wpAny_pyIter_enum (s := { s1 with heap := _ }) he ?_⟩
  have la : a < s1.heap.objs.size := by
    obtain ⟨o, ho, _⟩ := hT
    exact Heap.lt_size ho
  refine ⟨s1.heap.objs.size + 1, [s1.heap.objs.size + 1, s1.heap.objs.size], _, _, H1, rfl, I1.kept (t' := s1.toks) fun b ob q => Heap.get?_push_of_some _ (Heap.get?_push_of_some _ q), turn_enumT a (s1.heap.objs.size + 1) s1.heap.objs.size,
    ⟨⟨.none, he⟩, ⟨_, Heap.get?_push_of_some _ (Heap.get?_push_size _ rfl), rfl, rfl⟩, Nat.succ_ne_self _, Nat.ne_of_gt (Nat.lt_succ_of_lt la)⟩, fun b hb => ?_, q⟩
  have le : s1.heap.objs.size ≤ b := by
    rcases two_mem hb with z | z <;> subst z
    · exact Nat.le_succ _
    · exact Nat.le_refl _
  exact I1.fpOk le (I1.hok.fresh le)
theorem walk_enumT {K : PySem.W.Frag} {a : Addr} {xs : List V} : Walk (IteT K a) xs.length (fun H => SqT K H a xs) (YPair (fun i => some (.int (i : Nat))) (fun i => xs[i]?)) :=
  ⟨fun i _ hi q => ⟨xs, xs[i], q, List.getElem?_eq_getElem hi⟩, fun _ q => ⟨xs, q, Nat.le_refl _⟩, fun i H v H' _ q ⟨T, x, h1, h2, h3, h4⟩ => ⟨T, .int (i : Nat), x, h1, h2, h3, rfl, h4 xs q⟩⟩
theorem walk_zipT {K : PySem.W.Frag} {a b : Addr} {xs ys : List V} {n : Nat} (hn : n = min xs.length ys.length) : Walk (RZ.ItzT K a b) n (fun H => SqT K H a xs ∧ SqT K H b ys) (YPair (fun i => xs[i]?) (fun i => ys[i]?)) :=
  ⟨fun i _ hi q => ⟨xs, ys, xs[i]'(by omega), ys[i]'(by omega), q.1, q.2, List.getElem?_eq_getElem _, List.getElem?_eq_getElem _⟩, fun _ q => ⟨xs, ys, q.1, q.2, by omega⟩, fun i H v H' _ q ⟨T, x, z, h1, h2, h3, h4, h5⟩ => ⟨T, x, z, h1, h2, h3, h4 xs q.1, h5 ys q.2⟩⟩
/-- a list or a tuple, walked -/
def iSeq (K : PySem.W.Frag) (tl : TE) : TI := fun σ H R => tl σ H fun x H1 => ∃ a, x = .ref a ∧ ((∃ xs, SqL K H1 a xs) ∧ R (Itl K a) H1 ∨ (∃ xs, SqT K H1 a xs) ∧ R (Itt K a) H1)
theorem pi_seq {X : Cx} {tg l : Expr} {tl : TE} (hl : PE X l tl) : PI X tg l (iSeq X.K tl) := by
  refine ⟨fun pins s σ H R I h => thn (hl.run pins s σ H _ I h) fun v s1 ⟨x, H1, I1, r1, a, e, q⟩ => ?_⟩
  subst e
  cases r1
  have new : ∀ b ∈ [s1.heap.objs.size], FpOk X pins H1 b := fun b hb => by
    rw [List.mem_singleton.mp hb]
    exact I1.fpOk (Nat.le_refl _) (I1.hok.fresh (Nat.le_refl _))
  rcases q with ⟨⟨xs, hq⟩, q⟩ | ⟨⟨xs, hq⟩, q⟩
  · obtain ⟨its, rv, p, hz⟩ := I1.list hq
    exact wpAny_pyIter_list p.isList ⟨s1.heap.objs.size, _, _, _, H1, rfl, I1.kept (t' := s1.toks) fun b o e => Heap.get?_push_of_some _ e, turn_list a _, ⟨_, Heap.get?_push_size _ rfl, rfl, rfl⟩, new, q⟩
  · obtain ⟨its, rv, p, hz⟩ := I1.tuple hq
    exact wpAny_pyIter_tuple (show s1.heap.IsTuple a its.toArray from p) ⟨s1.heap.objs.size, _, _, _, H1, rfl, I1.kept (t' := s1.toks) fun b o e => Heap.get?_push_of_some _ e, turn_tuple a _, ⟨_, Heap.get?_push_size _ rfl, rfl, rfl⟩, new, q⟩
end Wb
namespace Wv
open PySem PySem.Spec PyProof.Rows L2 Wb
section
variable {K : PySem.W.Frag} {σ : L2.St} {B B' : Hp} {ta tb te tl : TE} {tt tu : TT} {R S T U : Rel} {Rs : List Rel} {x v : V}
theorem Di.zipT {ta : TA} {Ss : List Rel} [m : MoA Rs] [m' : MoA Ss] (hm : ∀ R ∈ Rs, Mo R) (hm' : ∀ R ∈ Ss, Mo R) (h : Da ta σ B [tupR K Rs, tupR K Ss]) : Di (RZ.iZipA K ta) σ B ((Rs.zip Ss).map fun p => tupR K [p.1, p.2]) := fun B1 H s1 s2 Q q => h B1 H s1 s2 _ fun vs B2 H2 e hv => by
  obtain ⟨v, r, rfl, ⟨a, xs, rfl, hs, hR⟩, v', r', rfl, ⟨b, ys, rfl, hs', hR'⟩, h5⟩ := hv
  have h5 : r' = [] := h5
  subst h5
  refine ⟨a, b, xs, ys, rfl, .inr ⟨seqT e.bh hs, seqT e.bh hs', q _ B2 H2 e ?_⟩⟩
  have len := allR_len hR
  have len' := allR_len hR'
  unfold Wk
  rw [List.length_map]
  refine (walk_zipT (K := K) (a := a) (b := b) (xs := xs) (ys := ys) (n := (Rs.zip Ss).length) (by rw [List.length_zip, len, len'])).mono (fun H' s => ⟨seqT s hs, seqT s hs'⟩) fun i H' x H'' hi s y => ?_
  obtain ⟨p, u, w, rfl, hp, rfl, hu, hw⟩ := y
  have hu : xs[i]? = some u := hu
  have hw : ys[i]? = some w := hw
  obtain ⟨R, hR1, _⟩ := allR_at hR hu
  obtain ⟨S, hS1, _⟩ := allR_at hR' hw
  refine ⟨tupR K [R, S], ?_, fun Bc sc sh => ?_⟩
  · rw [List.getElem?_map, List.getElem?_zip_eq_some (z := (R, S)) |>.mpr ⟨hR1, hS1⟩]
    rfl
  · have := hm R (List.mem_of_getElem? hR1)
    have := hm' S (List.mem_of_getElem? hS1)
    obtain ⟨v1, hv1, q1⟩ := allR_of (m.mo sc hR) hR1
    obtain ⟨v2, hv2, q2⟩ := allR_of (m'.mo sc hR') hS1
    rw [hu] at hv1
    rw [hw] at hv2
    cases hv1
    cases hv2
    exact pair_new sh hp q1 q2
theorem Di.enumT {ta : TA} [m : MoA Rs] (hm : ∀ R ∈ Rs, Mo R) (h : Da ta σ B [tupR K Rs]) : Di (iEnumT K ta) σ B (Rs.zipIdx.map fun p => tupR K [dat K (.int (p.2 : Int)), p.1]) := fun B1 H s1 s2 Q q => h B1 H s1 s2 _ fun vs B2 H2 e hv => by
  obtain ⟨v, r, rfl, ⟨a, xs, rfl, hs, hR⟩, h5⟩ := hv
  have h5 : r = [] := h5
  subst h5
  refine ⟨a, xs, rfl, seqT e.bh hs, q _ B2 H2 e ?_⟩
  have len := allR_len hR
  unfold Wk
  rw [List.length_map, List.length_zipIdx, ← len]
  refine (walk_enumT (K := K) (a := a) (xs := xs)).mono (fun H' s => seqT s hs) fun i H' x H'' hi s y => ?_
  obtain ⟨p, u, w, rfl, hp, rfl, hu, hw⟩ := y
  cases hu
  have hw : xs[i]? = some w := hw
  obtain ⟨R, hR1, _⟩ := allR_at hR hw
  refine ⟨tupR K [dat K (.int (i : Int)), R], ?_, fun Bc sc sh => ?_⟩
  · rw [List.getElem?_map, List.getElem?_zipIdx, hR1]
    simp
  · have := hm R (List.mem_of_getElem? hR1)
    obtain ⟨v1, hv1, q1⟩ := allR_of (m.mo sc hR) hR1
    rw [hw] at hv1
    cases hv1
    exact pair_new sh hp (Dp.int _) q1
/-- of data that stands for things -/
theorem mo_dats {α : Type} {as : List α} {f : α → PyData} : ∀ R ∈ as.map (fun a => dat K (f a)), Mo R := fun R h => by
  obtain ⟨a, _, rfl⟩ := List.mem_map.mp h
  exact inferInstance
theorem mos_dats {α : Type} {as : List α} {f : α → PyData} : MoA (as.map fun a => dat K (f a)) := moA_of mo_dats
theorem dat_tupM {α : Type} {as : List α} {f : α → PyData} {B : Hp} {v : V} (h : dat K (.tuple (as.map f)) B v) : tupR K (as.map fun a => dat K (f a)) B v := by
  have := dat_tupR h
  rw [List.map_map] at this
  exact this
theorem Di.zipTM {α β : Type} {as : List α} {bs : List β} {f : α → PyData} {g : β → PyData} {ta tb : TE} (h : De ta σ B (dat K (.tuple (as.map f)))) (h2 : De tb σ B (dat K (.tuple (bs.map g)))) :
    Di (RZ.iZipA K (tCons ta (tCons tb tNil))) σ B ((as.zip bs).map fun p => tupR K [dat K (f p.1), dat K (g p.2)]) := by
  have : MoA (as.map fun a => dat K (f a)) := mos_dats
  have : MoA (bs.map fun a => dat K (g a)) := mos_dats
  have i1 : Mo (tupR K (as.map fun a => dat K (f a))) := inferInstance
  have := Di.zipT (K := K) (Rs := as.map fun a => dat K (f a)) (Ss := bs.map fun a => dat K (g a)) mo_dats mo_dats (.cons (h.conv fun _ _ => dat_tupM) (.cons (h2.conv fun _ _ => dat_tupM) .nil))
  rw [List.zip_map, List.map_map] at this
  exact this
theorem Di.enumTM {α : Type} {as : List α} {f : α → PyData} {ta : TE} (h : De ta σ B (dat K (.tuple (as.map f)))) : Di (iEnumT K (tCons ta tNil)) σ B (as.zipIdx.map fun p => tupR K [dat K (.int (p.2 : Int)), dat K (f p.1)]) := by
  have : MoA (as.map fun a => dat K (f a)) := mos_dats
  have := Di.enumT (K := K) (Rs := as.map fun a => dat K (f a)) mo_dats (.cons (h.conv fun _ _ => dat_tupM) .nil)
  rw [List.zipIdx_map, List.map_map] at this
  exact this
end
/-! ### promises by their arguments -/
section
variable {α : Type} {args : α → List Rel} {R R1 R2 R3 : α → Rel} {pre : α → Prop} {res : α → Rel} {vs : List V} {H : Hp} {Q : VK} {E : XK}
theorem pf_len (h : Pf args pre res vs H Q E) {m : Nat} (n : ∀ a, (args a).length = m) : vs.length = m := by
  obtain ⟨B, a, _, h, _⟩ := h
  rw [allR_len h, n]
theorem pf1 (h : Pf (fun a => [R a]) pre res vs H Q E) : ∃ v B a, vs = [v] ∧ Same B H ∧ R a B v ∧ pre a ∧ ∀ v B' H', Ext B H B' H' → res a B' v → Q v H' := by
  obtain ⟨B, a, s, ⟨v, r, rfl, h1, h⟩, p, k⟩ := h
  have h : r = [] := h
  subst h
  exact ⟨v, B, a, rfl, s, h1, p, k⟩
theorem pf2 (h : Pf (fun a => [R a, R1 a]) pre res vs H Q E) : ∃ v v1 B a, vs = [v, v1] ∧ Same B H ∧ R a B v ∧ R1 a B v1 ∧ pre a ∧ ∀ v B' H', Ext B H B' H' → res a B' v → Q v H' := by
  obtain ⟨B, a, s, ⟨v, r, rfl, h1, v1, r1, rfl, h2, h⟩, p, k⟩ := h
  have h : r1 = [] := h
  subst h
  exact ⟨v, v1, B, a, rfl, s, h1, h2, p, k⟩
theorem pf3 (h : Pf (fun a => [R a, R1 a, R2 a]) pre res vs H Q E) : ∃ v v1 v2 B a, vs = [v, v1, v2] ∧ Same B H ∧ R a B v ∧ R1 a B v1 ∧ R2 a B v2 ∧ pre a ∧ ∀ v B' H', Ext B H B' H' → res a B' v → Q v H' := by
  obtain ⟨B, a, s, ⟨v, r, rfl, h1, v1, r1, rfl, h2, v2, r2, rfl, h3, h⟩, p, k⟩ := h
  have h : r2 = [] := h
  subst h
  exact ⟨v, v1, v2, B, a, rfl, s, h1, h2, h3, p, k⟩
theorem pf4 (h : Pf (fun a => [R a, R1 a, R2 a, R3 a]) pre res vs H Q E) : ∃ v v1 v2 v3 B a, vs = [v, v1, v2, v3] ∧ Same B H ∧ R a B v ∧ R1 a B v1 ∧ R2 a B v2 ∧ R3 a B v3 ∧ pre a ∧ ∀ v B' H', Ext B H B' H' → res a B' v → Q v H' := by
  obtain ⟨B, a, s, ⟨v, r, rfl, h1, v1, r1, rfl, h2, v2, r2, rfl, h3, v3, r3, rfl, h4, h⟩, p, k⟩ := h
  have h : r3 = [] := h
  subst h
  exact ⟨v, v1, v2, v3, B, a, rfl, s, h1, h2, h3, h4, p, k⟩
end
end Wv

set_option Elab.async false
set_option linter.all false
set_option maxRecDepth 100000
set_option maxHeartbeats 4000000
/-! Wv4: statements, by what is evaluated. -/
theorem L2.Room.u65 {k : Nat} {A : PySem.Around} (h : L2.Room k A) : A.units + 65 < PySem.cLine := by
  have := h.un
  omega
namespace Wv
open PySem PySem.Spec PyProof.Rows L2 Wb
section
variable {K : PySem.W.Frag} {σ : L2.St} {B H : Hp} {ta tb te tl : TE} {tt tu : TT} {R S T U : Rel} {Rs : List Rel} {D : Ends} {t u rest : TS} {i j : Nat}
theorem s_set (h : De te σ B R) (hB : Same B H) (k : ∀ v B' H', Ext B H B' H' → R B' v → rest D (σ.set i (some v)) H') : tSeq (tAsg te (gName i)) rest D σ H := h B H (Same.refl _) hB _ k
theorem s_setE (h : De te σ B R) (hB : Same B H) (k : ∀ v B' H', Ext B H B' H' → R B' v → D.nx (σ.set i (some v)) H') : tAsg te (gName i) D σ H := h B H (Same.refl _) hB _ k
theorem s_ret (h : De te σ B R) (hB : Same B H) (k : ∀ v B' H', Ext B H B' H' → R B' v → D.rt v H') : tRet te D σ H := h B H (Same.refl _) hB _ k
theorem s_if {b : Bool} (h : Dt tt σ B b) (hB : Same B H) (k1 : b = true → ∀ B' H', Ext B H B' H' → t D σ H') (k2 : b = false → ∀ B' H', Ext B H B' H' → u D σ H') : tIfS tt t u D σ H := h B H (Same.refl _) hB _ fun B' H' e => by
  cases b with
  | true => exact k1 rfl B' H' e
  | false => exact k2 rfl B' H' e
theorem s_ifS {b : Bool} (h : Dt tt σ B b) (hB : Same B H) (k1 : b = true → ∀ B' H', Ext B H B' H' → t { D with nx := rest D } σ H') (k2 : b = false → ∀ B' H', Ext B H B' H' → u { D with nx := rest D } σ H') : tSeq (tIfS tt t u) rest D σ H := s_if (D := { D with nx := rest D }) h hB k1 k2
/-- a test that is not met: on it goes -/
theorem s_skip (h : Dt tt σ B false) (hB : Same B H) (k : ∀ B' H', Ext B H B' H' → rest D σ H') : tSeq (tIfS tt t tNext) rest D σ H := s_ifS h hB (fun z => nomatch z) fun _ => k
theorem s_par {ta : TA} {S : Rel} (h : Da ta σ B [R, S]) (hB : Same B H) (k : ∀ u v B' H', Ext B H B' H' → R B' u → S B' v → rest D ((σ.set i (some u)).set j (some v)) H') : tSeq (tPar i j ta) rest D σ H := h B H (Same.refl _) hB _ fun vs B' H' e hv => by
  obtain ⟨a, r, rfl, h1, b, r', rfl, h2, h3⟩ := hv
  have h3 : r' = [] := h3
  subst h3
  exact ⟨a, b, rfl, k a b B' H' e h1 h2⟩
theorem Rv.mulS3 {a : Nat} : Rv rMulS B (dat K (.str ⟨#[a]⟩)) (dat K (.int 3)) (dat K (.str (mulS ⟨#[a]⟩ 3))) := fun x y B1 H1 _ s2 hx hy Q q => ⟨_, 3, dat_str hx, dat_int hy, by decide, by decide, Nat.zero_lt_one, by show 1 ≤ 1000; decide, q _ B1 H1 (.refl s2) (.str _)⟩
theorem De.negI {n : Int} (h : De te σ B (dat K (.int n))) : De (tUn (rU fun i => .int (-i)) te) σ B (dat K (.int (-n))) := .un h fun x B1 H1 _ s2 hx Q q => ⟨n, dat_int hx, q _ B1 H1 (.refl s2) (.int _)⟩
theorem Di.seqL {ds : List PyData} (h : De tl σ B (dat K (.list ds))) : Di (iSeq K tl) σ B (ds.map (dat K)) := fun B1 H s1 s2 Q q => h B1 H s1 s2 _ fun v B2 H2 e hv => by
  have q2 := Di.listD (K := K) (De.var (i := 0) (σ := [some v]) hv rfl) B2 H2 (Same.refl _) e.bh Q fun J B3 H3 e3 hw => q J B3 H3 (e.trans e3) hw
  obtain ⟨x, hx, a, ha, hs, r⟩ := q2
  cases hx
  exact ⟨a, ha, .inl ⟨hs, r⟩⟩
theorem Di.seqT {ds : List PyData} (h : De tl σ B (dat K (.tuple ds))) : Di (iSeq K tl) σ B (ds.map (dat K)) := fun B1 H s1 s2 Q q => h B1 H s1 s2 _ fun v B2 H2 e hv => by
  have q2 := Di.tupD (K := K) (De.var (i := 0) (σ := [some v]) hv rfl) B2 H2 (Same.refl _) e.bh Q fun J B3 H3 e3 hw => q J B3 H3 (e.trans e3) hw
  obtain ⟨x, hx, a, ha, hs, r⟩ := q2
  cases hx
  exact ⟨a, ha, .inr ⟨hs, r⟩⟩
abbrev rTup (K : PySem.W.Frag) : List V → Hp → VK → Prop := fun xs H Q => ∃ p ys, xs = [.ref p] ∧ ((SqL K H p ys ∧ ∀ l, H l = none → Q (.ref l) (upd H l (.tup ys))) ∨ (SqT K H p ys ∧ Q (.ref p) H))
abbrev rLst (K : PySem.W.Frag) : List V → Hp → VK → Prop := fun xs H Q => ∃ p ys, xs = [.ref p] ∧ (SqL K H p ys ∨ SqT K H p ys) ∧ ∀ l, H l = none → Q (.ref l) (upd H l (.lst ys))
abbrev rLen (K : PySem.W.Frag) : List V → Hp → VK → Prop := fun xs H Q => ∃ x n, xs = [x] ∧ LenV K x H n ∧ Q (.int n) H
/-- what is wanted behind a turn -/
def Nz (B H : Hp) (P : L2.St → Hp → Prop) : L2.St → Hp → Prop := fun σ H' => ∃ B', Ext B H B' H' ∧ P σ B'
theorem s_forE {wi : TI} {g : TG} {ts : TS} (hi : Di wi σ B Rs) (hB : Same B H) (Pv : Nat → L2.St → Hp → Prop) (h0 : ∀ B', Same B B' → Pv 0 σ B')
    (hs : ∀ B1 H1, Ext B H B1 H1 → ∀ i R v σ' Bc Bn Hn, Rs[i]? = some R → Pv i σ' Bc → Same Bc Bn → Ext B1 H1 Bn Hn → R Bn v → g v σ' Hn fun σ2 H2 => ts { D with nx := Nz B1 H1 (Pv (i + 1)), ct := Nz B1 H1 (Pv (i + 1)), bk := D.nx } σ2 H2)
    (hd : ∀ σ' B' H', Ext B H B' H' → Pv Rs.length σ' B' → D.nx σ' H') : tFor wi g ts D σ H :=
  hi B H (Same.refl _) hB _ fun J B1 H1 e hw => for_it hw (fun i => Nz B1 H1 (Pv i)) ⟨B1, .refl e.bh, h0 B1 e.bb⟩ (fun i σ' H' _ ⟨B', s1, _⟩ => s1.bb.trans s1.bh)
    (fun i x σ' H' H'' hi ⟨Bc, s1, p⟩ ⟨R, hR, y⟩ => by
      obtain ⟨Bn, e2, hx⟩ := y Bc s1.bb s1.bh
      exact hs B1 H1 e i R x σ' Bc Bn H'' hR p e2.bb (s1.trans e2) hx)
    (fun σ' H' ⟨B', s1, p⟩ => hd σ' B' H' (e.trans s1) p)
theorem s_forS {wi : TI} {g : TG} {ts : TS} (hi : Di wi σ B Rs) (hB : Same B H) (Pv : Nat → L2.St → Hp → Prop) (h0 : ∀ B', Same B B' → Pv 0 σ B')
    (hs : ∀ B1 H1, Ext B H B1 H1 → ∀ i R v σ' Bc Bn Hn, Rs[i]? = some R → Pv i σ' Bc → Same Bc Bn → Ext B1 H1 Bn Hn → R Bn v → g v σ' Hn fun σ2 H2 => ts { D with nx := Nz B1 H1 (Pv (i + 1)), ct := Nz B1 H1 (Pv (i + 1)), bk := rest D } σ2 H2)
    (hd : ∀ σ' B' H', Ext B H B' H' → Pv Rs.length σ' B' → rest D σ' H') : tSeq (tFor wi g ts) rest D σ H := s_forE (D := { D with nx := rest D }) hi hB Pv h0 hs hd
end
end Wv

set_option Elab.async false
set_option linter.all false
set_option maxRecDepth 100000
set_option maxHeartbeats 4000000
/-! Wv5: what is evaluated while a deal goes on: a base that leaves the deal's two lists out. -/
namespace Wv
open PySem PySem.Spec PyProof.Rows L2 Wb
/-- the deal at d and c, a base that has neither -/
structure Dl (B H : Hp) (d c : Addr) : Prop where
  deal : Deal H d c
  sub : Same B (off H d c)
theorem Dl.bh {B H : Hp} {d c : Addr} (L : Dl B H d c) : Same B H := L.sub.trans (off_le H d c)
theorem Dl.noD {B H : Hp} {d c : Addr} (L : Dl B H d c) : B d = none := by
  cases h : B d with
  | none => rfl
  | some o => exact absurd rfl (off_some (L.sub _ _ h)).2.1
theorem Dl.noC {B H : Hp} {d c : Addr} (L : Dl B H d c) : B c = none := by
  cases h : B c with
  | none => rfl
  | some o => exact absurd rfl (off_some (L.sub _ _ h)).2.2
theorem Deal.atD {H : Hp} {d c : Addr} (D : Deal H d c) : H d ≠ none ∧ H c ≠ none := by
  obtain ⟨cs, mix, h1, h2, _⟩ := D.ex
  rw [h1, h2]
  exact ⟨Option.some_ne_none _, Option.some_ne_none _⟩
/-- later: the deal may have been drawn from, all else is kept -/
structure ExtD (d c : Addr) (B H B' H' : Hp) : Prop where
  deal : Deal H' d c
  oo : Same (off H d c) (off H' d c)
  bb : Same B B'
  sub : Same B' (off H' d c)
  nw : ∀ b, H b ≠ none → B b = none → B' b = none
theorem ExtD.dl {d c : Addr} {B H B' H' : Hp} (e : ExtD d c B H B' H') : Dl B' H' d c := ⟨e.deal, e.sub⟩
theorem ExtD.bh {d c : Addr} {B H B' H' : Hp} (e : ExtD d c B H B' H') : Same B' H' := e.dl.bh
theorem ExtD.refl {d c : Addr} {B H : Hp} (L : Dl B H d c) : ExtD d c B H B H := ⟨L.deal, Same.refl _, Same.refl _, L.sub, fun _ _ h => h⟩
theorem ExtD.trans {d c : Addr} {B H B1 H1 B2 H2 : Hp} (D : Dl B H d c) (a : ExtD d c B H B1 H1) (b : ExtD d c B1 H1 B2 H2) : ExtD d c B H B2 H2 :=
  ⟨b.deal, a.oo.trans b.oo, a.bb.trans b.bb, b.sub, fun x h1 h2 => by
    refine b.nw x ?_ (a.nw x h1 h2)
    by_cases e1 : x = d
    · rw [e1]
      exact (Deal.atD a.deal).1
    · by_cases e2 : x = c
      · rw [e2]
        exact (Deal.atD a.deal).2
      · cases h : H x with
        | none => exact absurd h h1
        | some o =>
          rw [(off_some (a.oo x o ((off_at e1 e2).trans h))).1]
          exact fun z => nomatch z⟩
theorem ExtD.of {d c : Addr} {B H B' H' : Hp} (L : Dl B H d c) (e : Ext B H B' H') : ExtD d c B H B' H' :=
  ⟨L.deal.same e.hh, off_mono e.hh, e.bb, fun b o h => by
    have at_ := Deal.atD L.deal
    have n1 : b ≠ d := fun z => by rw [z, e.nw d at_.1 L.noD] at h; cases h
    have n2 : b ≠ c := fun z => by rw [z, e.nw c at_.2 L.noC] at h; cases h
    rw [off_at n1 n2]
    exact e.bh b o h, e.nw⟩
theorem ExtD.draw {d c : Addr} {B H H' : Hp} (L : Dl B H d c) (D : Deal H' d c) (S : Same (off H d c) (off H' d c)) : ExtD d c B H B H' := ⟨D, S, Same.refl _, L.sub.trans S, fun _ _ h => h⟩
/-- what is neither of the deal's lists is kept -/
theorem ExtD.keep {d c a : Addr} {o : HO} {B H B' H' : Hp} (e : ExtD d c B H B' H') (h : H a = some o) (n1 : a ≠ d) (n2 : a ≠ c) : H' a = some o := (off_some (e.oo a o ((off_at n1 n2).trans h))).1
theorem deal_upd0 {H : Hp} {d c L : Addr} {o : HO} (D : Deal H d c) (n1 : L ≠ d) (n2 : L ≠ c) : Deal (upd H L o) d c := by
  obtain ⟨cs, mix, h1, h2, r⟩ := D.ex
  exact ⟨cs, mix, (upd_ne n1.symm).trans h1, (upd_ne n2.symm).trans h2, r⟩
/-- a list that is made by and by: hidden from the base -/
structure Ml (d c : Addr) (B H : Hp) (L : Addr) (xs : List V) : Prop where
  at_ : H L = some (.lst xs)
  no : B L = none
  nd : L ≠ d
  nc : L ≠ c
theorem Ml.ext {d c L : Addr} {B H B' H' : Hp} {xs : List V} (m : Ml d c B H L xs) (e : ExtD d c B H B' H') : Ml d c B' H' L xs :=
  ⟨e.keep m.at_ m.nd m.nc, e.nw L (by rw [m.at_]; exact fun z => nomatch z) m.no, m.nd, m.nc⟩
theorem Ml.new {d c L : Addr} {B H : Hp} {xs : List V} (D : Dl B H d c) (h : H L = none) : Ml d c B (upd H L (.lst xs)) L xs ∧ ExtD d c B H B (upd H L (.lst xs)) :=
  ⟨⟨upd_same, D.bh.free h, (D.deal.free h).1, (D.deal.free h).2⟩, .of D (.own D.bh h)⟩
theorem Ml.set {d c L : Addr} {B H : Hp} {xs ys : List V} (D : Dl B H d c) (m : Ml d c B H L xs) : Ml d c B (upd H L (.lst ys)) L ys ∧ Dl B (upd H L (.lst ys)) d c :=
  ⟨⟨upd_same, m.no, m.nd, m.nc⟩, deal_upd0 D.deal m.nd m.nc, fun b o h => by
    have z : b ≠ L := fun z => by rw [z, m.no] at h; cases h
    obtain ⟨h1, h2, h3⟩ := off_some (D.sub b o h)
    rw [off_at h2 h3, upd_ne z]
    exact h1⟩
section
variable {K : PySem.W.Frag} {σ : L2.St} {B H : Hp} {ta tb te tl : TE} {tt tu : TT} {R S T U : Rel} {Rs : List Rel} {D : Ends} {t u rest : TS} {i j : Nat} {d c : Addr} {Q : VK} {E : XK}
theorem d_ev (L : Dl B H d c) (h : De te σ B R) (k : ∀ v B' H', ExtD d c B H B' H' → R B' v → Q v H') : te σ H Q := h B H (Same.refl _) L.bh Q fun v B' H' e hv => k v B' H' (.of L e) hv
theorem s_raw (h : te σ H fun v H' => rest D (σ.set i (some v)) H') : tSeq (tAsg te (gName i)) rest D σ H := h
theorem s_rawE (h : te σ H fun v H' => D.nx (σ.set i (some v)) H') : tAsg te (gName i) D σ H := h
theorem s_retR (h : te σ H D.rt) : tRet te D σ H := h
theorem s_ifR (h : tt σ H fun b H1 => if b = true then t D σ H1 else u D σ H1) : tIfS tt t u D σ H := h
theorem s_ifSR (h : tt σ H fun b H1 => if b = true then t { D with nx := rest D } σ H1 else u { D with nx := rest D } σ H1) : tSeq (tIfS tt t u) rest D σ H := h
theorem r_op {r : R2} (h : ta σ H fun x H1 => tb σ H1 fun y H2 => r x y H2 Q) : tOp r ta tb σ H Q := h
theorem s_parR (h : ta σ H fun x H1 => tb σ H1 fun y H2 => rest D ((σ.set i (some x)).set j (some y)) H2) : tSeq (tPar i j (tCons ta (tCons tb tNil))) rest D σ H := by
  show ta σ H fun x H1 => tb σ H1 fun y H2 => ∃ v w, [x, y] = [v, w] ∧ rest D ((σ.set i (some v)).set j (some w)) H2
  have e : (fun x H1 => tb σ H1 fun y H2 => ∃ v w, [x, y] = [v, w] ∧ rest D ((σ.set i (some v)).set j (some w)) H2) = fun x H1 => tb σ H1 fun y H2 => rest D ((σ.set i (some x)).set j (some y)) H2 := by
    funext x H1
    congr 1
    funext y H2
    apply propext
    constructor
    · rintro ⟨v, w, h, q⟩
      cases h
      exact q
    · exact fun q => ⟨_, _, rfl, q⟩
  rw [e]
  exact h
theorem c_any {n : Int} (L : Dl B H d c) (hd : σ[i]? = some (some (.ref d))) (hn : De te σ B (dat K (.int n))) (n0 : 0 < n) (n1 : n < 2 ^ 300) (k : ∀ r B' H', 0 ≤ r → r < n → ExtD d c B H B' H' → Q (.int r) H') :
    tCall spAny [] E (tCons (tVar i) (tCons te tNil)) σ H Q :=
  ⟨.ref d, hd, d_ev L hn fun v B' H' e hv => ⟨d, c, n, by rw [dat_int hv]; rfl, e.deal, n0, n1, fun r H2 r0 r1 D2 S2 => k r B' H2 r0 r1 (.trans L e (.draw e.dl D2 S2))⟩⟩
theorem c_ofL {ds : List PyData} (L : Dl B H d c) (hd : σ[i]? = some (some (.ref d))) (hn : De te σ B (dat K (.list ds))) (ne : ds ≠ []) (few : ds.length ≤ 1000) (k : ∀ x v B' H', x ∈ ds → ExtD d c B H B' H' → dat K x B' v → Q v H') :
    tCall (spOf K) [] E (tCons (tVar i) (tCons te tNil)) σ H Q :=
  ⟨.ref d, hd, d_ev L hn fun v B' H' e hv => by
    obtain ⟨p, xs, rfl, hs, hR⟩ := dat_lstR hv
    have len := allR_len hR
    rw [List.length_map] at len
    refine ⟨d, c, .ref p, rfl, e.deal, .inl ⟨p, xs, rfl, e.sub.seq hs, fun z => ne (List.eq_nil_of_length_eq_zero (by rw [← len, z]; rfl)), by omega, fun v H2 hv D2 S2 => ?_⟩⟩
    obtain ⟨m, hm, hme⟩ := List.mem_iff_getElem.mp hv
    obtain ⟨R, hR1, hR2⟩ := allR_at hR (List.getElem?_eq_getElem hm)
    rw [List.getElem?_map] at hR1
    obtain ⟨x, hx, rfl⟩ := Option.map_eq_some_iff.mp hR1
    rw [hme] at hR2
    exact k x v B' H2 (List.mem_of_getElem? hx) (.trans L e (.draw e.dl D2 S2)) hR2⟩
theorem c_ofT {ds : List PyData} (L : Dl B H d c) (hd : σ[i]? = some (some (.ref d))) (hn : De te σ B (dat K (.tuple ds))) (ne : ds ≠ []) (few : ds.length ≤ 1000) (k : ∀ x v B' H', x ∈ ds → ExtD d c B H B' H' → dat K x B' v → Q v H') :
    tCall (spOf K) [] E (tCons (tVar i) (tCons te tNil)) σ H Q :=
  ⟨.ref d, hd, d_ev L hn fun v B' H' e hv => by
    obtain ⟨p, xs, rfl, hs, hR⟩ := dat_tupR hv
    have len := allR_len hR
    rw [List.length_map] at len
    refine ⟨d, c, .ref p, rfl, e.deal, .inr (.inl ⟨p, xs, rfl, seqT e.sub hs, fun z => ne (List.eq_nil_of_length_eq_zero (by rw [← len, z]; rfl)), by omega, fun v H2 hv D2 S2 => ?_⟩)⟩
    obtain ⟨m, hm, hme⟩ := List.mem_iff_getElem.mp hv
    obtain ⟨R, hR1, hR2⟩ := allR_at hR (List.getElem?_eq_getElem hm)
    rw [List.getElem?_map] at hR1
    obtain ⟨x, hx, rfl⟩ := Option.map_eq_some_iff.mp hR1
    rw [hme] at hR2
    exact k x v B' H2 (List.mem_of_getElem? hx) (.trans L e (.draw e.dl D2 S2)) hR2⟩
theorem c_ofS {z : Str} (L : Dl B H d c) (hd : σ[i]? = some (some (.ref d))) (hn : De te σ B (dat K (.str z))) (ne : 0 < z.length) (few : z.length ≤ 1000) (k : ∀ a B' H', a ∈ z.cps.toList → ExtD d c B H B' H' → Q (.str ⟨#[a]⟩) H') :
    tCall (spOf K) [] E (tCons (tVar i) (tCons te tNil)) σ H Q :=
  ⟨.ref d, hd, d_ev L hn fun v B' H' e hv => ⟨d, c, v, rfl, e.deal, .inr (.inr ⟨z, dat_str hv, ne, few, fun a H2 ha D2 S2 => k a B' H2 ha (.trans L e (.draw e.dl D2 S2))⟩)⟩⟩
theorem t_any0 {n : Int} {Q : Bool → Hp → Prop} (L : Dl B H d c) (hd : σ[i]? = some (some (.ref d))) (hn : De te σ B (dat K (.int n))) (n0 : 0 < n) (n1 : n < 2 ^ 300) (k : ∀ b B' H', ExtD d c B H B' H' → Q b H') :
    tTest (tOp rEq (tCall spAny [] E (tCons (tVar i) (tCons te tNil))) (tC (.int 0))) σ H Q :=
  c_any L hd hn n0 n1 fun r B' H' _ _ e => ⟨rfl, _, rfl, k _ B' H' e⟩
/-- what a def is worth that draws -/
def DPf {α : Type} (args : α → List Rel) (pre : α → Prop) (res : α → Rel) : Sp := fun vs H Q _ => ∃ (d c : Addr) (B : Hp) (a : α) (us : List V), vs = .ref d :: us ∧ Dl B H d c ∧ AllR (args a) B us ∧ pre a ∧ ∀ v B' H', ExtD d c B H B' H' → res a B' v → Q v H'
theorem c_def {α : Type} {args : α → List Rel} {pre : α → Prop} {res : α → Rel} {tr : TA} (a : α) (L : Dl B H d c) (hd : σ[i]? = some (some (.ref d))) (ha : Da tr σ B (args a)) (hp : pre a) (k : ∀ v B' H', ExtD d c B H B' H' → res a B' v → Q v H') :
    tCall (DPf args pre res) [] E (tCons (tVar i) tr) σ H Q :=
  ⟨.ref d, hd, ha B H (Same.refl _) L.bh _ fun vs B1 H1 e hv => ⟨d, c, B1, a, vs, by rw [List.append_nil], (ExtD.of L e).dl, hv, hp, fun v B' H' e' hr => k v B' H' (.trans L (.of L e) e') hr⟩⟩
theorem De.slS {z : Str} {tl th : TO} {lo hi : Option Int} (h : De te σ B (dat K (.str z))) (h1 : Do tl σ B lo) (h2 : Do th σ B hi) (hz : z.length ≤ sizeLine) : De (L2.tSl rSlS te tl th) σ B (dat K (.str (cutS z lo hi))) :=
  .sl h h1 h2 fun x B1 H s1 s2 hx Q q => ⟨z, dat_str hx, hz, q _ B1 H (.refl s2) (.str _)⟩
end
theorem dpf_len {α : Type} {args : α → List Rel} {pre : α → Prop} {res : α → Rel} {vs : List V} {H : Hp} {Q : VK} {E : XK} (h : DPf args pre res vs H Q E) {m : Nat} (n : ∀ a, (args a).length + 1 = m) : vs.length = m := by
  obtain ⟨d, c, B, a, us, rfl, _, h, _⟩ := h
  rw [List.length_cons, allR_len h, n]
theorem cutS_mem {z : Str} {lo hi : Option Int} {a : Nat} (h : a ∈ (cutS z lo hi).cps.toList) : a ∈ z.cps.toList := by
  unfold cutS at h
  simp only [List.toList_toArray] at h
  exact List.mem_of_mem_drop (List.mem_of_mem_take h)
end Wv

set_option Elab.async false
set_option linter.all false
set_option maxRecDepth 100000
set_option maxHeartbeats 4000000
/-! Wv6: lists that are made while a deal goes on. -/
namespace Wv
open PySem PySem.Spec PyProof.Rows L2 Wb
section
variable {α : Type} {R R1 R2 : α → Rel} {pre : α → Prop} {res : α → Rel} {vs : List V} {H : Hp} {Q : VK} {E : XK}
theorem dpf0 (h : DPf (fun _ => []) pre res vs H Q E) : ∃ d c B a, vs = [.ref d] ∧ Dl B H d c ∧ pre a ∧ ∀ v B' H', ExtD d c B H B' H' → res a B' v → Q v H' := by
  obtain ⟨d, c, B, a, us, rfl, L, h, p, k⟩ := h
  have h : us = [] := h
  subst h
  exact ⟨d, c, B, a, rfl, L, p, k⟩
theorem dpf1 (h : DPf (fun a => [R a]) pre res vs H Q E) : ∃ d v c B a, vs = [.ref d, v] ∧ Dl B H d c ∧ R a B v ∧ pre a ∧ ∀ v B' H', ExtD d c B H B' H' → res a B' v → Q v H' := by
  obtain ⟨d, c, B, a, us, rfl, L, ⟨v, r, rfl, h1, h⟩, p, k⟩ := h
  have h : r = [] := h
  subst h
  exact ⟨d, v, c, B, a, rfl, L, h1, p, k⟩
theorem dpf2 (h : DPf (fun a => [R a, R1 a]) pre res vs H Q E) : ∃ d v v1 c B a, vs = [.ref d, v, v1] ∧ Dl B H d c ∧ R a B v ∧ R1 a B v1 ∧ pre a ∧ ∀ v B' H', ExtD d c B H B' H' → res a B' v → Q v H' := by
  obtain ⟨d, c, B, a, us, rfl, L, ⟨v, r, rfl, h1, v1, r1, rfl, h2, h⟩, p, k⟩ := h
  have h : r1 = [] := h
  subst h
  exact ⟨d, v, v1, c, B, a, rfl, L, h1, h2, p, k⟩
end
theorem Di.itr {K : PySem.W.Frag} {σ : L2.St} {B : Hp} {lo : Int} {n : Nat} : Di (fun _ H R => R (Itr lo n) H) σ B ((List.range n).map fun i : Nat => dat K (.int (lo + (i : Int)))) := fun B1 H _ s2 Q q => q (Itr lo n) B1 H (.refl s2) wk_ints
theorem ExtD.setL {d c L : Addr} {B H B' H' : Hp} {xs ys : List V} (e : ExtD d c B H B' H') (m : Ml d c B' H' L xs) (h : H L = none) : ExtD d c B H B' (upd H' L (.lst ys)) :=
  ⟨deal_upd0 e.deal m.nd m.nc, fun b o z => by
    obtain ⟨h1, h2, h3⟩ := off_some z
    have n : b ≠ L := fun q => by rw [q, h] at h1; cases h1
    rw [off_at h2 h3, upd_ne n]
    exact (off_some (e.oo b o z)).1, e.bb, (Ml.set e.dl m).2.sub, e.nw⟩
/-- such a list comes into the base -/
theorem ExtD.settle {d c L : Addr} {B H B' H' : Hp} {xs : List V} (e : ExtD d c B H B' H') (m : Ml d c B' H' L xs) (h : H L = none) : ExtD d c B H (upd B' L (.lst xs)) H' :=
  ⟨e.deal, e.oo, e.bb.trans (new_same m.no), fun b o z => by
    by_cases n : b = L
    · subst n
      rw [upd_same] at z
      cases z
      exact (off_at m.nd m.nc).trans m.at_
    · rw [upd_ne n] at z
      exact e.sub b o z, fun b h1 h2 => by
    have n : b ≠ L := fun q => h1 (by rw [q]; exact h)
    rw [upd_ne n]
    exact e.nw b h1 h2⟩
theorem Ml.dat {K : PySem.W.Frag} {d c L : Addr} {B H : Hp} {xs : List V} {out : List PyData} (m : Ml d c B H L xs) (h : AllR (out.map (dat K)) B xs) : Wv.dat K (.list out) (upd B L (.lst xs)) (.ref L) :=
  lstR_dat ⟨L, xs, rfl, SqL.of upd_same, MoA.mo (new_same m.no) h⟩
section
variable {K : PySem.W.Frag} {σ : L2.St} {B H : Hp} {te : TE} {tt : TT} {d c : Addr} {Q : VK}
theorem c_lcD {α : Type} {as : List α} {r : α → Rel} {wi : TI} {g : TG} {vs : List Nat} (L : Dl B H d c) (hi : Di wi σ B (as.map r)) (few : as.length < sizeLine) (Pv : Nat → List PyData → Prop) (h0 : Pv 0 [])
    (hs : ∀ i a v B1 H1 out, as[i]? = some a → Dl B1 H1 d c → Same B B1 → r a B1 v → Pv i out → ∀ (Y : V → Hp → Prop) (N : Hp → Prop), (∀ y B4 H4 x, ExtD d c B1 H1 B4 H4 → dat K x B4 y → Pv (i + 1) (out ++ [x]) → Y y H4) →
      (∀ B4 H4, ExtD d c B1 H1 B4 H4 → Pv (i + 1) out → N H4) → g v (wipe σ vs) H1 fun σ2 H2 => wipe σ2 vs = wipe σ vs ∧ tt σ2 H2 fun b H3 => if b = true then te σ2 H3 Y else N H3)
    (hd : ∀ out v B' H', ExtD d c B H B' H' → Pv as.length out → dat K (.list out) B' v → Q v H') : tLc wi g tt te vs σ H Q := hi B H (Same.refl _) L.bh _ fun J B2 H2 e hw => fun D hD => by
  have eD := ExtD.of L e
  have hw' : Walk J as.length (fun H => Same B2 H) (fun i H x H' => ∃ R, (as.map r)[i]? = some R ∧ ∀ Bc, Same B2 Bc → Same Bc H → ∃ Bn, Ext Bc H Bn H' ∧ R Bn x) := by
    have := hw
    unfold Wk at this
    rw [List.length_map] at this
    exact this
  refine lc_it hw' (fun i H' => ∃ B' xs out, ExtD d c B2 H2 B' H' ∧ Ml d c B' H' D xs ∧ AllR (out.map (dat K)) B' xs ∧ Pv i out ∧ out.length ≤ i) ?_ (fun i H' _ ⟨B', xs, out, e', _⟩ => e'.bb.trans e'.bh) ?_ ?_
  · exact ⟨B2, [], [], (Ml.new eD.dl hD).2, (Ml.new eD.dl hD).1, rfl, h0, Nat.le_refl _⟩
  · rintro i x H' H'' hi' ⟨Bc, xs, out, e', m, hxs, pv, lo⟩ ⟨R, hR, y⟩
    obtain ⟨Bn, e2, hx⟩ := y Bc e'.bb e'.bh
    rw [List.getElem?_map] at hR
    obtain ⟨a, ha, rfl⟩ := Option.map_eq_some_iff.mp hR
    have e2 := ExtD.of e'.dl e2
    have e12 := e'.trans eD.dl e2
    have len := allR_len hxs
    rw [List.length_map] at len
    refine hs i a x Bn H'' out ha e2.dl ((eD.bb.trans e'.bb).trans e2.bb) hx pv _ _ (fun y B4 H4 z e4 hz pz => ?_) fun B4 H4 e4 pz => ?_
    · have e14 := e12.trans eD.dl e4
      have m4 := (m.ext e2).ext e4
      refine ⟨xs, m4.at_, by omega, B4, xs ++ [y], out ++ [z], e14.setL m4 hD, (Ml.set e4.dl m4).1, ?_, pz, by simp; omega⟩
      rw [List.map_append]
      exact allR_snoc (MoA.mo (e2.bb.trans e4.bb) hxs) hz
    · exact ⟨B4, xs, out, e12.trans eD.dl e4, (m.ext e2).ext e4, MoA.mo (e2.bb.trans e4.bb) hxs, pz, by omega⟩
  · rintro H' ⟨B', xs, out, e', m, hxs, pv, lo⟩
    have hBD : H D = none := by
      cases h : H D with
      | none => rfl
      | some o =>
        rw [e.hh D o h] at hD
        cases hD
    exact hd out (.ref D) _ H' ((eD.trans L e').settle m hBD) pv (m.dat hxs)
/-- as often as a drawn number tells -/
theorem c_lcAny {n k : Int} {i : Nat} {g : TG} {vs : List Nat} {E : XK} {te0 : TE} (L : Dl B H d c) (hd : σ[i]? = some (some (.ref d))) (hn : De te0 σ B (dat K (.int n))) (n0 : 0 < n) (n1 : n < 2 ^ 60) (k0 : 0 ≤ k) (k1 : k < 2 ^ 60)
    (go : ∀ r B' H', 0 ≤ r → r < n → ExtD d c B H B' H' → tLc (fun _ H R => R (Itr 0 (k + r).toNat) H) g tt te vs σ H' Q) :
    tLc (iRng1 (tCons (tOp (rI0 fun i j => V.int (i + j)) (tC (.int k)) (tCall spAny [] E (tCons (tVar i) (tCons te0 tNil)))) tNil)) g tt te vs σ H Q :=
  c_any L hd hn n0 (by omega) fun r B' H' r0 r1 e => ⟨k, r, rfl, rfl, k + r, rfl, by omega, by omega, go r B' H' r0 r1 e⟩
/-- what is wanted behind a turn -/
def Nd (d c : Addr) (B0 H0 B1 : Hp) (P : L2.St → Hp → Hp → Prop) : L2.St → Hp → Prop := fun σ H' => ∃ B', ExtD d c B0 H0 B' H' ∧ Same B1 B' ∧ P σ B' H'
theorem s_forD {wi : TI} {g : TG} {ts rest : TS} {D : Ends} {Rs : List Rel} {B0 H0 : Hp} (L0 : Dl B0 H0 d c) (e0 : ExtD d c B0 H0 B H) (hi : Di wi σ B Rs) (Pv : Nat → L2.St → Hp → Hp → Prop) (h0 : ∀ B1 H1, ExtD d c B H B1 H1 → Pv 0 σ B1 H1)
    (hs : ∀ B1 i R v σ' Bc Hc Bn Hn, Same B B1 → Rs[i]? = some R → ExtD d c B0 H0 Bc Hc → Same B1 Bc → Pv i σ' Bc Hc → ExtD d c Bc Hc Bn Hn → R Bn v → g v σ' Hn fun σ2 H2 => ts { D with nx := Nd d c B0 H0 B1 (Pv (i + 1)), ct := Nd d c B0 H0 B1 (Pv (i + 1)), bk := rest D } σ2 H2)
    (hd : ∀ σ' B' H', ExtD d c B0 H0 B' H' → Same B B' → Pv Rs.length σ' B' H' → rest D σ' H') : tSeq (tFor wi g ts) rest D σ H :=
  hi B H (Same.refl _) e0.bh _ fun J B1 H1 e hw => by
    have eD := ExtD.of e0.dl e
    have := for_it hw (D := { D with nx := rest D }) (g := g) (tb := ts) (fun i => Nd d c B0 H0 B1 (Pv i)) ⟨B1, e0.trans L0 eD, Same.refl _, h0 B1 H1 eD⟩ (fun i σ' H' _ ⟨B', s1, s2, _⟩ => s2.trans s1.bh)
      (fun i x σ' H' H'' hi ⟨Bc, s1, s2, p⟩ ⟨R, hR, y⟩ => by
        obtain ⟨Bn, e2, hx⟩ := y Bc s2 s1.bh
        exact hs B1 i R x σ' Bc H' Bn H'' eD.bb hR s1 s2 p (.of s1.dl e2) hx)
      (fun σ' H' ⟨B', s1, s2, p⟩ => hd σ' B' H' s1 (eD.bb.trans s2) p)
    exact this
theorem s_forL {g : TG} {ts rest : TS} {D : Ends} (h : te σ H fun x H1 => ∃ a, x = .ref a ∧ (∃ xs, SqL K H1 a xs) ∧ tSeq (tFor (fun _ H R => R (Itl K a) H) g ts) rest D σ H1) : tSeq (tFor (iList K te) g ts) rest D σ H := h
theorem Di.itl {a : Addr} {ds : List PyData} (h : dat K (.list ds) B (.ref a)) : Di (fun _ H R => R (Itl K a) H) σ B (ds.map (dat K)) := fun B1 H s1 s2 Q q => by
  obtain ⟨v, hv, a', ha, _, r⟩ := Di.listD (K := K) (De.var (i := 0) (σ := [some (.ref a)]) h rfl) B1 H s1 s2 Q q
  cases hv
  cases ha
  exact r
/-- a hidden list, looked at: the base with it -/
theorem Ml.look {L : Addr} {xs : List V} (D : Dl B H d c) (m : Ml d c B H L xs) : Same B (upd B L (.lst xs)) ∧ Same (upd B L (.lst xs)) H := ⟨new_same m.no, fun b o h => by
  by_cases n : b = L
  · subst n
    rw [upd_same] at h
    cases h
    exact m.at_
  · rw [upd_ne n] at h
    exact D.bh b o h⟩
theorem Ml.looked {L : Addr} {xs : List V} {B2 H2 : Hp} (D : Dl B H d c) (e : Ext (upd B L (.lst xs)) H B2 H2) : ExtD d c B H B H2 := .of D ⟨e.hh, Same.refl _, D.bh.trans e.hh, fun _ _ h => h⟩
end
theorem nodup_len {α : Type} [BEq α] [LawfulBEq α] : ∀ {l m : List α}, l.Nodup → (∀ x ∈ l, x ∈ m) → l.length ≤ m.length
  | [], _, _, _ => Nat.zero_le _
  | x :: l, m, h, s => by
    obtain ⟨h1, h2⟩ := List.nodup_cons.mp h
    have hx := s x List.mem_cons_self
    have := nodup_len (l := l) (m := m.erase x) h2 fun y hy => (List.mem_erase_of_ne (fun e => h1 (by rw [← e]; exact hy))).mpr (s y (List.mem_cons_of_mem _ hy))
    rw [List.length_erase_of_mem hx] at this
    have := List.length_pos_of_mem hx
    rw [List.length_cons]
    omega
end Wv

set_option Elab.async false
set_option linter.all false
set_option maxRecDepth 100000
set_option maxHeartbeats 4000000
/-! Wv7: comparisons of what is the same. -/
namespace Wv
open PySem PySem.Spec PyProof.Rows L2 Wb
theorem eqv_shaped {d : PyData} (h : SeqAt.shaped d = true) : PyData.eqv d d = true := by
  unfold SeqAt.shaped at h
  rw [Bool.and_eq_true] at h
  exact SeqAt.eqv_refl d h.1
section
variable {K : PySem.W.Frag} {σ : L2.St} {B H : Hp} {ta tb te tk : TE} {tt tu : TT} {R S T : Rel} {d e : PyData}
theorem De.reprs (ha : De ta σ B (dat K d)) (hb : De tb σ B (dat K d)) (hs : Shw d) : De (tOp rEq (tCB (rShow K) (tCons ta tNil)) (tCB (rShow K) (tCons tb tNil))) σ B (dat K (.bool true)) := De.eq (.op (.show ha hs) (.show hb hs) Rv.eqS) (by simp)
theorem De.same (ha : De ta σ B (dat K d)) (hb : De tb σ B (dat K d)) (hs : SeqAt.shaped d = true) : De (tOp (rEqD K) ta tb) σ B (dat K (.bool true)) := De.eq (.op ha hb (Rv.eqD hs hs)) (by rw [eqv_shaped hs])
theorem Dt.reprs (ha : De ta σ B (dat K d)) (hb : De tb σ B (dat K d)) (hs : Shw d) : Dt (tTest (tOp rNe (tCB (rShow K) (tCons ta tNil)) (tCB (rShow K) (tCons tb tNil)))) σ B false := Dt.eq (.test (K := K) (.op (.show ha hs) (.show hb hs) Rv.neS)) (by simp)
theorem Dt.same (ha : De ta σ B (dat K d)) (hb : De tb σ B (dat K d)) (hs : SeqAt.shaped d = true) : Dt (tTest (tOp (rNeD K) ta tb)) σ B false := Dt.eq (.test (K := K) (.op ha hb (Rv.neD hs hs))) (by rw [eqv_shaped hs]; rfl)
theorem Dt.sameI {i : Int} (ha : De ta σ B (dat K (.int i))) (hb : De tb σ B (dat K (.int i))) : Dt (tTest (tOp rNe ta tb)) σ B false := Dt.eq (.test (K := K) (.op ha hb Rv.neI)) (by simp)
theorem Dt.or2 (h1 : Dt tt σ B false) (h2 : Dt tu σ B false) : Dt (tOr tt tu) σ B false := .or h1 fun _ => h2
theorem De.and2 (h1 : De ta σ B (dat K (.bool true))) (h2 : De tb σ B (dat K (.bool true))) : De (tAndV ta tb) σ B (dat K (.bool true)) := .andV h1 fun _ => h2
end
section
variable {R R1 R2 : Rel} {B : Hp} {vs : List V}
theorem kw1 (h : AllR [R] B vs) : AllR [R] B (kwV [0] vs) := by
  obtain ⟨v, r, rfl, h1, h⟩ := h
  exact ⟨v, [], rfl, h1, rfl⟩
theorem kw2 (h : AllR [R1, R] B vs) : AllR [R, R1] B (kwV [1, 0] vs) := by
  obtain ⟨v, r, rfl, h1, v1, r1, rfl, h2, h⟩ := h
  exact ⟨v1, [v], rfl, h2, v, [], rfl, h1, rfl⟩
theorem kw3 (h : AllR [R2, R1, R] B vs) : AllR [R, R1, R2] B (kwV [2, 1, 0] vs) := by
  obtain ⟨v, r, rfl, h1, v1, r1, rfl, h2, v2, r2, rfl, h3, h⟩ := h
  exact ⟨v2, _, rfl, h3, v1, _, rfl, h2, v, [], rfl, h1, rfl⟩
end
end Wv

set_option Elab.async false
set_option linter.all false
set_option maxRecDepth 100000
set_option maxHeartbeats 4000000
/-! Wv8: what type data is of. -/
namespace Wv
open PySem PySem.Spec PyProof.Rows L2 Wb
def tyN : PyData → String
  | .none => "NoneType"
  | .bool _ => "bool"
  | .int _ => "int"
  | .str _ => "str"
  | .list _ => "list"
  | .tuple _ => "tuple"
  | .dict _ => "dict"
theorem ty_dat {K : PySem.W.Frag} {H : Hp} {v : V} {d : PyData} (h : Dp K H v d) : TyX K H v (.type (tyN d)) := by
  cases h with
  | non => exact .base .non
  | bl b => exact .base (.bl b)
  | int i => exact .base (.int i)
  | str z => exact .base (.str z)
  | lst hs _ =>
    rcases hs with (h | ⟨o, h⟩) | ⟨o, its, n, h, c, _⟩
    · exact .base (.lst h)
    · exact .base (.frz h)
    · exact .kList h c
  | tup hs _ =>
    rcases hs with (h | ⟨o, h⟩) | ⟨o, its, n, h, c, _⟩
    · exact .base (.tup h)
    · exact .fTuple h
    · exact .kTuple h c
/-- which built-in class it is of -/
def isD (X : String) (d : PyData) : Bool := tyN d == X || (tyN d == "bool" && X == "int")
theorem kit_data {K : PySem.W.Frag} : ∀ X ∈ ["int", "bool", "str", "tuple", "list"], ∀ t ∈ ["NoneType", "bool", "int", "str", "list", "tuple", "dict"], PySem.W.kitOne K (.type t) (.type X) = some (t == X || (t == "bool" && X == "int")) := by
  intro X hX t ht
  simp only [List.mem_cons, List.not_mem_nil, or_false] at hX ht
  rcases hX with rfl | rfl | rfl | rfl | rfl <;> rcases ht with rfl | rfl | rfl | rfl | rfl | rfl | rfl <;> rfl
theorem tyN_mem (d : PyData) : tyN d ∈ ["NoneType", "bool", "int", "str", "list", "tuple", "dict"] := by cases d <;> simp [tyN]
section
variable {K : PySem.W.Frag} {σ : L2.St} {B : Hp} {ta : TE} {d : PyData}
theorem De.isi {X : String} (h : De ta σ B (dat K d)) (hX : X ∈ ["int", "bool", "str", "tuple", "list"]) : De (tCB (rIsi K) (tCons ta (tCons (tC (.ty X)) tNil))) σ B (dat K (.bool (isD X d))) := fun B1 H s1 s2 Q q =>
  h B1 H s1 s2 _ fun v B2 H2 e hv => ⟨v, .ty X, _, _, _, rfl, .ty X, ty_dat (dpMono e.bh _ _ hv), kit_data X hX _ (tyN_mem d), q _ B2 H2 e (Dp.bl _)⟩
/-- a <= b <= c, of numbers -/
theorem De.chain {r r' : R2} {ta tb tc : TE} {R S T : Rel} {b1 b2 : Bool} [m1 : Mo R] [m2 : Mo S] (ha : De ta σ B R) (hb : De tb σ B S) (hr : Rv r B R S (dat K (.bool b1))) (hc : b1 = true → De tc σ B T) (hr' : b1 = true → Rv r' B S T (dat K (.bool b2))) : De (tChain r r' ta tb tc) σ B (dat K (.bool (b1 && b2))) := fun B1 H s1 s2 Q q =>
  ha B1 H s1 s2 _ fun x B2 H2 e hx => hb B2 H2 (s1.trans e.bb) e.bh _ fun y B3 H3 e2 hy => hr x y B3 H3 ((s1.trans e.bb).trans e2.bb) e2.bh (m1.mo e2.bb hx) hy _ fun z B4 H4 e3 hz => ⟨b1, dat_bl hz, by
    have e4 := (e.trans e2).trans e3
    cases b1 with
    | false => exact q _ B4 H4 e4 (Dp.bl _)
    | true => exact hc rfl B4 H4 (s1.trans e4.bb) e4.bh _ fun w B5 H5 e5 hw => hr' rfl y w B5 H5 ((s1.trans e4.bb).trans e5.bb) e5.bh (m2.mo (e3.bb.trans e5.bb) hy) hw Q fun v B6 H6 e6 hv => q v B6 H6 ((e4.trans e5).trans e6) hv⟩
/-- a question to a text -/
theorem De.m0 {f : Str → Bool} {z : Str} (h : De ta σ B (dat K (.str z))) : De (tM0 (fun x xs H Q => ∃ a, x = .str a ∧ xs = [] ∧ True ∧ Q (.bl (f a)) H) ta) σ B (dat K (.bool (f z))) := fun B1 H s1 s2 Q q =>
  h B1 H s1 s2 _ fun v B2 H2 e hv => ⟨⟨z, dat_str hv⟩, z, dat_str hv, rfl, trivial, q _ B2 H2 e (Dp.bl _)⟩
theorem De.lenS {z : Str} (h : De ta σ B (dat K (.str z))) (hz : z.length ≤ sizeLine) : De (tCB (fun xs H Q => ∃ x n, xs = [x] ∧ LenV K x H n ∧ Q (.int n) H) (tCons ta tNil)) σ B (dat K (.int (z.length : Int))) := .cb (.one h) (rc_lenS hz)
end
end Wv

set_option Elab.async false
set_option linter.all false
set_option maxRecDepth 100000
set_option maxHeartbeats 4000000
/-! Wx0: what is evaluated while a deal is drawn from, told like De. -/
namespace Wv
open PySem PySem.Spec PyProof.Rows L2 Wb
def Dw (te : TE) (σ : L2.St) (d c : Addr) (B : Hp) (R : Rel) : Prop := ∀ B1 H, Same B B1 → Dl B1 H d c → ∀ Q : VK, (∀ v B' H', ExtD d c B1 H B' H' → R B' v → Q v H') → te σ H Q
def Dwa (ta : TA) (σ : L2.St) (d c : Addr) (B : Hp) (Rs : List Rel) : Prop := ∀ B1 H, Same B B1 → Dl B1 H d c → ∀ Q : List V → Hp → Prop, (∀ vs B' H', ExtD d c B1 H B' H' → AllR Rs B' vs → Q vs H') → ta σ H Q
/-- so many values of one kind -/
def Dwn (ta : TA) (σ : L2.St) (d c : Addr) (B : Hp) (S : Rel) (n : Nat) : Prop := ∀ B1 H, Same B B1 → Dl B1 H d c → ∀ Q : List V → Hp → Prop, (∀ vs B' H', ExtD d c B1 H B' H' → vs.length = n → (∀ v ∈ vs, S B' v) → Q vs H') → ta σ H Q
/-- a test whose outcome is open -/
def Dtw (tt : TT) (σ : L2.St) (d c : Addr) (B : Hp) : Prop := ∀ B1 H, Same B B1 → Dl B1 H d c → ∀ Q : Bool → Hp → Prop, (∀ b B' H', ExtD d c B1 H B' H' → Q b H') → tt σ H Q
def intP (P : Int → Prop) : Rel := fun _ v => ∃ i, P i ∧ v = .int i
instance {P : Int → Prop} : Mo (intP P) := ⟨fun _ h => h⟩
def datP (K : PySem.W.Frag) (P : PyData → Prop) : Rel := fun B v => ∃ d, P d ∧ dat K d B v
instance {K : PySem.W.Frag} {P : PyData → Prop} : Mo (datP K P) := ⟨fun s ⟨d, h, g⟩ => ⟨d, h, dpMono s _ _ g⟩⟩
def lstS (K : PySem.W.Frag) (S : Rel) (n : Nat) : Rel := fun B v => ∃ a xs, v = .ref a ∧ SqL K B a xs ∧ xs.length = n ∧ ∀ x ∈ xs, S B x
instance {K : PySem.W.Frag} {S : Rel} {n : Nat} [m : Mo S] : Mo (lstS K S n) := ⟨fun s ⟨a, xs, e, h, l, g⟩ => ⟨a, xs, e, s.seq h, l, fun x hx => m.mo s (g x hx)⟩⟩
theorem dpAll_app {K : PySem.W.Frag} {B : Hp} : ∀ {vs ws : List V} {ds es : List PyData}, DpAll K B vs ds → DpAll K B ws es → DpAll K B (vs ++ ws) (ds ++ es)
  | _, _, _, _, .nil, h => h
  | _, _, _, _, .cons h t, g => .cons h (dpAll_app t g)
section
variable {K : PySem.W.Frag} {σ : L2.St} {d c : Addr} {B B' H : Hp} {te ta tb : TE} {tt tu : TT} {R S T : Rel} {Rs : List Rel} {E : XK} {i : Nat}
theorem Dw.of (h : De te σ B R) : Dw te σ d c B R := fun B1 H s L Q k => h B1 H s L.bh Q fun v B' H' e hv => k v B' H' (.of L e) hv
theorem Dw.mono (s : Same B B') (h : Dw te σ d c B R) : Dw te σ d c B' R := fun B1 H s1 L => h B1 H (s.trans s1) L
theorem Dwa.mono {ta : TA} (s : Same B B') (h : Dwa ta σ d c B Rs) : Dwa ta σ d c B' Rs := fun B1 H s1 L => h B1 H (s.trans s1) L
theorem Dw.cv (h : Dw te σ d c B R) (f : ∀ B v, R B v → S B v) : Dw te σ d c B S := fun B1 H s L Q k => h B1 H s L Q fun v B' H' e hv => k v B' H' e (f _ _ hv)
theorem Dwa.nil : Dwa tNil σ d c B [] := fun B1 H _ L Q k => k [] B1 H (.refl L) rfl
theorem Dwa.cons {tr : TA} [m : Mo R] (h : Dw te σ d c B R) (t : Dwa tr σ d c B Rs) : Dwa (tCons te tr) σ d c B (R :: Rs) := fun B1 H s L Q k =>
  h B1 H s L _ fun v B2 H2 e hv => t B2 H2 (s.trans e.bb) e.dl _ fun vs B3 H3 e2 hvs => k _ B3 H3 (e.trans L e2) ⟨v, vs, rfl, m.mo e2.bb hv, hvs⟩
theorem Dwa.of {tr : TA} (h : Da tr σ B Rs) : Dwa tr σ d c B Rs := fun B1 H s L Q k => h B1 H s L.bh Q fun vs B' H' e hv => k vs B' H' (.of L e) hv
theorem Dwa.one (h : Dw te σ d c B R) [m : Mo R] : Dwa (tCons te tNil) σ d c B [R] := .cons h .nil
theorem Dwn.nil : Dwn tNil σ d c B S 0 := fun B1 H _ L Q k => k [] B1 H (.refl L) rfl fun v h => nomatch h
theorem Dwn.cons {tr : TA} {n : Nat} [m : Mo S] (h : Dw te σ d c B S) (t : Dwn tr σ d c B S n) : Dwn (tCons te tr) σ d c B S (n + 1) := fun B1 H s L Q k =>
  h B1 H s L _ fun v B2 H2 e hv => t B2 H2 (s.trans e.bb) e.dl _ fun vs B3 H3 e2 hl hvs => k _ B3 H3 (e.trans L e2) (by simp [hl]) fun x hx => by
    rcases List.mem_cons.mp hx with rfl | hx
    · exact m.mo e2.bb hv
    · exact hvs x hx
theorem Dw.D1 {x : PyData} {P : PyData → Prop} (h : De te σ B (dat K x)) (hp : P x) : Dw te σ d c B (datP K P) := .cv (.of h) fun _ _ hv => ⟨x, hp, hv⟩
theorem Dw.any {n : Int} (hd : σ[i]? = some (some (.ref d))) (hn : De te σ B (dat K (.int n))) (n0 : 0 < n) (n1 : n < 2 ^ 300) : Dw (tCall spAny [] E (tCons (tVar i) (tCons te tNil))) σ d c B (intP fun r => 0 ≤ r ∧ r < n) := fun B1 H s L Q k =>
  c_any L hd (hn.mono s) n0 n1 fun r B' H' r0 r1 e => k _ B' H' e ⟨r, ⟨r0, r1⟩, rfl⟩
/-- some of a list, whatever is drawn for its items -/
theorem Dw.ofS {n : Nat} (hd : σ[i]? = some (some (.ref d))) (h : Dw te σ d c B (lstS K S n)) (n0 : 0 < n) (few : n ≤ 1000) [m : Mo S] : Dw (tCall (spOf K) [] E (tCons (tVar i) (tCons te tNil))) σ d c B S := fun B1 H s L Q k =>
  ⟨.ref d, hd, h B1 H s L _ fun v B2 H2 e hv => by
    obtain ⟨p, xs, rfl, hs, hl, hx⟩ := hv
    refine ⟨d, c, .ref p, rfl, e.deal, .inl ⟨p, xs, rfl, e.sub.seq hs, fun z => by rw [z] at hl; simp at hl; omega, by omega, fun v H3 hv D3 S3 => ?_⟩⟩
    exact k v B2 H3 (.trans L e (.draw e.dl D3 S3)) (hx v hv)⟩
theorem Dw.lstN {tr : TA} {n : Nat} [m : Mo S] (h : Dwn tr σ d c B S n) (hz : n ≤ sizeLine) : Dw (tLst tr) σ d c B (lstS K S n) := fun B1 H s L Q k =>
  h B1 H s L _ fun vs B2 H2 e hl hv => ⟨by omega, fun p hp => k _ (upd B2 p (.lst vs)) _ (e.trans L (.of e.dl (Ext.new e.bh hp))) ⟨p, vs, rfl, SqL.of upd_same, hl, fun x hx => m.mo (new_same (e.bh.free hp)) (hv x hx)⟩⟩
/-- some item of a written list with drawn items -/
theorem Dw.pick {tr : TA} {n : Nat} [m : Mo S] (hd : σ[i]? = some (some (.ref d))) (h : Dwn tr σ d c B S n) (n0 : 0 < n) (few : n ≤ 1000) : Dw (tCall (spOf K) [] E (tCons (tVar i) (tCons (tLst tr) tNil))) σ d c B S :=
  .ofS hd (.lstN h (by rw [sizeLine_eq]; omega)) n0 few
theorem Dw.ofL {ds : List PyData} (hd : σ[i]? = some (some (.ref d))) (h : De te σ B (dat K (.list ds))) (ne : ds ≠ []) (few : ds.length ≤ 1000) : Dw (tCall (spOf K) [] E (tCons (tVar i) (tCons te tNil))) σ d c B (datP K fun x => x ∈ ds) := fun B1 H s L Q k =>
  c_ofL L hd (h.mono s) ne few fun x v B' H' hx e hv => k v B' H' e ⟨x, hx, hv⟩
theorem Dw.ofT {ds : List PyData} (hd : σ[i]? = some (some (.ref d))) (h : De te σ B (dat K (.tuple ds))) (ne : ds ≠ []) (few : ds.length ≤ 1000) : Dw (tCall (spOf K) [] E (tCons (tVar i) (tCons te tNil))) σ d c B (datP K fun x => x ∈ ds) := fun B1 H s L Q k =>
  c_ofT L hd (h.mono s) ne few fun x v B' H' hx e hv => k v B' H' e ⟨x, hx, hv⟩
theorem Dw.tup {tr : TA} [m : MoA Rs] (h : Dwa tr σ d c B Rs) (hz : Rs.length ≤ sizeLine) : Dw (tTup tr) σ d c B (tupR K Rs) := fun B1 H s L Q k =>
  h B1 H s L _ fun vs B2 H2 e hv => ⟨by rw [allR_len hv]; exact hz, fun p hp => k _ (upd B2 p (.tup vs)) _ (e.trans L (.of e.dl (Ext.new e.bh hp))) ⟨p, vs, rfl, SqT.of upd_same, m.mo (new_same (e.bh.free hp)) hv⟩⟩
theorem Dw.op {r : R2} [m : Mo R] (ha : Dw ta σ d c B R) (hb : Dw tb σ d c B S) (hr : ∀ B, Rv r B R S T) : Dw (tOp r ta tb) σ d c B T := fun B1 H s L Q k =>
  ha B1 H s L _ fun x B2 H2 e hx => hb B2 H2 (s.trans e.bb) e.dl _ fun y B3 H3 e2 hy => hr B3 x y B3 H3 (Same.refl _) e2.bh (m.mo e2.bb hx) hy _ fun v B4 H4 e3 hv => k v B4 H4 ((e.trans L e2).trans L (.of e2.dl e3)) hv
theorem Rv.intP {f : Int → Int → Int} {P P' : Int → Prop} : Rv (rI0 fun i j => V.int (f i j)) B (intP P) (intP P') (intP fun k => ∃ i j, P i ∧ P' j ∧ k = f i j) := fun x y B1 H _ s2 ⟨i, hi, hx⟩ ⟨j, hj, hy⟩ Q q =>
  ⟨i, j, hx, hy, q _ B1 H (.refl s2) ⟨_, ⟨i, j, hi, hj, rfl⟩, rfl⟩⟩
theorem Dw.int {n : Int} : Dw (tC (.int n)) σ d c B (intP fun k => k = n) := fun B1 H _ L Q k => k _ B1 H (.refl L) ⟨n, rfl, rfl⟩
theorem Dw.intV {n : Int} (h : σ[i]? = some (some (.int n))) : Dw (tVar i) σ d c B (intP fun k => k = n) := fun B1 H _ L Q k => ⟨_, h, k _ B1 H (.refl L) ⟨n, rfl, rfl⟩⟩
theorem intP_dat {P : Int → Prop} {v : V} (h : intP P B v) : datP K (fun x => ∃ i, P i ∧ x = .int i) B v := by
  obtain ⟨i, hi, rfl⟩ := h
  exact ⟨.int i, ⟨i, hi, rfl⟩, .int i⟩
/-- a def that draws, its arguments drawn too -/
theorem Dw.def {α : Type} {args : α → List Rel} {pre : α → Prop} {res : α → Rel} {tr : TA} (hd : σ[i]? = some (some (.ref d))) (h : Dwa tr σ d c B Rs) (f : ∀ B vs, AllR Rs B vs → ∃ a, AllR (args a) B vs ∧ pre a ∧ ∀ B v, res a B v → S B v) :
    Dw (tCall (DPf args pre res) [] E (tCons (tVar i) tr)) σ d c B S := fun B1 H s L Q k =>
  ⟨.ref d, hd, h B1 H s L _ fun vs B2 H2 e hv => by
    obtain ⟨a, ha, hp, hs⟩ := f B2 vs hv
    exact ⟨d, c, B2, a, vs, by rw [List.append_nil], e.dl, ha, hp, fun v B' H' e' hr => k v B' H' (.trans L e e') (hs _ _ hr)⟩⟩
/-- .. told what it takes -/
theorem Dw.def1 {α : Type} {args : α → List Rel} {pre : α → Prop} {res : α → Rel} {tr : TA} (a : α) (hd : σ[i]? = some (some (.ref d))) (h : Da tr σ B (args a)) (hp : pre a) : Dw (tCall (DPf args pre res) [] E (tCons (tVar i) tr)) σ d c B (res a) :=
  .def hd (.of h) fun _ _ hv => ⟨a, hv, hp, fun _ _ h => h⟩
/-- a def that draws nothing, its arguments drawn -/
theorem Dw.pf {α : Type} {args : α → List Rel} {pre : α → Prop} {res : α → Rel} {tr : TA} (h : Dwa tr σ d c B Rs) (f : ∀ B vs, AllR Rs B vs → ∃ a, AllR (args a) B vs ∧ pre a ∧ ∀ B v, res a B v → S B v) : Dw (tCall (Pf args pre res) [] E tr) σ d c B S := fun B1 H s L Q k =>
  h B1 H s L _ fun vs B2 H2 e hv => by
    obtain ⟨a, ha, hp, hs⟩ := f B2 vs hv
    show Pf args pre res (vs ++ []) H2 Q E
    rw [List.append_nil]
    exact ⟨B2, a, e.bh, ha, hp, fun v B' H' e' hr => k v B' H' (.trans L e (.of e.dl e')) (hs _ _ hr)⟩
theorem Dw.ite (h : Dtw tt σ d c B) (h1 : Dw ta σ d c B S) (h2 : Dw tb σ d c B S) : Dw (tIf tt ta tb) σ d c B S := fun B1 H s L Q k =>
  h B1 H s L _ fun b B2 H2 e => by
    cases b with
    | true => exact h1 B2 H2 (s.trans e.bb) e.dl Q fun v B3 H3 e3 => k v B3 H3 (e.trans L e3)
    | false => exact h2 B2 H2 (s.trans e.bb) e.dl Q fun v B3 H3 e3 => k v B3 H3 (e.trans L e3)
theorem Dtw.of {b : Bool} (h : Dt tt σ B b) : Dtw tt σ d c B := fun B1 H s L Q k => h B1 H s L.bh Q fun B' H' e => k b B' H' (.of L e)
/-- _law_any(deal, n) == m, and the like -/
theorem Dtw.cmp {f : Int → Int → Bool} {P P' : Int → Prop} (ha : Dw ta σ d c B (intP P)) (hb : Dw tb σ d c B (intP P')) : Dtw (tTest (tOp (rI0 fun i j => V.bl (f i j)) ta tb)) σ d c B := fun B1 H s L Q k =>
  ha B1 H s L _ fun x B2 H2 e ⟨i, _, hx⟩ => hb B2 H2 (s.trans e.bb) e.dl _ fun y B3 H3 e2 ⟨j, _, hy⟩ => ⟨i, j, hx, hy, _, rfl, k _ B3 H3 (e.trans L e2)⟩
include K in
theorem Dtw.eq {P P' : Int → Prop} (ha : Dw ta σ d c B (intP P)) (hb : Dw tb σ d c B (intP P')) : Dtw (tTest (tOp rEq ta tb)) σ d c B := fun B1 H s L Q k =>
  ha B1 H s L _ fun x B2 H2 e ⟨i, _, hx⟩ => hb B2 H2 (s.trans e.bb) e.dl _ fun y B3 H3 e2 ⟨j, _, hy⟩ => by
    subst hx
    subst hy
    exact (Rv.eqI (K := K) (i := i) (j := j)) _ _ B3 H3 (Same.refl _) e2.bh (.int i) (.int j) _ fun v B4 H4 e4 hv => ⟨_, dat_bl hv, k _ B4 H4 ((e.trans L e2).trans L (.of e2.dl e4))⟩
/-! ### statements -/
variable {D : Ends} {rest t u : TS}
theorem s_w (L : Dl B H d c) (h : Dw te σ d c B R) (k : ∀ v B' H', ExtD d c B H B' H' → R B' v → rest D (σ.set i (some v)) H') : tSeq (tAsg te (gName i)) rest D σ H := h B H (Same.refl _) L _ k
theorem s_wE (L : Dl B H d c) (h : Dw te σ d c B R) (k : ∀ v B' H', ExtD d c B H B' H' → R B' v → D.nx (σ.set i (some v)) H') : tAsg te (gName i) D σ H := h B H (Same.refl _) L _ k
theorem s_retW (L : Dl B H d c) (h : Dw te σ d c B R) (k : ∀ v B' H', ExtD d c B H B' H' → R B' v → D.rt v H') : tRet te D σ H := h B H (Same.refl _) L _ k
theorem s_ifW (L : Dl B H d c) (h : Dtw tt σ d c B) (k1 : ∀ B' H', ExtD d c B H B' H' → t { D with nx := rest D } σ H') (k2 : ∀ B' H', ExtD d c B H B' H' → u { D with nx := rest D } σ H') : tSeq (tIfS tt t u) rest D σ H := h B H (Same.refl _) L _ fun b B' H' e => by
  cases b with
  | true => exact k1 B' H' e
  | false => exact k2 B' H' e
theorem s_ifWE (L : Dl B H d c) (h : Dtw tt σ d c B) (k1 : ∀ B' H', ExtD d c B H B' H' → t D σ H') (k2 : ∀ B' H', ExtD d c B H B' H' → u D σ H') : tIfS tt t u D σ H := h B H (Same.refl _) L _ fun b B' H' e => by
  cases b with
  | true => exact k1 B' H' e
  | false => exact k2 B' H' e
/-! ### lists that change -/
theorem De.rep {n : Int} {ta : TA} {ds : List PyData} (h : Dd K ta σ B ds) (n0 : 0 ≤ n) (n1 : n ≤ 1000) (few : ds.length ≤ 1000) : De (tOp rRep (tLst ta) (tC (.int n))) σ B (dat K (.list (List.replicate n.toNat ds).flatten)) := fun B1 H s1 s2 Q k =>
  h B1 H s1 s2 _ fun vs B2 H2 e hv => by
    have len := allR_len hv
    rw [List.length_map] at len
    refine ⟨by rw [len, sizeLine_eq]; omega, fun p hp => ⟨p, n, vs, rfl, rfl, upd_same, by omega, by omega, ?_, fun p2 hp2 => ?_⟩⟩
    · rw [len, sizeLine_eq]
      have : ds.length * n.toNat ≤ 1000 * 1000 := Nat.mul_le_mul few (by omega)
      omega
    · have e1 : Ext B2 H2 B2 (upd H2 p (.lst vs)) := .own e.bh hp
      refine k _ (upd B2 p2 (.lst (List.replicate n.toNat vs).flatten)) _ ((e.trans e1).trans (Ext.new e1.bh hp2)) ?_
      have fr : B2 p2 = none := e1.bh.free hp2
      refine .lst (SqL.of upd_same) (dpMonoAll (new_same fr) _ _ ?_)
      have g : DpAll K B2 vs ds := allR_dp hv
      have go : ∀ m : Nat, DpAll K B2 (List.replicate m vs).flatten (List.replicate m ds).flatten := by
        intro m
        induction m with
        | zero => exact .nil
        | succ m ih =>
          rw [List.replicate_succ, List.replicate_succ, List.flatten_cons, List.flatten_cons]
          exact dpAll_app g ih
      exact go _
end
end Wv

set_option Elab.async false
set_option linter.all false
set_option maxRecDepth 100000
set_option maxHeartbeats 4000000
/-! Wx1: list(text), lists that change while a deal goes on. -/
namespace Wv
open PySem PySem.Spec PyProof.Rows L2 Wb
/-- the signs of a text -/
def signs (z : Str) : List Str := z.cps.toList.map fun c => ⟨#[c]⟩
def rLstS : List V → Hp → VK → Prop := fun xs H Q => ∃ z : Str, xs = [.str z] ∧ z.length ≤ sizeLine ∧ ∀ p, H p = none → Q (.ref p) (upd H p (.lst ((signs z).map .str)))
theorem signs_vals {z : Str} : ∀ {us : List Value} (n : Nat), us.length + n = z.cps.size → (∀ (j : Nat) (v : Value), us[j]? = some v → SignAt z (n + j) v) → Vals (((signs z).drop n).map V.str) us := by
  intro us
  induction us with
  | nil =>
    intro n h _
    have : (signs z).drop n = [] := by
      rw [List.drop_eq_nil_iff]
      unfold signs
      simp at *
      omega
    rw [this]
    exact .nil
  | cons u us ih =>
    intro n h g
    have lt : n < (signs z).length := by
      unfold signs
      simp at *
      omega
    rw [List.drop_eq_getElem_cons lt, List.map_cons]
    refine .cons ?_ (ih (n + 1) (by simp at h; omega) fun j v e => ?_)
    · obtain ⟨c, t, hc, hv⟩ := g 0 u rfl
      refine ⟨t, ?_⟩
      have key : (signs z)[n]? = some ⟨#[c]⟩ := by
        unfold signs
        rw [List.getElem?_map, Array.getElem?_toList]
        rw [Nat.add_zero] at hc
        rw [hc]
        rfl
      obtain ⟨_, e⟩ := List.getElem?_eq_some_iff.mp key
      rw [hv, e]
    · have := g (j + 1) v e
      rw [show n + 1 + j = n + (j + 1) by omega]
      exact this
theorem call_list_txt {X : Cx} (hc : X.calm = true) : CallR X (.type "list") rLstS := by
  intro pins s σ H xs us Q I r q
  obtain ⟨z, rfl, hz, q⟩ := q
  obtain ⟨u, rfl, rx⟩ := vals1 r
  obtain ⟨t, rfl⟩ := rx
  refine call_list_str (I.ok.hd hc) z t (fun h' tk acc c' hk hD hacc => ?_) hz
  have hv : Vals ((signs z).map V.str) acc.toList := by
    have := signs_vals (z := z) (us := acc.toList) 0 (by rw [Array.length_toList]; exact hacc.1) fun j v e => by
      rw [Nat.zero_add]
      exact hacc.2 j v (by rw [← Array.getElem?_toList]; exact e)
    rw [List.drop_zero] at this
    exact this
  refine ⟨.ref s.heap.objs.size, upd H s.heap.objs.size (.lst ((signs z).map V.str)), I.laid (t' := tk) hk (Nat.le_refl _)
    (show ObjOk X.prog X.w _ _ _ (.lst ((signs z).map V.str)) from ⟨by unfold signs; simp; exact hz, acc.toList, c', hv, by rw [Array.toArray_toList]; exact hD⟩), rfl, q _ (I.hok.fresh (Nat.le_refl _))⟩
theorem Ml.other {d c M P : Addr} {B H : Hp} {xs : List V} {o : HO} (m : Ml d c B H M xs) (n : M ≠ P) : Ml d c B (upd H P o) M xs := ⟨(upd_ne n).trans m.at_, m.no, m.nd, m.nc⟩
section
variable {K : PySem.W.Frag} {σ : L2.St} {d c M : Addr} {B H : Hp} {te tf : TE} {R S T : Rel} {E : XK} {i j : Nat} {Q : VK}
/-- a number drawn below the length of a list that changes -/
theorem c_anyLen {xs : List V} (L : Dl B H d c) (hd : σ[i]? = some (some (.ref d))) (hm : σ[j]? = some (some (.ref M))) (m : Ml d c B H M xs) (pos : 0 < xs.length) (few : xs.length ≤ 1000) (k : ∀ (r : Nat) H', r < xs.length → ExtD d c B H B H' → Q (.int r) H') :
    tCall spAny [] E (tCons (tVar i) (tCons (tCB (rLen K) (tCons (tVar j) tNil)) tNil)) σ H Q :=
  ⟨.ref d, hd, .ref M, hm, .ref M, xs.length, rfl, .inl ⟨xs, SqL.of m.at_, rfl⟩, d, c, xs.length, rfl, L.deal, by omega, by omega, fun r H2 r0 r1 D2 S2 => by
    obtain ⟨n, rfl⟩ := Int.eq_ofNat_of_zero_le r0
    exact k n H2 (by omega) (.draw L D2 S2)⟩
theorem seqIx {n r : Nat} (h : r < n) : seqIndex? (r : Int) n = some r := by
  have z : ¬ ((r : Int) < 0) := by omega
  have q : (decide (0 ≤ (r : Int)) && decide ((r : Int) < n)) = true := by simp; omega
  simp only [seqIndex?, z, if_false, q, if_true]
  rfl
/-- pool.pop(a number drawn below its length) -/
theorem c_popAny {xs : List V} (L : Dl B H d c) (hd : σ[i]? = some (some (.ref d))) (hm : σ[j]? = some (some (.ref M))) (m : Ml d c B H M xs) (pos : 0 < xs.length) (few : xs.length ≤ 1000)
    (k : ∀ (r : Nat) x H', xs[r]? = some x → ExtD d c B H B H' → Ml d c B H' M xs → Q x (upd H' M (.lst (xs.eraseIdx r)))) :
    tBM K "list" rPopAt (tVar j) (tCons (tCall spAny [] E (tCons (tVar i) (tCons (tCB (rLen K) (tCons (tVar j) tNil)) tNil))) tNil) σ H Q :=
  ⟨.ref M, hm, .inl ⟨rfl, xs, SqL.of m.at_⟩, c_anyLen (K := K) L hd hm m pos few fun r H' hr e => by
    have m' := m.ext e
    exact ⟨M, xs, r, r, xs[r], rfl, rfl, m'.at_, by omega, by omega, seqIx hr, List.getElem?_eq_getElem hr, k r xs[r] H' (List.getElem?_eq_getElem hr) e m'⟩⟩
theorem c_tupL {v : V} {out : List PyData} (L : Dl B H d c) (h : dat K (.list out) B v) (k : ∀ u B' H', ExtD d c B H B' H' → dat K (.tuple out) B' u → Q u H') : rTup K [v] H Q := by
  obtain ⟨a, xs, rfl, hs, hR⟩ := dat_lstR h
  refine ⟨a, xs, rfl, .inl ⟨L.bh.seq hs, fun p hp => ?_⟩⟩
  have e := Ext.new (o := .tup xs) L.bh hp
  exact k _ _ _ (.of L e) (tupR_dat ⟨p, xs, rfl, SqT.of upd_same, MoA.mo e.bb hR⟩)
/-- what a list is, by what its items are -/
def listOf (P : List PyData → Prop) (x : PyData) : Prop := ∃ ds, x = .list ds ∧ P ds
def tupOf (P : List PyData → Prop) (x : PyData) : Prop := ∃ ds, x = .tuple ds ∧ P ds
theorem Dw.tupleL {P : List PyData → Prop} (h : Dw te σ d c B (datP K (listOf P))) : Dw (tCB (rTup K) (tCons te tNil)) σ d c B (datP K (tupOf P)) := fun B1 H s L Q k =>
  h B1 H s L _ fun v B2 H2 e ⟨x, ⟨ds, hx, hp⟩, hv⟩ => by
    subst hx
    exact c_tupL e.dl hv fun u B3 H3 e3 hu => k u B3 H3 (e.trans L e3) ⟨_, ⟨ds, rfl, hp⟩, hu⟩
/-- each item made of one that is walked, and of draws -/
def Each {α : Type} (P : α → PyData → Prop) (as : List α) (ds : List PyData) : Prop := ds.length = as.length ∧ ∀ (i : Nat) (a : α) (x : PyData), as[i]? = some a → ds[i]? = some x → P a x
theorem Each.snoc {α : Type} {P : α → PyData → Prop} {as : List α} {ds : List PyData} {a : α} {x : PyData} {i : Nat} (h : Each P (as.take i) ds) (ha : as[i]? = some a) (hx : P a x) : Each P (as.take (i + 1)) (ds ++ [x]) := by
  have tk : as.take (i + 1) = as.take i ++ [a] := by rw [List.take_succ, ha]; rfl
  have li : (as.take i).length = i := by
    have := (List.getElem?_eq_some_iff.mp ha).1
    rw [List.length_take]
    omega
  have ld : ds.length = i := h.1.trans li
  refine ⟨by rw [tk, List.length_append, List.length_append, h.1]; rfl, fun j b y hb hy => ?_⟩
  rw [tk] at hb
  by_cases hj : j < i
  · rw [List.getElem?_append_left (by omega)] at hb hy
    exact h.2 j b y hb hy
  · have e : j = i := by
      have := (List.getElem?_eq_some_iff.mp hy).1
      simp at this
      omega
    subst e
    rw [List.getElem?_append_right (by omega), li] at hb
    rw [List.getElem?_append_right (by omega), ld] at hy
    simp at hb hy
    subst hb
    subst hy
    exact hx
theorem Dw.lc {α : Type} {as : List α} {r : α → Rel} {wi : TI} {g : TG} {vs : List Nat} (P : α → PyData → Prop) (hi : Di wi σ B (as.map r)) (few : as.length < sizeLine)
    (turn : ∀ a v Bn, a ∈ as → Same B Bn → r a Bn v → ∃ σ2, (∀ Hn (Q : L2.St → Hp → Prop), Same Bn Hn → Q σ2 Hn → g v (wipe σ vs) Hn Q) ∧ wipe σ2 vs = wipe σ vs ∧ Dw te σ2 d c Bn (datP K (P a))) :
    Dw (tLc wi g tYes te vs) σ d c B (datP K (listOf (Each P as))) := fun B1 H s L Q k =>
  c_lcD (K := K) (as := as) (r := r) L (hi.mono s) few (fun i out => Each P (as.take i) out) ⟨rfl, fun i a x h => by simp at h⟩ (fun i a v B2 H2 out ha L2' s2 hv hE Y N hY hN => by
    obtain ⟨σ2, t1, t2, t3⟩ := turn a v B2 (List.mem_of_getElem? ha) (s.trans s2) hv
    refine t1 H2 _ L2'.bh ⟨t2, ?_⟩
    show te σ2 H2 Y
    exact t3 B2 H2 (Same.refl _) L2' _ fun y B4 H4 e4 ⟨x, hx, hy⟩ => hY y B4 H4 x e4 hy (hE.snoc ha hx)) fun out v B' H' e hE hv => k v B' H' e ⟨_, ⟨out, rfl, by rw [List.take_length] at hE; exact hE⟩, hv⟩
/-- parts of lists -/
def cutA {α : Type} (xs : List α) (lo hi : Option Int) : List α := (xs.drop (HT.sIx xs.length 0 lo)).take (HT.sIx xs.length xs.length hi - HT.sIx xs.length 0 lo)
theorem cutA_map {α β : Type} (f : α → β) (xs : List α) (lo hi : Option Int) : (cutA xs lo hi).map f = cutA (xs.map f) lo hi := by
  unfold cutA
  rw [List.map_take, List.map_drop, List.length_map]
theorem cutA_mem {α : Type} {xs : List α} {lo hi : Option Int} {x : α} (h : x ∈ cutA xs lo hi) : x ∈ xs := List.mem_of_mem_drop (List.mem_of_mem_take h)
theorem cutA_len {α : Type} (xs : List α) (lo hi : Option Int) : (cutA xs lo hi).length ≤ xs.length := by
  unfold cutA
  rw [List.length_take, List.length_drop]
  omega
theorem dpAll_take {K : PySem.W.Frag} {H : Hp} : ∀ {vs : List V} {ds : List PyData} (n : Nat), DpAll K H vs ds → DpAll K H (vs.take n) (ds.take n)
  | _, _, 0, _ => .nil
  | _, _, n + 1, .nil => .nil
  | _, _, n + 1, .cons h t => .cons h (dpAll_take n t)
theorem dpAll_drop {K : PySem.W.Frag} {H : Hp} : ∀ {vs : List V} {ds : List PyData} (n : Nat), DpAll K H vs ds → DpAll K H (vs.drop n) (ds.drop n)
  | _, _, 0, h => h
  | _, _, n + 1, .nil => .nil
  | _, _, n + 1, .cons _ t => dpAll_drop n t
theorem De.slL {ds : List PyData} {tl th : TO} {lo hi : Option Int} (h : De te σ B (dat K (.list ds))) (h1 : Do tl σ B lo) (h2 : Do th σ B hi) : De (L2.tSl (rSlL K) te tl th) σ B (dat K (.list (cutA ds lo hi))) :=
  .sl h h1 h2 fun x B1 H s1 s2 hx Q q => by
    obtain ⟨a, xs, rfl, hs, hR⟩ := dat_lstR hx
    refine ⟨a, xs, rfl, s2.seq hs, fun p hp => q _ (upd B1 p (.lst (cutV xs lo hi))) _ (.new s2 hp) ?_⟩
    have g := allR_dp hR
    have len : xs.length = ds.length := dpAll_len g
    refine .lst (SqL.of upd_same) (dpMonoAll (new_same (s2.free hp)) _ _ ?_)
    unfold cutV cutA
    rw [len]
    exact dpAll_take _ (dpAll_drop _ g)
end
end Wv

set_option Elab.async false
set_option linter.all false
set_option maxRecDepth 100000
set_option maxHeartbeats 4000000
/-! Fm0: forms, their rows and lots, as lists and as data. -/
namespace Fm
open PySem PySem.Spec PyProof.Rows L2 Wb Wv
abbrev Qs := List (Str × Nat)
def encQ (q : Str × Nat) : PyData := .tuple [.str q.1, .int (q.2 : Int)]
def qsD (qs : Qs) : PyData := .tuple (qs.map encQ)
def formR (K : PySem.W.Frag) (C : Addr) (qs : Qs) : Rel := insR C [("questions", dat K (qsD qs))]
instance {K : PySem.W.Frag} {C : Addr} {qs : Qs} : Mo (formR K C qs) := inferInstanceAs (Mo (insR C [("questions", dat K (qsD qs))]))
def lotD (l : List Str) : PyData := .tuple (l.map .str)
def rowD (r : List Int) : PyData := .tuple (r.map .int)
def rowsL (rs : List (List Int)) : PyData := .list (rs.map rowD)
def rowsT (rs : List (List Int)) : PyData := .tuple (rs.map rowD)
def names (qs : Qs) : List Str := qs.map (·.1)
/-- lo, lo + 1, .. n of them -/
def rng (lo : Int) (n : Nat) : List Int := (List.range n).map fun i : Nat => lo + (i : Int)
theorem rng_len {lo : Int} {n : Nat} : (rng lo n).length = n := by simp [rng]
/-- all rows with an item of each list -/
def grow1 {α : Type} (rows : List (List α)) (vals : List α) : List (List α) := rows.flatMap fun r => vals.map fun v => r ++ [v]
def grow {α : Type} (ls : List (List α)) : List (List α) := ls.foldl grow1 [[]]
theorem grow_snoc {α : Type} (ls : List (List α)) (l : List α) : grow (ls ++ [l]) = grow1 (grow ls) l := by
  unfold grow
  rw [List.foldl_append]
  rfl
theorem grow1_len {α : Type} (rows : List (List α)) (vals : List α) : (grow1 rows vals).length = rows.length * vals.length := by
  unfold grow1
  induction rows with
  | nil => simp
  | cons r rows ih =>
    rw [List.flatMap_cons, List.length_append, ih, List.length_map, List.length_cons, Nat.succ_mul, Nat.add_comm]
theorem grow_len {α : Type} {m : Nat} (ls : List (List α)) (h : ∀ l ∈ ls, l.length ≤ m) : (grow ls).length ≤ m ^ ls.length := by
  suffices ∀ (k : Nat), k ≤ ls.length → (grow (ls.take k)).length ≤ m ^ k by
    have := this ls.length (Nat.le_refl _)
    rw [List.take_length] at this
    exact this
  intro k
  induction k with
  | zero =>
    intro _
    rw [List.take_zero, Nat.pow_zero]
    exact Nat.le_refl _
  | succ k ih =>
    intro hk
    have e : ls.take (k + 1) = ls.take k ++ [ls[k]] := by rw [List.take_succ, List.getElem?_eq_getElem (by omega)]; rfl
    rw [e, grow_snoc, grow1_len, Nat.pow_succ]
    exact Nat.mul_le_mul (ih (by omega)) (h _ (List.getElem_mem _))
theorem grow1_mem {α : Type} {rows : List (List α)} {vals : List α} {r : List α} (h : r ∈ grow1 rows vals) : ∃ a ∈ rows, ∃ v ∈ vals, r = a ++ [v] := by
  unfold grow1 at h
  obtain ⟨a, ha, hr⟩ := List.mem_flatMap.mp h
  obtain ⟨v, hv, rfl⟩ := List.mem_map.mp hr
  exact ⟨a, ha, v, hv, rfl⟩
/-- an item of each list, in their order -/
def Picks {α : Type} : List α → List (List α) → Prop
  | [], [] => True
  | v :: r, l :: ls => v ∈ l ∧ Picks r ls
  | _, _ => False
theorem picks_snoc {α : Type} {v : α} {l : List α} (hv : v ∈ l) : ∀ {r : List α} {ls : List (List α)}, Picks r ls → Picks (r ++ [v]) (ls ++ [l])
  | [], [], _ => ⟨hv, trivial⟩
  | _ :: _, _ :: _, ⟨h, t⟩ => ⟨h, picks_snoc hv t⟩
  | [], _ :: _, h => h.elim
  | _ :: _, [], h => h.elim
theorem grow_picks {α : Type} (ls : List (List α)) : ∀ r ∈ grow ls, Picks r ls := by
  suffices ∀ k, k ≤ ls.length → ∀ r ∈ grow (ls.take k), Picks r (ls.take k) by
    have := this ls.length (Nat.le_refl _)
    rw [List.take_length] at this
    exact this
  intro k
  induction k with
  | zero =>
    intro _ r hr
    rw [List.take_zero] at *
    have hr : r ∈ [[]] := hr
    rw [List.mem_singleton.mp hr]
    trivial
  | succ k ih =>
    intro hk r hr
    have e : ls.take (k + 1) = ls.take k ++ [ls[k]] := by rw [List.take_succ, List.getElem?_eq_getElem (by omega)]; rfl
    rw [e, grow_snoc] at hr
    rw [e]
    obtain ⟨a, ha, v, hv, rfl⟩ := grow1_mem hr
    exact picks_snoc hv (ih (by omega) a ha)
theorem picks_len {α : Type} : ∀ {r : List α} {ls : List (List α)}, Picks r ls → r.length = ls.length
  | [], [], _ => rfl
  | _ :: _, _ :: _, ⟨_, t⟩ => by simp [picks_len t]
  | [], _ :: _, h => h.elim
  | _ :: _, [], h => h.elim
theorem grow_row {α : Type} {ls : List (List α)} {r : List α} (h : r ∈ grow ls) : r.length = ls.length := picks_len (grow_picks ls r h)
theorem picks_at {α : Type} : ∀ {r : List α} {ls : List (List α)} {i : Nat} {l : List α}, Picks r ls → ls[i]? = some l → ∃ v, r[i]? = some v ∧ v ∈ l
  | _ :: _, _ :: _, 0, _, ⟨h, _⟩, e => ⟨_, rfl, by cases e; exact h⟩
  | _ :: _, _ :: _, i + 1, _, ⟨_, t⟩, e => picks_at (i := i) t e
  | [], _ :: _, _, _, h, _ => h.elim
  | [], [], _, _, _, e => nomatch e
theorem grow1_map {α : Type} (f : α → α) (rows : List (List α)) (l : List α) : (grow1 rows l).map (List.map f) = grow1 (rows.map (List.map f)) (l.map f) := by
  unfold grow1
  rw [List.map_flatMap, List.flatMap_map]
  congr 1
  funext r
  rw [List.map_map, List.map_map]
  congr 1
  funext v
  simp
theorem grow_map {α : Type} (f : α → α) (ls : List (List α)) : (grow ls).map (List.map f) = grow (ls.map (List.map f)) := by
  unfold grow
  rw [List.foldl_map]
  generalize e : ([[]] : List (List α)) = z
  have e2 : z.map (List.map f) = z := by rw [← e]; rfl
  clear e
  suffices ∀ (rows rows2 : List (List α)), rows.map (List.map f) = rows2 → (ls.foldl grow1 rows).map (List.map f) = ls.foldl (fun x y => grow1 x (y.map f)) rows2 from this z z e2
  induction ls with
  | nil =>
    intro rows rows2 h
    exact h
  | cons l ls ih =>
    intro rows rows2 h
    refine ih _ _ ?_
    rw [grow1_map, h]
/-- all lots within a lot -/
def subs (l : List Str) : List (List Str) := l.foldl (fun f n => f ++ f.map fun a => a ++ [n]) [[]]
theorem subs_snoc (l : List Str) (n : Str) : subs (l ++ [n]) = subs l ++ (subs l).map fun a => a ++ [n] := by
  unfold subs
  rw [List.foldl_append]
  rfl
theorem subs_len (l : List Str) : ∀ k, k ≤ l.length → (subs (l.take k)).length = 2 ^ k := by
  intro k
  induction k with
  | zero =>
    intro _
    rw [List.take_zero]
    rfl
  | succ k ih =>
    intro hk
    have e : l.take (k + 1) = l.take k ++ [l[k]] := by rw [List.take_succ, List.getElem?_eq_getElem (by omega)]; rfl
    rw [e, subs_snoc, List.length_append, List.length_map, ih (by omega), Nat.pow_succ]
    omega
theorem subs_row {l a : List Str} (h : a ∈ subs l) : a.length ≤ l.length := by
  suffices ∀ k, k ≤ l.length → ∀ a ∈ subs (l.take k), a.length ≤ k from this l.length (Nat.le_refl _) a (by rw [List.take_length]; exact h)
  intro k
  induction k with
  | zero =>
    intro _ a ha
    rw [List.take_zero] at ha
    have ha : a ∈ [[]] := ha
    rw [List.mem_singleton.mp ha]
    exact Nat.le_refl _
  | succ k ih =>
    intro hk a ha
    have e : l.take (k + 1) = l.take k ++ [l[k]] := by rw [List.take_succ, List.getElem?_eq_getElem (by omega)]; rfl
    rw [e, subs_snoc] at ha
    rcases List.mem_append.mp ha with ha | ha
    · exact Nat.le_succ_of_le (ih (by omega) a ha)
    · obtain ⟨b, hb, rfl⟩ := List.mem_map.mp ha
      have := ih (by omega) b hb
      simp
      omega
theorem take_snoc {α : Type} {l : List α} {i : Nat} {x : α} (h : l[i]? = some x) : l.take (i + 1) = l.take i ++ [x] := by rw [List.take_succ, h]; rfl
/-- lots of names are alike -/
theorem alike_strs : ∀ a b : List Str, PySem.W.alikeAll (a.map PyData.str) (b.map PyData.str) = true
  | [], _ => by simp [PySem.W.alikeAll]
  | _ :: _, [] => by simp [PySem.W.alikeAll]
  | x :: a, y :: b => by
    simp only [List.map_cons, PySem.W.alikeAll, PySem.W.alike, Bool.true_and]
    exact alike_strs a b
theorem alike_lots (ls : List (List Str)) : PySem.W.AllAlike (ls.map lotD) := by
  intro d hd d' hd'
  obtain ⟨a, _, rfl⟩ := List.mem_map.mp hd
  obtain ⟨b, _, rfl⟩ := List.mem_map.mp hd'
  simp only [lotD, PySem.W.alike]
  exact alike_strs a b
theorem ok_lots (ls : List (List Str)) : PySem.W.SortOk (ls.map lotD) := .inl fun d hd => by
  obtain ⟨a, _, rfl⟩ := List.mem_map.mp hd
  exact ⟨_, rfl⟩
theorem depth_strs (l : List Str) : PyData.depthAll (l.map PyData.str) = 0 := by
  induction l with
  | nil => simp [PyData.depthAll]
  | cons x l ih => simp [PyData.depthAll, PyData.depth, ih]
theorem depth_lots (ls : List (List Str)) : ∀ d ∈ ls.map lotD, d.depth ≤ 60 := fun d hd => by
  obtain ⟨a, _, rfl⟩ := List.mem_map.mp hd
  simp [lotD, PyData.depth, depth_strs]
theorem depth_ints (l : List Int) : PyData.depthAll (l.map PyData.int) = 0 := by
  induction l with
  | nil => simp [PyData.depthAll]
  | cons x l ih => simp [PyData.depthAll, PyData.depth, ih]
/-- what a name's signs are -/
def Nmk (n : Nat) (z : Str) : Prop := z.length ≤ n ∧ ∀ c ∈ z.cps.toList, c < 128
abbrev Nm := Nmk 20
theorem Nmk.mono {m n : Nat} {z : Str} (h : Nmk m z) (l : m ≤ n) : Nmk n z := ⟨Nat.le_trans h.1 l, h.2⟩
theorem Nmk.app {m n : Nat} {x y : Str} (h : Nmk m x) (g : Nmk n y) : Nmk (m + n) (x ++ y) := by
  have e : (x ++ y).cps.toList = x.cps.toList ++ y.cps.toList := Array.toList_append
  refine ⟨?_, fun c hc => ?_⟩
  · have : (x ++ y).length = x.length + y.length := by
      show (x ++ y).cps.size = x.cps.size + y.cps.size
      rw [← Array.length_toList, e, List.length_append]
      rfl
    rw [this]
    exact Nat.add_le_add h.1 g.1
  · rw [e] at hc
    rcases List.mem_append.mp hc with hc | hc
    · exact h.2 c hc
    · exact g.2 c hc
theorem Nmk.cut {n : Nat} {z : Str} {lo hi : Option Int} (h : Nmk n z) : Nmk n (cutS z lo hi) := ⟨Nat.le_trans (cutS_length z lo hi) h.1, fun c hc => h.2 c (cutS_mem hc)⟩
theorem Nmk.one {a : Nat} (h : a < 128) : Nmk 1 ⟨#[a]⟩ := ⟨Nat.le_refl _, fun c hc => by
  have : c = a := by simpa using hc
  omega⟩
theorem Nm.ok {z : Str} (h : Nm z) : PyData.strOk z = true := by
  unfold PyData.strOk
  rw [← Array.all_toList, List.all_eq_true]
  intro c hc
  have := h.2 c hc
  simp only [decide_eq_true_eq]
  omega
theorem lay_strs {l : List Str} (h : ∀ z ∈ l, Nm z) : PyData.canLayAll0 (l.map PyData.str) = true := by
  rw [canLayAll_strs', List.all_eq_true]
  exact fun z hz => (h z hz).ok
theorem lay_ints (l : List Int) : PyData.canLayAll0 (l.map PyData.int) = true := by
  induction l with
  | nil => simp [PyData.canLayAll0]
  | cons x l ih => simp [PyData.canLayAll0, PyData.canLay0, ih]
theorem shaped_str {z : Str} (h : Nm z) : SeqAt.shaped (.str z) = true := by simp [SeqAt.shaped, PyData.canLay0, PyData.depth, h.ok]
theorem shaped_lot {l : List Str} (h : ∀ z ∈ l, Nm z) : SeqAt.shaped (lotD l) = true := by simp [SeqAt.shaped, lotD, PyData.canLay0, PyData.depth, lay_strs h, depth_strs]
theorem shaped_strsL {l : List Str} (h : ∀ z ∈ l, Nm z) : SeqAt.shaped (.list (l.map .str)) = true := by simp [SeqAt.shaped, PyData.canLay0, PyData.depth, lay_strs h, depth_strs]
theorem shaped_row (l : List Int) : SeqAt.shaped (rowD l) = true := by simp [SeqAt.shaped, rowD, PyData.canLay0, PyData.depth, lay_ints, depth_ints]
theorem any_strs (l : List Str) (z : Str) : ((l.map PyData.str).any fun d => PyData.eqv d (.str z)) = decide (z ∈ l) := by
  rw [List.any_map]
  induction l with
  | nil => simp
  | cons x l ih =>
    rw [List.any_cons, ih]
    simp only [Function.comp, PyData.eqv, List.mem_cons, Bool.decide_or, eq_comm (a := z)]
    rfl
theorem join_nm0 {n : Nat} {sep : Str} (hs : Nmk 0 sep) : ∀ {zs : List Str}, (∀ z ∈ zs, Nmk n z) → Nmk (zs.length * n) (Str.join sep zs)
  | [], _ => ⟨Nat.zero_le _, fun c hc => by cases hc⟩
  | [x], h => by
    have := h x List.mem_cons_self
    exact this.mono (by simp)
  | x :: y :: r, h => by
    have a := h x List.mem_cons_self
    have b := join_nm0 hs (zs := y :: r) fun z hz => h z (List.mem_cons_of_mem _ hz)
    show Nmk _ (x ++ sep ++ Str.join sep (y :: r))
    refine ((a.app hs).app b).mono ?_
    simp only [List.length_cons, Nat.succ_mul]
    omega
theorem join_nm {n : Nat} {sep : Str} (hs : Nmk 0 sep) {zs : List Str} (h : ∀ z ∈ zs, Nmk n z) : Nmk (zs.length * n) (Txt.join sep zs) := by
  unfold Txt.join
  rw [StrLaws.glued_eq_join]
  exact join_nm0 hs h
theorem sum_le {n : Nat} : ∀ {zs : List Str}, (∀ z ∈ zs, Nmk n z) → (zs.map (·.length)).sum ≤ zs.length * n
  | [], _ => Nat.zero_le _
  | x :: r, h => by
    have a := (h x List.mem_cons_self).1
    have b := sum_le (zs := r) fun z hz => h z (List.mem_cons_of_mem _ hz)
    simp only [List.map_cons, List.sum_cons, List.length_cons, Nat.succ_mul]
    omega
end Fm

set_option Elab.async false
set_option linter.all false
set_option maxRecDepth 100000
set_option maxHeartbeats 4000000
/-! Fm1: sheets, and what is behind them. -/
namespace Fm
open PySem PySem.Spec PyProof.Rows L2 Wb Wv
/-- the sheet of a lot and a truth -/
def sheetL (ns : List Str) (lot : List Str) (truth : List Int) : List Int := (ns.zip truth).map fun p => if p.1 ∈ lot then -1 else p.2
def lotL (ns : List Str) (sheet : List Int) : List Str := ((ns.zip sheet).filter fun p => decide (p.2 = -1)).map (·.1)
def behindL (qs : Qs) (sheet : List Int) : List (List Int) := grow ((qs.zip sheet).map fun p => if p.2 = -1 then rng 0 p.1.2 else [p.2])
theorem lot_sheet (lot : List Str) : ∀ (ns : List Str) (truth : List Int), ns.length = truth.length → (∀ i ∈ truth, 0 ≤ i) → lotL ns (sheetL ns lot truth) = ns.filter fun z => decide (z ∈ lot)
  | [], _, _, _ => rfl
  | z :: ns, [], h, _ => by simp at h
  | z :: ns, i :: truth, h, n => by
    have ih := lot_sheet lot ns truth (by simpa using h) fun j hj => n j (List.mem_cons_of_mem _ hj)
    have i0 := n i List.mem_cons_self
    unfold lotL sheetL at *
    rw [List.zip_cons_cons, List.map_cons, List.zip_cons_cons, List.filter_cons, List.filter_cons]
    by_cases c : z ∈ lot
    · simp only [c, if_true, decide_true]
      rw [List.map_cons, ih]
    · have e : ¬ i = -1 := by omega
      simp only [c, if_false, e, decide_false]
      simpa using ih
theorem lot_truth : ∀ (ns : List Str) (truth : List Int), (∀ i ∈ truth, 0 ≤ i) → lotL ns truth = []
  | [], _, _ => rfl
  | _ :: _, [], _ => rfl
  | z :: ns, i :: truth, n => by
    have ih := lot_truth ns truth fun j hj => n j (List.mem_cons_of_mem _ hj)
    have i0 := n i List.mem_cons_self
    unfold lotL at *
    rw [List.zip_cons_cons, List.filter_cons]
    have e : ¬ i = -1 := by omega
    simp only [e, decide_false]
    simpa using ih
theorem sheet_len (ns lot : List Str) (truth : List Int) (h : ns.length = truth.length) : (sheetL ns lot truth).length = truth.length := by
  unfold sheetL
  rw [List.length_map, List.length_zip]
  omega
theorem sheet_at {ns lot : List Str} {truth : List Int} {i : Nat} {z : Str} {t : Int} (h : ns[i]? = some z) (g : truth[i]? = some t) : (sheetL ns lot truth)[i]? = some (if z ∈ lot then -1 else t) := by
  unfold sheetL
  rw [List.getElem?_map, List.getElem?_zip_eq_some (z := (z, t)) |>.mpr ⟨h, g⟩]
  rfl
/-- where a row says otherwise than a sheet -/
def bad (due row : List Int) : List Nat := (List.range row.length).filter fun i => !decide (due.getD i 0 = -1) && !decide (due.getD i 0 = row.getD i 0)
theorem bad_snoc {due row : List Int} {x v : Int} (h : due.length = row.length) : bad (due ++ [x]) (row ++ [v]) = bad due row ++ if (!decide (x = -1) && !decide (x = v)) = true then [row.length] else [] := by
  unfold bad
  rw [List.length_append]
  show (List.range (row.length + 1)).filter _ = _
  rw [List.range_succ, List.filter_append]
  congr 1
  · refine List.filter_congr fun i hi => ?_
    have hi := List.mem_range.mp hi
    have e1 : (due ++ [x]).getD i 0 = due.getD i 0 := by
      simp only [List.getD_eq_getElem?_getD]
      rw [List.getElem?_append_left (by omega)]
    have e2 : (row ++ [v]).getD i 0 = row.getD i 0 := by
      simp only [List.getD_eq_getElem?_getD]
      rw [List.getElem?_append_left hi]
    rw [e1, e2]
  · have e1 : (due ++ [x]).getD row.length 0 = x := by
      simp only [List.getD_eq_getElem?_getD]
      rw [← h, List.getElem?_append_right (Nat.le_refl _)]
      simp
    have e2 : (row ++ [v]).getD row.length 0 = v := by
      simp only [List.getD_eq_getElem?_getD]
      rw [List.getElem?_append_right (Nat.le_refl _)]
      simp
    rw [List.filter_cons, e1, e2, List.filter_nil]
def fits (due row : List Int) : Bool := (bad due row).isEmpty
theorem fits_snoc {due row : List Int} {x v : Int} (h : due.length = row.length) : fits (due ++ [x]) (row ++ [v]) = (fits due row && (decide (x = -1) || decide (x = v))) := by
  unfold fits
  rw [bad_snoc h]
  cases c1 : decide (x = -1) <;> cases c2 : decide (x = v) <;> simp
theorem grow1_filter {α : Type} {Q : List α → Bool} {P : List α → Bool} {p : α → Bool} {vals : List α} : ∀ {rows : List (List α)}, (∀ r ∈ rows, ∀ v, Q (r ++ [v]) = (P r && p v)) → (grow1 rows vals).filter Q = grow1 (rows.filter P) (vals.filter p)
  | [], _ => rfl
  | r :: rows, h => by
    have ih := grow1_filter (vals := vals) (rows := rows) fun a ha => h a (List.mem_cons_of_mem _ ha)
    have h0 := h r List.mem_cons_self
    unfold grow1 at *
    rw [List.flatMap_cons, List.filter_append, ih, List.filter_map]
    have e : (Q ∘ fun v => r ++ [v]) = fun v => P r && p v := by
      funext v
      exact h0 v
    rw [e]
    cases c : P r with
    | true =>
      rw [List.filter_cons, c, if_pos rfl, List.flatMap_cons]
      simp
    | false =>
      rw [List.filter_cons, c, if_neg (by decide)]
      simp
theorem rng_succ (n : Nat) : rng 0 (n + 1) = rng 0 n ++ [(n : Int)] := by
  unfold rng
  rw [List.range_succ, List.map_append]
  simp
theorem rng_mem {n : Nat} {x : Int} : x ∈ rng 0 n ↔ 0 ≤ x ∧ x < n := by
  unfold rng
  rw [List.mem_map]
  constructor
  · rintro ⟨i, hi, rfl⟩
    have := List.mem_range.mp hi
    omega
  · rintro ⟨h0, h1⟩
    exact ⟨x.toNat, List.mem_range.mpr (by omega), by omega⟩
theorem rng_only {x : Int} : ∀ {n : Nat}, 0 ≤ x → x < n → (rng 0 n).filter (fun v => decide (x = -1) || decide (x = v)) = [x]
  | 0, h0, h1 => by omega
  | n + 1, h0, h1 => by
    rw [rng_succ, List.filter_append]
    by_cases e : x = n
    · have e1 : (rng 0 n).filter (fun v => decide (x = -1) || decide (x = v)) = [] := by
        rw [List.filter_eq_nil_iff]
        intro v hv
        have := rng_mem.mp hv
        simp
        omega
      rw [e1]
      simp [e]
    · rw [rng_only (n := n) h0 (by omega)]
      have e1 : ¬ x = -1 := by omega
      simp [e, e1]
theorem rng_all {n : Nat} : (rng 0 n).filter (fun v => decide ((-1 : Int) = -1) || decide ((-1 : Int) = v)) = rng 0 n := by
  rw [List.filter_eq_self]
  intro v _
  simp
/-- what is behind a sheet: the rows that say nothing else -/
theorem behind_fits {qs : Qs} {due : List Int} (h : qs.length = due.length) (ok : ∀ (i : Nat) (q : Str × Nat) (x : Int), qs[i]? = some q → due[i]? = some x → x = -1 ∨ (0 ≤ x ∧ x < q.2)) : behindL qs due = (grow (qs.map fun q => rng 0 q.2)).filter (fits due) := by
  unfold behindL
  suffices ∀ k, k ≤ qs.length → grow (((qs.zip due).take k).map fun p => if p.2 = -1 then rng 0 p.1.2 else [p.2]) = (grow ((qs.take k).map fun q => rng 0 q.2)).filter (fits (due.take k)) by
    have t := this qs.length (Nat.le_refl _)
    rw [List.take_length, List.take_of_length_le (by rw [List.length_zip]; omega), List.take_of_length_le (l := due) (by omega)] at t
    exact t
  intro k
  induction k with
  | zero =>
    intro _
    rw [List.take_zero, List.take_zero, List.take_zero]
    rfl
  | succ k ih =>
    intro hk
    obtain ⟨q, hq⟩ : ∃ q, qs[k]? = some q := ⟨_, List.getElem?_eq_getElem (by omega)⟩
    obtain ⟨x, hx⟩ : ∃ x, due[k]? = some x := ⟨_, List.getElem?_eq_getElem (by omega)⟩
    have hz : (qs.zip due)[k]? = some (q, x) := List.getElem?_zip_eq_some.mpr ⟨hq, hx⟩
    rw [take_snoc hz, take_snoc hq, take_snoc hx, List.map_append, List.map_append]
    show grow (_ ++ [_]) = (grow (_ ++ [_])).filter _
    rw [grow_snoc, grow_snoc, ih (by omega), grow1_filter (P := fits (due.take k)) (p := fun v => decide (x = -1) || decide (x = v))]
    · congr 1
      rcases ok k q x hq hx with e | ⟨h0, h1⟩
      · subst e
        rw [rng_all]
        rfl
      · rw [rng_only h0 h1]
        have e : ¬ x = -1 := by omega
        simp [e]
    · intro r hr v
      refine fits_snoc ?_
      rw [grow_row hr, List.length_map, List.length_take, List.length_take]
      omega
theorem fits_own {ns lot : List Str} {truth : List Int} (h : ns.length = truth.length) : fits (sheetL ns lot truth) truth = true := by
  unfold fits bad
  rw [List.isEmpty_iff, List.filter_eq_nil_iff]
  intro i hi
  have hi := List.mem_range.mp hi
  obtain ⟨z, hz⟩ : ∃ z, ns[i]? = some z := ⟨_, List.getElem?_eq_getElem (by omega)⟩
  obtain ⟨t, ht⟩ : ∃ t, truth[i]? = some t := ⟨_, List.getElem?_eq_getElem hi⟩
  have e := sheet_at (lot := lot) hz ht
  simp only [List.getD_eq_getElem?_getD, e, ht, Option.getD_some]
  by_cases c : z ∈ lot <;> simp [c]
end Fm

set_option Elab.async false
set_option linter.all false
set_option maxRecDepth 100000
set_option maxHeartbeats 4000000
/-! Fm2: lists of texts and of lots: how they are sorted, shown, looked at. -/
namespace Fm
open PySem PySem.Spec PyProof.Rows L2 Wb Wv
theorem sortD_strs (zs : List Str) : ∃ ys : List Str, ys.Perm zs ∧ sortD (zs.map .str) = ys.map .str := by
  refine ⟨zs.mergeSort fun a b => dle (.str a) (.str b), List.mergeSort_perm _ _, ?_⟩
  unfold sortD
  rw [List.map_mergeSort (s := dle) (f := PyData.str) (fun a _ b _ => rfl)]
theorem alike_str (zs : List Str) : PySem.W.AllAlike (zs.map .str) := by
  intro d hd d' hd'
  obtain ⟨a, _, rfl⟩ := List.mem_map.mp hd
  obtain ⟨b, _, rfl⟩ := List.mem_map.mp hd'
  simp only [PySem.W.alike]
theorem sortok_str (zs : List Str) : PySem.W.SortOk (zs.map .str) := .inr fun d hd => by
  obtain ⟨a, _, rfl⟩ := List.mem_map.mp hd
  exact ⟨(fun z => nomatch z), (fun _ z => nomatch z)⟩
theorem depth_str (zs : List Str) : ∀ d ∈ zs.map PyData.str, d.depth ≤ 60 := fun d hd => by
  obtain ⟨a, _, rfl⟩ := List.mem_map.mp hd
  simp [PyData.depth]
theorem strs_vals {K : PySem.W.Frag} {B : Hp} : ∀ {zs : List Str} {xs : List V}, AllR ((zs.map PyData.str).map (dat K)) B xs → xs = zs.map V.str
  | [], _, h => h
  | z :: zs, _, h => by
    obtain ⟨v, r, rfl, h1, h2⟩ := h
    rw [dat_str h1, strs_vals h2]
    rfl
theorem strs_dpAll {K : PySem.W.Frag} {H : Hp} : ∀ zs : List Str, DpAll K H (zs.map V.str) (zs.map PyData.str)
  | [] => .nil
  | z :: zs => .cons (.str z) (strs_dpAll zs)
theorem tb_nm {n : Nat} {z : Str} (h : Nmk n z) : Tb 0 n (.str z) := tb_str (fun a ha => Nat.lt_trans (h.2 a ha) (by decide)) h.1
theorem sortD_lots (ls : List (List Str)) : ∃ ys : List (List Str), ys.Perm ls ∧ sortD (ls.map lotD) = ys.map lotD := by
  refine ⟨ls.mergeSort fun a b => dle (lotD a) (lotD b), List.mergeSort_perm _ _, ?_⟩
  unfold sortD
  rw [List.map_mergeSort (s := dle) (f := lotD) (fun a _ b _ => rfl)]
theorem subs_in {l a : List Str} (h : a ∈ subs l) : ∀ z ∈ a, z ∈ l := by
  suffices ∀ k, k ≤ l.length → ∀ a ∈ subs (l.take k), ∀ z ∈ a, z ∈ l from this l.length (Nat.le_refl _) a (by rw [List.take_length]; exact h)
  intro k
  induction k with
  | zero =>
    intro _ a ha z hz
    rw [List.take_zero] at ha
    have ha : a ∈ [[]] := ha
    rw [List.mem_singleton.mp ha] at hz
    cases hz
  | succ k ih =>
    intro hk a ha z hz
    have e : l.take (k + 1) = l.take k ++ [l[k]] := by rw [List.take_succ, List.getElem?_eq_getElem (by omega)]; rfl
    rw [e, subs_snoc] at ha
    rcases List.mem_append.mp ha with ha | ha
    · exact ih (by omega) a ha z hz
    · obtain ⟨b, hb, rfl⟩ := List.mem_map.mp ha
      rcases List.mem_append.mp hz with hz | hz
      · exact ih (by omega) b hb z hz
      · rw [List.mem_singleton.mp hz]
        exact List.getElem_mem _
theorem lay_lots : ∀ ls : List (List Str), (∀ l ∈ ls, ∀ z ∈ l, Nm z) → PyData.canLayAll0 (ls.map lotD) = true
  | [], _ => by simp [PyData.canLayAll0]
  | l :: ls, h => by
    rw [List.map_cons]
    simp only [PyData.canLayAll0, Bool.and_eq_true]
    exact ⟨by simp only [lotD, PyData.canLay0]; exact lay_strs (h l List.mem_cons_self), lay_lots ls fun a ha => h a (List.mem_cons_of_mem _ ha)⟩
theorem lay_rows : ∀ rs : List (List Int), PyData.canLayAll0 (rs.map rowD) = true
  | [] => by simp [PyData.canLayAll0]
  | l :: ls => by
    rw [List.map_cons]
    simp only [PyData.canLayAll0, Bool.and_eq_true]
    exact ⟨by simp only [rowD, PyData.canLay0]; exact lay_ints _, lay_rows ls⟩
theorem depth_rows : ∀ rs : List (List Int), PyData.depthAll (rs.map rowD) ≤ 1
  | [] => by simp [PyData.depthAll]
  | l :: ls => by
    have := depth_rows ls
    simp only [List.map_cons, PyData.depthAll, rowD, PyData.depth, depth_ints]
    omega
theorem shaped_rows (rs : List (List Int)) : SeqAt.shaped (rowsT rs) = true := by
  unfold SeqAt.shaped rowsT
  rw [Bool.and_eq_true]
  refine ⟨by simp only [PyData.canLay0]; exact lay_rows rs, decide_eq_true ?_⟩
  have := depth_rows rs
  simp only [PyData.depth]
  omega
theorem tb_lot {l : List Str} (h : ∀ z ∈ l, Nm z) (few : l.length ≤ 4) : Tb 1 84 (lotD l) := by
  refine ((TbAll.of (n := 0) (W := 20) (es := l.map .str) fun e he => ?_).tuple).more (Nat.le_refl _) ?_
  · obtain ⟨z, hz, rfl⟩ := List.mem_map.mp he
    exact tb_nm (h z hz)
  · rw [List.length_map]
    omega
theorem tb_row {r : List Int} (few : r.length ≤ 4) (h : ∀ i ∈ r, i.natAbs ≤ 100) : Tb 1 4 (rowD r) := by
  refine ((TbAll.of (n := 0) (W := 0) (es := r.map .int) fun e he => ?_).tuple).more (Nat.le_refl _) ?_
  · obtain ⟨i, hi, rfl⟩ := List.mem_map.mp he
    refine tb_int (Nat.lt_of_le_of_lt (h i hi) ?_)
    exact Nat.lt_of_lt_of_le (show 100 < 2 ^ 7 by decide) (Nat.pow_le_pow_right (by decide) (by decide))
  · rw [List.length_map]
    omega
/-- data that are texts -/
theorem strs_of {P : Str → Prop} : ∀ {ds : List PyData}, (∀ y ∈ ds, ∃ z, y = .str z ∧ P z) → ∃ zs : List Str, ds = zs.map .str ∧ ∀ z ∈ zs, P z
  | [], _ => ⟨[], rfl, fun z h => nomatch h⟩
  | d :: ds, h => by
    obtain ⟨z, rfl, hz⟩ := h d List.mem_cons_self
    obtain ⟨zs, rfl, hs⟩ := strs_of fun y hy => h y (List.mem_cons_of_mem _ hy)
    exact ⟨z :: zs, rfl, fun x hx => by
      rcases List.mem_cons.mp hx with rfl | hx
      · exact hz
      · exact hs x hx⟩
theorem each_mem {α : Type} {P : α → PyData → Prop} {as : List α} {ds : List PyData} (h : Each P as ds) : ∀ y ∈ ds, ∃ a ∈ as, P a y := fun y hy => by
  obtain ⟨i, hi, rfl⟩ := List.mem_iff_getElem.mp hy
  have ha : i < as.length := by rw [← h.1]; exact hi
  exact ⟨as[i], List.getElem_mem ha, h.2 i _ _ (List.getElem?_eq_getElem ha) (List.getElem?_eq_getElem hi)⟩
abbrev rJoin (K : PySem.W.Frag) : V → List V → Hp → VK → Prop := fun x xs H Q => ∃ a p, ∃ ys : List Str, x = .str a ∧ xs = [.ref p] ∧ (SqL K H p (ys.map V.str) ∨ SqT K H p (ys.map V.str)) ∧ (ys.map (·.length)).sum + ys.length * a.length ≤ 16777216 ∧ Q (.str (Txt.join a ys)) H
theorem pe_joinK {X : Cx} {K : PySem.W.Frag} {o e : Expr} {to te : TE} {apos pos : Pos} (hK : X.K = K) (ho : PE X o to) (he : PE X e te) (hs : starEach [e] X.env = [(false, eval e X.env)] := by rfl) (hbase : attributeBase o "join" X.env (eval o X.env) = eval o X.env := by rfl) (hline : (apos.endLine == pos.line) = true := by rfl) :
    PE X (.Call (.Attribute o "join" apos) [e] [] pos) (tM1 (rJoin K) to te) := by
  subst hK
  exact pe_join ho he hs hbase hline
section
variable {K : PySem.W.Frag} {σ : L2.St} {d c : Addr} {B : Hp} {te tf : TE} {E : XK} {i : Nat}
theorem Dw.ofTxt {z : Str} (hd : σ[i]? = some (some (.ref d))) (h : De te σ B (dat K (.str z))) (ne : 0 < z.length) (few : z.length ≤ 1000) : Dw (tCall (spOf K) [] E (tCons (tVar i) (tCons te tNil))) σ d c B (datP K fun x => ∃ a, x = .str ⟨#[a]⟩ ∧ a ∈ z.cps.toList) := fun B1 H s L Q k =>
  c_ofS L hd (h.mono s) ne few fun a B' H' ha e => k _ B' H' e ⟨_, ⟨a, rfl, ha⟩, .str _⟩
theorem De.join {sep : Str} {zs : List Str} (h1 : De te σ B (dat K (.str sep))) (h2 : De tf σ B (dat K (.list (zs.map .str)))) (hz : (zs.map (·.length)).sum + zs.length * sep.length ≤ 16777216) :
    De (tM1 (fun x xs H Q => ∃ a p, ∃ ys : List Str, x = .str a ∧ xs = [.ref p] ∧ (SqL K H p (ys.map V.str) ∨ SqT K H p (ys.map V.str)) ∧ (ys.map (·.length)).sum + ys.length * a.length ≤ 16777216 ∧ Q (.str (Txt.join a ys)) H) te tf) σ B (dat K (.str (Txt.join sep zs))) := fun B1 H s1 s2 Q q =>
  h1 B1 H s1 s2 _ fun x B2 H2 e hx => by
    have hx := dat_str hx
    subst hx
    refine ⟨⟨_, rfl⟩, h2 B2 H2 (s1.trans e.bb) e.bh _ fun y B3 H3 e3 hy => ?_⟩
    obtain ⟨p, xs, rfl, hs, hR⟩ := dat_lstR hy
    have ex := strs_vals (zs := zs) hR
    subst ex
    exact ⟨_, p, zs, rfl, rfl, .inl (e3.bh.seq hs), hz, q _ B3 H3 (e.trans e3) (.str _)⟩
end
end Fm

set_option Elab.async false
set_option linter.all false
set_option maxRecDepth 100000
set_option maxHeartbeats 4000000
/-! As0: tests and worths, as what they are and as data. -/
namespace As
open PySem PySem.Spec PyProof.Rows L2 Wb Wv Fm
inductive Tst where
  | all
  | is (z : Str) (n : Int)
  | blank (z : Str)
  | nt (t : Tst)
  | both (a b : Tst)
  | either (a b : Tst)
inductive Wth where
  | number (n : Int)
  | answer (z : Str)
  | ifT (t : Tst)
  | plus (a b : Wth)
  | times (a b : Wth)
def Tst.enc : Tst → PyData
  | .all => .tuple [.str "all"]
  | .is z n => .tuple [.str "is", .str z, .int n]
  | .blank z => .tuple [.str "blank", .str z]
  | .nt t => .tuple [.str "not", t.enc]
  | .both a b => .tuple [.str "both", a.enc, b.enc]
  | .either a b => .tuple [.str "either", a.enc, b.enc]
def Wth.enc : Wth → PyData
  | .number n => .tuple [.str "number", .int n]
  | .answer z => .tuple [.str "answer", .str z]
  | .ifT t => .tuple [.str "if", t.enc]
  | .plus a b => .tuple [.str "plus", a.enc, b.enc]
  | .times a b => .tuple [.str "times", a.enc, b.enc]
def Tst.dp : Tst → Nat
  | .nt t => t.dp + 1
  | .both a b => max a.dp b.dp + 1
  | .either a b => max a.dp b.dp + 1
  | _ => 1
def Wth.dp : Wth → Nat
  | .ifT t => t.dp + 1
  | .plus a b => max a.dp b.dp + 1
  | .times a b => max a.dp b.dp + 1
  | _ => 1
def Tst.ok (ns : List Str) : Tst → Prop
  | .all => True
  | .is z n => z ∈ ns ∧ n.natAbs ≤ 100
  | .blank z => z ∈ ns
  | .nt t => t.ok ns
  | .both a b => a.ok ns ∧ b.ok ns
  | .either a b => a.ok ns ∧ b.ok ns
def Wth.ok (ns : List Str) : Wth → Prop
  | .number n => n.natAbs ≤ 10 ^ 9
  | .answer z => z ∈ ns
  | .ifT t => t.ok ns
  | .plus a b => a.ok ns ∧ b.ok ns
  | .times a b => a.ok ns ∧ b.ok ns
def Tst.holds (ns lot : List Str) (tr : List Int) : Tst → Bool
  | .all => true
  | .is z n => decide (tr.getD (ns.idxOf z) 0 = n)
  | .blank z => decide (z ∈ lot)
  | .nt t => !t.holds ns lot tr
  | .both a b => a.holds ns lot tr && b.holds ns lot tr
  | .either a b => a.holds ns lot tr || b.holds ns lot tr
def Wth.val (ns lot : List Str) (tr : List Int) : Wth → Int
  | .number n => n
  | .answer z => tr.getD (ns.idxOf z) 0
  | .ifT t => if t.holds ns lot tr then 1 else 0
  | .plus a b => a.val ns lot tr + b.val ns lot tr
  | .times a b => a.val ns lot tr * b.val ns lot tr
theorem Tst.dp_pos (t : Tst) : 1 ≤ t.dp := by cases t <;> simp [Tst.dp]
theorem Wth.dp_pos (t : Wth) : 1 ≤ t.dp := by cases t <;> simp [Wth.dp]
/-- how great a worth can be -/
theorem Wth.val_lt {ns lot : List Str} {tr : List Int} (h : ∀ i ∈ tr, i.natAbs ≤ 100) : ∀ w : Wth, w.ok ns → (w.val ns lot tr).natAbs < 2 ^ (31 * 2 ^ w.dp)
  | .number n, hw => by
    have hw : n.natAbs ≤ 10 ^ 9 := hw
    have : (2 : Nat) ^ 31 ≤ 2 ^ (31 * 2 ^ 1) := Nat.pow_le_pow_right (by decide) (by decide)
    show n.natAbs < 2 ^ (31 * 2 ^ 1)
    omega
  | .answer z, _ => by
    have a : (tr.getD (ns.idxOf z) 0).natAbs ≤ 100 := by
      rw [List.getD_eq_getElem?_getD]
      cases e : tr[ns.idxOf z]? with
      | none => decide
      | some x => exact h x (List.mem_of_getElem? e)
    have : (2 : Nat) ^ 31 ≤ 2 ^ (31 * 2 ^ 1) := Nat.pow_le_pow_right (by decide) (by decide)
    show (tr.getD (ns.idxOf z) 0).natAbs < 2 ^ (31 * 2 ^ 1)
    omega
  | .ifT t, _ => by
    have : (2 : Nat) ^ 1 ≤ 2 ^ (31 * 2 ^ (t.dp + 1)) := Nat.pow_le_pow_right (by decide) (by have := Nat.one_le_two_pow (n := t.dp + 1); omega)
    show (if t.holds ns lot tr then (1 : Int) else 0).natAbs < 2 ^ (31 * 2 ^ (t.dp + 1))
    split <;> omega
  | .plus a b, hw => by
    have ha := Wth.val_lt (lot := lot) h a hw.1
    have hb := Wth.val_lt (lot := lot) h b hw.2
    have la : 2 ^ (31 * 2 ^ a.dp) ≤ 2 ^ (31 * 2 ^ (max a.dp b.dp)) := Nat.pow_le_pow_right (by decide) (Nat.mul_le_mul_left _ (Nat.pow_le_pow_right (by decide) (Nat.le_max_left _ _)))
    have lb : 2 ^ (31 * 2 ^ b.dp) ≤ 2 ^ (31 * 2 ^ (max a.dp b.dp)) := Nat.pow_le_pow_right (by decide) (Nat.mul_le_mul_left _ (Nat.pow_le_pow_right (by decide) (Nat.le_max_right _ _)))
    show (a.val ns lot tr + b.val ns lot tr).natAbs < 2 ^ (31 * 2 ^ (max a.dp b.dp + 1))
    have s := Int.natAbs_add_le (a.val ns lot tr) (b.val ns lot tr)
    have e : 31 * 2 ^ (max a.dp b.dp + 1) = 31 * 2 ^ (max a.dp b.dp) + 31 * 2 ^ (max a.dp b.dp) := by rw [Nat.pow_succ]; omega
    rw [e]
    generalize max a.dp b.dp = m at *
    have p : 2 ^ (31 * 2 ^ m) * 2 ≤ 2 ^ (31 * 2 ^ m + 31 * 2 ^ m) := by
      rw [← Nat.pow_succ]
      exact Nat.pow_le_pow_right (by decide) (by have := Nat.one_le_two_pow (n := m); omega)
    omega
  | .times a b, hw => by
    have ha := Wth.val_lt (lot := lot) h a hw.1
    have hb := Wth.val_lt (lot := lot) h b hw.2
    have la : 2 ^ (31 * 2 ^ a.dp) ≤ 2 ^ (31 * 2 ^ (max a.dp b.dp)) := Nat.pow_le_pow_right (by decide) (Nat.mul_le_mul_left _ (Nat.pow_le_pow_right (by decide) (Nat.le_max_left _ _)))
    have lb : 2 ^ (31 * 2 ^ b.dp) ≤ 2 ^ (31 * 2 ^ (max a.dp b.dp)) := Nat.pow_le_pow_right (by decide) (Nat.mul_le_mul_left _ (Nat.pow_le_pow_right (by decide) (Nat.le_max_right _ _)))
    show (a.val ns lot tr * b.val ns lot tr).natAbs < 2 ^ (31 * 2 ^ (max a.dp b.dp + 1))
    have e : 31 * 2 ^ (max a.dp b.dp + 1) = 31 * 2 ^ (max a.dp b.dp) + 31 * 2 ^ (max a.dp b.dp) := by rw [Nat.pow_succ]; omega
    rw [e]
    exact wide_lt (Nat.lt_of_lt_of_le ha la) (Nat.lt_of_lt_of_le hb lb)
/-! ### phrases: a word, and what follows in it -/
def isTup (d : PyData) : Bool := isD "tuple" d
def Phr : Nat → PyData → Prop
  | 0, _ => False
  | n + 1, d => ∃ w ps, d = .tuple (.str w :: ps) ∧ (ps.length ≤ 2 ∧ Nm w) ∧ ∀ p ∈ ps, isTup p = true → Phr n p
def hasB : Nat → PyData → Bool
  | n + 1, .tuple (.str w :: ps) => decide (w = "blank") || ps.any fun p => isTup p && hasB n p
  | _, _ => false
def plainD : Nat → PyData → PyData
  | n + 1, .tuple (.str w :: ps) => if w = "blank" then .tuple [.str "all"] else .tuple (.str w :: ps.map fun p => if isTup p = true then plainD n p else p)
  | _, d => d
def headsD : Nat → PyData → List Str
  | n + 1, .tuple (.str w :: ps) => w :: ps.flatMap fun p => if isTup p = true then headsD n p else []
  | _, _ => []
theorem isTup_enc (t : Tst) : isTup t.enc = true := by cases t <;> rfl
theorem isTup_encW (t : Wth) : isTup t.enc = true := by cases t <;> rfl
theorem phr_T : ∀ (t : Tst) (n : Nat), t.dp ≤ n → Phr n t.enc
  | t, 0, h => by have := t.dp_pos; omega
  | .all, n + 1, _ => ⟨_, _, rfl, ⟨by decide, by decide +kernel, by decide +kernel⟩, fun p hp => nomatch hp⟩
  | .is z m, n + 1, _ => ⟨_, _, rfl, ⟨by show 2 ≤ 2; decide, by decide +kernel, by decide +kernel⟩, fun p hp q => by
    simp only [List.mem_cons, List.not_mem_nil, or_false] at hp
    rcases hp with rfl | rfl <;> cases q⟩
  | .blank z, n + 1, _ => ⟨_, _, rfl, ⟨by show 1 ≤ 2; decide, by decide +kernel, by decide +kernel⟩, fun p hp q => by
    simp only [List.mem_cons, List.not_mem_nil, or_false] at hp
    rcases hp with rfl
    cases q⟩
  | .nt t, n + 1, h => ⟨_, _, rfl, ⟨by show 1 ≤ 2; decide, by decide +kernel, by decide +kernel⟩, fun p hp q => by
    simp only [List.mem_cons, List.not_mem_nil, or_false] at hp
    rcases hp with rfl
    exact phr_T t n (by simp only [Tst.dp] at h; omega)⟩
  | .both a b, n + 1, h => ⟨_, _, rfl, ⟨by show 2 ≤ 2; decide, by decide +kernel, by decide +kernel⟩, fun p hp q => by
    simp only [List.mem_cons, List.not_mem_nil, or_false] at hp
    simp only [Tst.dp] at h
    rcases hp with rfl | rfl
    · exact phr_T a n (by omega)
    · exact phr_T b n (by omega)⟩
  | .either a b, n + 1, h => ⟨_, _, rfl, ⟨by show 2 ≤ 2; decide, by decide +kernel, by decide +kernel⟩, fun p hp q => by
    simp only [List.mem_cons, List.not_mem_nil, or_false] at hp
    simp only [Tst.dp] at h
    rcases hp with rfl | rfl
    · exact phr_T a n (by omega)
    · exact phr_T b n (by omega)⟩
theorem phr_W : ∀ (t : Wth) (n : Nat), t.dp ≤ n → Phr n t.enc
  | t, 0, h => by have := t.dp_pos; omega
  | .number m, n + 1, _ => ⟨_, _, rfl, ⟨by show 1 ≤ 2; decide, by decide +kernel, by decide +kernel⟩, fun p hp q => by
    simp only [List.mem_cons, List.not_mem_nil, or_false] at hp
    rcases hp with rfl
    cases q⟩
  | .answer z, n + 1, _ => ⟨_, _, rfl, ⟨by show 1 ≤ 2; decide, by decide +kernel, by decide +kernel⟩, fun p hp q => by
    simp only [List.mem_cons, List.not_mem_nil, or_false] at hp
    rcases hp with rfl
    cases q⟩
  | .ifT t, n + 1, h => ⟨_, _, rfl, ⟨by show 1 ≤ 2; decide, by decide +kernel, by decide +kernel⟩, fun p hp q => by
    simp only [List.mem_cons, List.not_mem_nil, or_false] at hp
    rcases hp with rfl
    exact phr_T t n (by simp only [Wth.dp] at h; omega)⟩
  | .plus a b, n + 1, h => ⟨_, _, rfl, ⟨by show 2 ≤ 2; decide, by decide +kernel, by decide +kernel⟩, fun p hp q => by
    simp only [List.mem_cons, List.not_mem_nil, or_false] at hp
    simp only [Wth.dp] at h
    rcases hp with rfl | rfl
    · exact phr_W a n (by omega)
    · exact phr_W b n (by omega)⟩
  | .times a b, n + 1, h => ⟨_, _, rfl, ⟨by show 2 ≤ 2; decide, by decide +kernel, by decide +kernel⟩, fun p hp q => by
    simp only [List.mem_cons, List.not_mem_nil, or_false] at hp
    simp only [Wth.dp] at h
    rcases hp with rfl | rfl
    · exact phr_W a n (by omega)
    · exact phr_W b n (by omega)⟩
/-- heads tell whether a word stands in it -/
theorem heads_has : ∀ (n : Nat) (d : PyData), Phr n d → decide ((Str.ofString "blank") ∈ headsD n d) = hasB n d
  | 0, _, h => h.elim
  | n + 1, d, ⟨w, ps, e, _, hp⟩ => by
    subst e
    show decide ((Str.ofString "blank") ∈ w :: ps.flatMap fun p => if isTup p = true then headsD n p else []) = (decide (w = "blank") || ps.any fun p => isTup p && hasB n p)
    rw [Bool.eq_iff_iff]
    simp only [decide_eq_true_eq, List.mem_cons, List.mem_flatMap, Bool.or_eq_true, List.any_eq_true, Bool.and_eq_true]
    constructor
    · rintro (h | ⟨p, h1, h2⟩)
      · exact .inl h.symm
      · by_cases t : isTup p = true
        · rw [if_pos t] at h2
          exact .inr ⟨p, h1, t, by rw [← heads_has n p (hp p h1 t)]; exact decide_eq_true h2⟩
        · rw [if_neg t] at h2
          cases h2
    · rintro (h | ⟨p, h1, t, h2⟩)
      · exact .inl h.symm
      · refine .inr ⟨p, h1, ?_⟩
        rw [if_pos t]
        rw [← heads_has n p (hp p h1 t)] at h2
        exact of_decide_eq_true h2
theorem heads_nm : ∀ (n : Nat) (d : PyData), Phr n d → ∀ z ∈ headsD n d, Nm z
  | 0, _, h => h.elim
  | n + 1, d, ⟨w, ps, e, ⟨_, hw⟩, hp⟩ => by
    subst e
    intro z hz
    have hz : z ∈ w :: ps.flatMap fun p => if isTup p = true then headsD n p else [] := hz
    rcases List.mem_cons.mp hz with rfl | hz
    · exact hw
    · obtain ⟨p, h1, h2⟩ := List.mem_flatMap.mp hz
      by_cases t : isTup p = true
      · rw [if_pos t] at h2
        exact heads_nm n p (hp p h1 t) z h2
      · rw [if_neg t] at h2
        cases h2
def Tst.plain : Tst → Tst
  | .blank _ => .all
  | .nt t => .nt t.plain
  | .both a b => .both a.plain b.plain
  | .either a b => .either a.plain b.plain
  | t => t
def Wth.plain : Wth → Wth
  | .ifT t => .ifT t.plain
  | .plus a b => .plus a.plain b.plain
  | .times a b => .times a.plain b.plain
  | t => t
theorem plain_T : ∀ (t : Tst) (n : Nat), t.dp ≤ n → plainD n t.enc = t.plain.enc
  | t, 0, h => by have := t.dp_pos; omega
  | .all, n + 1, _ => rfl
  | .is z m, n + 1, _ => rfl
  | .blank z, n + 1, _ => rfl
  | .nt t, n + 1, h => by
    show PyData.tuple [.str "not", if isTup t.enc = true then plainD n t.enc else t.enc] = _
    rw [if_pos (isTup_enc t), plain_T t n (by simp only [Tst.dp] at h; omega)]
    rfl
  | .both a b, n + 1, h => by
    simp only [Tst.dp] at h
    show PyData.tuple [.str "both", if isTup a.enc = true then plainD n a.enc else a.enc, if isTup b.enc = true then plainD n b.enc else b.enc] = _
    rw [if_pos (isTup_enc a), if_pos (isTup_enc b), plain_T a n (by omega), plain_T b n (by omega)]
    rfl
  | .either a b, n + 1, h => by
    simp only [Tst.dp] at h
    show PyData.tuple [.str "either", if isTup a.enc = true then plainD n a.enc else a.enc, if isTup b.enc = true then plainD n b.enc else b.enc] = _
    rw [if_pos (isTup_enc a), if_pos (isTup_enc b), plain_T a n (by omega), plain_T b n (by omega)]
    rfl
theorem plain_W : ∀ (t : Wth) (n : Nat), t.dp ≤ n → plainD n t.enc = t.plain.enc
  | t, 0, h => by have := t.dp_pos; omega
  | .number m, n + 1, _ => rfl
  | .answer z, n + 1, _ => rfl
  | .ifT t, n + 1, h => by
    show PyData.tuple [.str "if", if isTup t.enc = true then plainD n t.enc else t.enc] = _
    rw [if_pos (isTup_enc t), plain_T t n (by simp only [Wth.dp] at h; omega)]
    rfl
  | .plus a b, n + 1, h => by
    simp only [Wth.dp] at h
    show PyData.tuple [.str "plus", if isTup a.enc = true then plainD n a.enc else a.enc, if isTup b.enc = true then plainD n b.enc else b.enc] = _
    rw [if_pos (isTup_encW a), if_pos (isTup_encW b), plain_W a n (by omega), plain_W b n (by omega)]
    rfl
  | .times a b, n + 1, h => by
    simp only [Wth.dp] at h
    show PyData.tuple [.str "times", if isTup a.enc = true then plainD n a.enc else a.enc, if isTup b.enc = true then plainD n b.enc else b.enc] = _
    rw [if_pos (isTup_encW a), if_pos (isTup_encW b), plain_W a n (by omega), plain_W b n (by omega)]
    rfl
theorem plain_ok {ns : List Str} : ∀ t : Tst, t.ok ns → t.plain.ok ns ∧ t.plain.dp ≤ t.dp
  | .all, _ => ⟨trivial, Nat.le_refl _⟩
  | .is _ _, h => ⟨h, Nat.le_refl _⟩
  | .blank _, _ => ⟨trivial, Nat.le_refl _⟩
  | .nt t, h => by
    obtain ⟨a, b⟩ := plain_ok t h
    exact ⟨a, Nat.succ_le_succ b⟩
  | .both a b, h => by
    obtain ⟨a1, a2⟩ := plain_ok a h.1
    obtain ⟨b1, b2⟩ := plain_ok b h.2
    exact ⟨⟨a1, b1⟩, by simp only [Tst.plain, Tst.dp]; omega⟩
  | .either a b, h => by
    obtain ⟨a1, a2⟩ := plain_ok a h.1
    obtain ⟨b1, b2⟩ := plain_ok b h.2
    exact ⟨⟨a1, b1⟩, by simp only [Tst.plain, Tst.dp]; omega⟩
theorem plain_okW {ns : List Str} : ∀ t : Wth, t.ok ns → t.plain.ok ns ∧ t.plain.dp ≤ t.dp
  | .number _, h => ⟨h, Nat.le_refl _⟩
  | .answer _, h => ⟨h, Nat.le_refl _⟩
  | .ifT t, h => by
    obtain ⟨a, b⟩ := plain_ok t h
    exact ⟨a, Nat.succ_le_succ b⟩
  | .plus a b, h => by
    obtain ⟨a1, a2⟩ := plain_okW a h.1
    obtain ⟨b1, b2⟩ := plain_okW b h.2
    exact ⟨⟨a1, b1⟩, by simp only [Wth.plain, Wth.dp]; omega⟩
  | .times a b, h => by
    obtain ⟨a1, a2⟩ := plain_okW a h.1
    obtain ⟨b1, b2⟩ := plain_okW b h.2
    exact ⟨⟨a1, b1⟩, by simp only [Wth.plain, Wth.dp]; omega⟩
/-! ### how they are shown -/
def wt (d : Nat) : Nat := 60 * 2 ^ d - 10
theorem wt_mono {a b : Nat} (h : a ≤ b) : wt a ≤ wt b := by
  have := Nat.pow_le_pow_right (show 0 < 2 by decide) h
  unfold wt
  omega
theorem wt_one (m : Nat) : 6 + 1 + (wt m + 1 + 0) ≤ wt (m + 1) := by
  have := Nat.one_le_two_pow (n := m)
  unfold wt
  rw [Nat.pow_succ]
  omega
theorem wt_two (m : Nat) : 6 + 1 + (wt m + 1 + (wt m + 1 + 0)) ≤ wt (m + 1) := by
  have := Nat.one_le_two_pow (n := m)
  unfold wt
  rw [Nat.pow_succ]
  omega
theorem tb_word {z : Str} (h : ∀ a ∈ z.cps.toList, a < 16 ^ 8 := by decide) (l : z.length ≤ 6 := by decide) : Tb 0 6 (.str z) := tb_str h l
theorem tb_nm1 {z : Str} (h : Nm z) : Tb 0 20 (.str z) := tb_str (fun a ha => Nat.lt_trans (h.2 a ha) (by decide)) h.1
theorem tb_small {n : Int} {b : Nat} (h : n.natAbs ≤ b) (hb : b < 2 ^ 100) : Tb 0 0 (.int n) := tb_int (Nat.lt_of_le_of_lt h (Nat.lt_of_lt_of_le hb (Nat.pow_le_pow_right (by decide) (by decide))))
theorem tb_two {z : Str} {a : PyData} {m : Nat} (hz : Tb 0 6 (.str z)) (ha : Tb m (wt m) a) : Tb (m + 1) (wt (m + 1)) (.tuple [.str z, a]) :=
  (TbAll.cons (hz.more (Nat.zero_le _) (Nat.le_refl _)) (.cons ha (TbAll.nil.more (Nat.zero_le _) (Nat.le_refl _)))).tuple.more (Nat.le_refl _) (wt_one m)
theorem tb_three {z : Str} {a b : PyData} {m n : Nat} (hz : Tb 0 6 (.str z)) (ha : Tb m (wt m) a) (hb : Tb n (wt n) b) : Tb (max m n + 1) (wt (max m n + 1)) (.tuple [.str z, a, b]) :=
  (TbAll.cons (hz.more (Nat.zero_le _) (Nat.le_refl _)) (.cons (ha.more (Nat.le_max_left _ _) (wt_mono (Nat.le_max_left _ _))) (.cons (hb.more (Nat.le_max_right _ _) (wt_mono (Nat.le_max_right _ _))) (TbAll.nil.more (Nat.zero_le _) (Nat.le_refl _))))).tuple.more (Nat.le_refl _) (wt_two _)
theorem tb_T {ns : List Str} (nm : ∀ z ∈ ns, Nm z) : ∀ (t : Tst), t.ok ns → Tb t.dp (wt t.dp) t.enc
  | .all, _ => (TbAll.cons (tb_word (z := "all")) .nil).tuple.more (Nat.le_refl _) (by show 6 + 1 + 0 ≤ 60 * 2 ^ 1 - 10; decide)
  | .is z n, h => (TbAll.cons (tb_word (z := "is")) (.cons (tb_nm1 (nm z h.1)) (.cons (tb_small h.2 (by decide)) .nil))).tuple.more (Nat.le_refl _) (by show 6 + 1 + (20 + 1 + (0 + 1 + 0)) ≤ 60 * 2 ^ 1 - 10; decide)
  | .blank z, h => (TbAll.cons (tb_word (z := "blank")) (.cons (tb_nm1 (nm z h)) .nil)).tuple.more (Nat.le_refl _) (by show 6 + 1 + (20 + 1 + 0) ≤ 60 * 2 ^ 1 - 10; decide)
  | .nt t, h => tb_two (tb_word (z := "not")) (tb_T nm t h)
  | .both x y, h => tb_three (tb_word (z := "both")) (tb_T nm x h.1) (tb_T nm y h.2)
  | .either x y, h => tb_three (tb_word (z := "either")) (tb_T nm x h.1) (tb_T nm y h.2)
theorem tb_W {ns : List Str} (nm : ∀ z ∈ ns, Nm z) : ∀ (t : Wth), t.ok ns → Tb t.dp (wt t.dp) t.enc
  | .number n, h => (TbAll.cons (tb_word (z := "number")) (.cons (tb_small h (by decide)) .nil)).tuple.more (Nat.le_refl _) (by show 6 + 1 + (0 + 1 + 0) ≤ 60 * 2 ^ 1 - 10; decide)
  | .answer z, h => (TbAll.cons (tb_word (z := "answer")) (.cons (tb_nm1 (nm z h)) .nil)).tuple.more (Nat.le_refl _) (by show 6 + 1 + (20 + 1 + 0) ≤ 60 * 2 ^ 1 - 10; decide)
  | .ifT t, h => tb_two (tb_word (z := "if")) (tb_T nm t h)
  | .plus x y, h => tb_three (tb_word (z := "plus")) (tb_W nm x h.1) (tb_W nm y h.2)
  | .times x y, h => tb_three (tb_word (z := "times")) (tb_W nm x h.1) (tb_W nm y h.2)
theorem wt4 {m : Nat} (h : m ≤ 4) : wt m ≤ 950 := Nat.le_trans (wt_mono h) (by decide)
/-! ### keys: a lot and a truth -/
abbrev Ky := List Str × List Int
def keyD (k : Ky) : PyData := .tuple [lotD k.1, rowD k.2]
theorem eqv_strs : ∀ a b : List Str, PyData.eqvAll (a.map PyData.str) (b.map PyData.str) = decide (a = b)
  | [], [] => by simp [PyData.eqvAll]
  | [], y :: b => by simp [PyData.eqvAll]
  | x :: a, [] => by simp [PyData.eqvAll]
  | x :: a, y :: b => by
    simp only [List.map_cons, PyData.eqvAll, eqv_strs a b, PyData.eqv, List.cons.injEq]
    by_cases h : x = y <;> by_cases g : a = b <;> simp [h, g]
theorem eqv_ints : ∀ a b : List Int, PyData.eqvAll (a.map PyData.int) (b.map PyData.int) = decide (a = b)
  | [], [] => by simp [PyData.eqvAll]
  | [], y :: b => by simp [PyData.eqvAll]
  | x :: a, [] => by simp [PyData.eqvAll]
  | x :: a, y :: b => by
    simp only [List.map_cons, PyData.eqvAll, eqv_ints a b, PyData.eqv, List.cons.injEq]
    by_cases h : x = y <;> by_cases g : a = b <;> simp [h, g]
theorem keyD_eqv (a b : Ky) : PyData.eqv (keyD a) (keyD b) = decide (a = b) := by
  obtain ⟨a1, a2⟩ := a
  obtain ⟨b1, b2⟩ := b
  simp only [keyD, lotD, rowD, PyData.eqv, PyData.eqvAll, eqv_strs, eqv_ints, Bool.and_true, Prod.mk.injEq]
  by_cases h : a1 = b1 <;> by_cases g : a2 = b2 <;> simp [h, g]
theorem keys_any (ks : List Ky) (k : Ky) : ((ks.map keyD).any fun z => PyData.eqv z (keyD k)) = decide (k ∈ ks) := by
  induction ks with
  | nil => simp
  | cons a ks ih =>
    rw [List.map_cons, List.any_cons, ih, keyD_eqv]
    by_cases h : a = k
    · simp [h]
    · have h' : ¬ k = a := fun e => h e.symm
      simp [h, h']
theorem lay_key {k : Ky} (h : ∀ z ∈ k.1, Nm z) : PyData.canLay0 (keyD k) = true := by
  simp [keyD, PyData.canLay0, PyData.canLayAll0, lotD, rowD, lay_strs h, lay_ints]
theorem depth_key (k : Ky) : (keyD k).depth = 2 := by
  simp [keyD, PyData.depth, PyData.depthAll, lotD, rowD, depth_strs, depth_ints]
theorem shaped_key {k : Ky} (h : ∀ z ∈ k.1, Nm z) : SeqAt.shaped (keyD k) = true := by
  show (PyData.canLay0 (keyD k) && decide ((keyD k).depth ≤ 64)) = true
  rw [lay_key h, depth_key]
  decide
theorem lay_keys : ∀ {ks : List Ky}, (∀ k ∈ ks, ∀ z ∈ k.1, Nm z) → PyData.canLayAll0 (ks.map keyD) = true
  | [], _ => by simp [PyData.canLayAll0]
  | k :: ks, h => by
    simp only [List.map_cons, PyData.canLayAll0, lay_key (h k List.mem_cons_self), lay_keys fun x hx => h x (List.mem_cons_of_mem _ hx), Bool.and_self]
theorem depth_keys : ∀ ks : List Ky, PyData.depthAll (ks.map keyD) ≤ 2
  | [] => by simp [PyData.depthAll]
  | k :: ks => by
    simp only [List.map_cons, PyData.depthAll, depth_key]
    exact Nat.max_le.mpr ⟨Nat.le_refl _, depth_keys ks⟩
theorem shaped_keys {ks : List Ky} (h : ∀ k ∈ ks, ∀ z ∈ k.1, Nm z) : SeqAt.shaped (.list (ks.map keyD)) = true := by
  show (PyData.canLay0 (.list (ks.map keyD)) && decide ((PyData.list (ks.map keyD)).depth ≤ 64)) = true
  have a := depth_keys ks
  rw [Bool.and_eq_true]
  refine ⟨by simp only [PyData.canLay0]; exact lay_keys h, decide_eq_true ?_⟩
  simp only [PyData.depth]
  omega
end As

set_option Elab.async false
set_option linter.all false
set_option maxRecDepth 100000
set_option maxHeartbeats 4000000
/-! K69a: the program's tests and worths. -/
namespace K69
open PySem PySem.Spec PyProof.Rows L2 Wb Wv Fm As
def topS (i : Nat) : Stmt := PySem.Challenge.pw_whyblank_k69_whole_tests_and_worths.main.body.getD i (.Pass ⟨0, 0, 0, 0⟩)
abbrev s_placeOf : Stmt := topS 4
abbrev s_holds : Stmt := topS 7
abbrev s_worthOf : Stmt := topS 8
abbrev s_isGiven : Stmt := topS 9
abbrev s_worthAt : Stmt := topS 10
abbrev s_asksBlanks : Stmt := topS 11
abbrev s_isPlain : Stmt := topS 12
abbrev s_deal : Stmt := topS 14
abbrev s_any : Stmt := topS 15
abbrev s_of : Stmt := topS 16
abbrev s_lnames : Stmt := topS 17
abbrev s_lquestions : Stmt := topS 18
abbrev s_lrows : Stmt := topS 19
abbrev s_ltruths : Stmt := topS 20
abbrev s_lwithin : Stmt := topS 21
abbrev s_llots : Stmt := topS 22
abbrev s_ltest : Stmt := topS 23
abbrev s_lworth : Stmt := topS 24
abbrev s_plainer : Stmt := topS 25
abbrev s_lkeys : Stmt := topS 26
abbrev s_lwhere : Stmt := topS 27
abbrev s_lworths : Stmt := topS 28
abbrev s_heads : Stmt := topS 29
abbrev s_law : Stmt := topS 30
/-! ### what each promises -/
def Small (qs : Qs) : Prop := qs.length ≤ 4 ∧ ∀ q ∈ qs, q.2 ≤ 4
structure QOk (qs : Qs) : Prop where
  sm : Small qs
  nm : ∀ z ∈ names qs, Nm z
structure KOk (qs : Qs) (k : Ky) : Prop where
  lot : ∀ z ∈ k.1, Nm z
  few : k.1.length ≤ 4
  len : k.2.length = qs.length
  sml : ∀ i ∈ k.2, i.natAbs ≤ 100
def askR (K : PySem.W.Frag) (C : Addr) (w : Wth) (t : Tst) : Rel := insR C [("worth", dat K w.enc), ("given", dat K t.enc)]
instance {K : PySem.W.Frag} {C : Addr} {w : Wth} {t : Tst} : Mo (askR K C w t) := by unfold askR; infer_instance
def spPlace (K : PySem.W.Frag) (C : Addr) : Sp := fun vs H Q _ => ∃ (x y : V) (B : Hp) (qs : Qs) (z : Str), vs = [x, y] ∧ Same B H ∧ formR K C qs B x ∧ dat K (.str z) B y ∧ QOk qs ∧ z ∈ names qs ∧ ∀ B' H', Ext B H B' H' → Q (.int ((names qs).idxOf z : Nat)) H'
abbrev spHolds (K : PySem.W.Frag) (C : Addr) (n : Nat) : Sp := Pf (α := Qs × Tst × Ky) (fun a => [formR K C a.1, dat K a.2.1.enc, dat K (lotD a.2.2.1), dat K (rowD a.2.2.2)]) (fun a => QOk a.1 ∧ a.2.1.dp ≤ n ∧ a.2.1.ok (names a.1) ∧ KOk a.1 a.2.2) (fun a => dat K (.bool (a.2.1.holds (names a.1) a.2.2.1 a.2.2.2)))
abbrev spWorth (K : PySem.W.Frag) (C : Addr) (n : Nat) : Sp := Pf (α := Qs × Wth × Ky) (fun a => [formR K C a.1, dat K a.2.1.enc, dat K (lotD a.2.2.1), dat K (rowD a.2.2.2)]) (fun a => QOk a.1 ∧ a.2.1.dp ≤ n ∧ a.2.1.dp ≤ 4 ∧ a.2.1.ok (names a.1) ∧ KOk a.1 a.2.2) (fun a => dat K (.int (a.2.1.val (names a.1) a.2.2.1 a.2.2.2)))
abbrev spBlanks (K : PySem.W.Frag) (n : Nat) : Sp := Pf (α := PyData) (fun d => [dat K d]) (fun d => Phr n d) (fun d => dat K (.bool (hasB n d)))
structure AOk (qs : Qs) (w : Wth) (t : Tst) : Prop where
  w4 : w.dp ≤ 4
  t4 : t.dp ≤ 4
  wk : w.ok (names qs)
  tk : t.ok (names qs)
abbrev sp_isGiven (K : PySem.W.Frag) (C CA : Addr) : Sp := Pf (α := Qs × (Wth × Tst) × Ky) (fun a => [formR K C a.1, askR K CA a.2.1.1 a.2.1.2, dat K (lotD a.2.2.1), dat K (rowD a.2.2.2)]) (fun a => QOk a.1 ∧ AOk a.1 a.2.1.1 a.2.1.2 ∧ KOk a.1 a.2.2) (fun a => dat K (.bool (a.2.1.2.holds (names a.1) a.2.2.1 a.2.2.2)))
abbrev sp_worthAt (K : PySem.W.Frag) (C CA : Addr) : Sp := Pf (α := Qs × (Wth × Tst) × Ky) (fun a => [formR K C a.1, askR K CA a.2.1.1 a.2.1.2, dat K (lotD a.2.2.1), dat K (rowD a.2.2.2)]) (fun a => QOk a.1 ∧ AOk a.1 a.2.1.1 a.2.1.2 ∧ KOk a.1 a.2.2) (fun a => dat K (.int (a.2.1.1.val (names a.1) a.2.2.1 a.2.2.2)))
abbrev sp_isPlain (K : PySem.W.Frag) (CA : Addr) : Sp := Pf (α := Wth × Tst) (fun a => [askR K CA a.1 a.2]) (fun a => a.1.dp ≤ 4 ∧ a.2.dp ≤ 4) (fun a => dat K (.bool (!hasB 4 a.1.enc && !hasB 4 a.2.enc)))
theorem dats_bls {K : PySem.W.Frag} {B : Hp} : ∀ {ns : List Bool} {xs : List V}, AllR (ns.map fun n => dat K (.bool n)) B xs → xs = ns.map V.bl
  | [], xs, h => h
  | n :: ns, xs, ⟨v, u, e, h, t⟩ => by
    rw [e, dat_bl h, dats_bls t]
    rfl
theorem rc_any {K : PySem.W.Frag} {B : Hp} {bs : List Bool} : Rc (rAny K) B [dat K (.list (bs.map .bool))] (dat K (.bool (bs.any id))) := fun vs B1 H _ s2 hv Q q => by
  obtain ⟨v, r, rfl, h, h2⟩ := hv
  have h2 : r = [] := h2
  subst h2
  obtain ⟨a, xs, rfl, hs, hR⟩ := dat_lstR h
  rw [List.map_map] at hR
  have e := dats_bls (K := K) (ns := bs) hR
  subst e
  exact ⟨a, bs, rfl, s2.seq hs, q _ B1 H (.refl s2) (.bl _)⟩
theorem rc_intB {K : PySem.W.Frag} {B : Hp} {b : Bool} : Rc (fun xs H Q => (∃ i, xs = [.int i] ∧ Q (.int i) H) ∨ ∃ k, xs = [.bl k] ∧ Q (.int (if k then 1 else 0)) H) B [dat K (.bool b)] (dat K (.int (if b then 1 else 0))) := fun vs B1 H _ s2 hv Q q => by
  obtain ⟨v, r, rfl, h, h2⟩ := hv
  have h2 : r = [] := h2
  subst h2
  exact .inr ⟨b, by rw [dat_bl h], q _ B1 H (.refl s2) (.int _)⟩
theorem idxOf_first : ∀ {l : List Str} {i : Nat} {z : Str}, l[i]? = some z → z ∉ l.take i → l.idxOf z = i
  | [], i, z, h, _ => by simp at h
  | a :: l, 0, z, h, _ => by
    simp at h
    rw [h]
    simp
  | a :: l, i + 1, z, h, n => by
    rw [List.take_succ_cons] at n
    have n1 : a ≠ z := fun e => n (by rw [e]; exact List.mem_cons_self)
    have n2 : z ∉ l.take i := fun e => n (List.mem_cons_of_mem _ e)
    have := idxOf_first (l := l) (i := i) (by simpa using h) n2
    have e : (a == z) = false := by simpa using n1
    rw [List.idxOf_cons, e, this]
    rfl
/-- a def that nothing is asked of -/
theorem none_cal {P : Program} {w : World} {K : PySem.W.Frag} {mg : Str → Option Value} {base : Heap} {x : Str} {st : Stmt} {ps : List Str} (k : Nat) (D : Def K mg x st ps) : Cal P w K mg base CX0 k x st ps (fun _ _ _ _ => False) := by
  obtain ⟨f, fd, F, m, b, o⟩ := D
  exact ⟨f, fd, ⟨fun _ _ _ _ h => h.elim, fun _ _ _ _ _ _ _ _ _ _ _ _ _ h => h.elim⟩, m, F.kp, b, o⟩
section
variable {P : Program} {w : World} {K : PySem.W.Frag} {mg : Str → Option Value} {base : Heap} {C_Form C_Ask C_NoName : Addr}
theorem fldQ {σ : L2.St} {B : Hp} {te : TE} {qs : Qs} (K_Form : CalC P w K mg base "Form" C_Form ["questions"]) (h : De te σ B (formR K C_Form qs)) : De (tFld K te "questions") σ B (dat K (qsD qs)) :=
  De.fld h K_Form.c (K_Form.na _ (by simp)) rfl
theorem fldW {σ : L2.St} {B : Hp} {te : TE} {w' : Wth} {t : Tst} (K_Ask : CalC P w K mg base "Ask" C_Ask ["worth", "given"]) (h : De te σ B (askR K C_Ask w' t)) : De (tFld K te "worth") σ B (dat K w'.enc) :=
  De.fld h K_Ask.c (K_Ask.na _ (by simp)) rfl
theorem fldT {σ : L2.St} {B : Hp} {te : TE} {w' : Wth} {t : Tst} (K_Ask : CalC P w K mg base "Ask" C_Ask ["worth", "given"]) (h : De te σ B (askR K C_Ask w' t)) : De (tFld K te "given") σ B (dat K t.enc) :=
  De.fld h K_Ask.c (K_Ask.na _ (by simp)) rfl
theorem De.place {σ : L2.St} {B : Hp} {ta tb : TE} {qs : Qs} {z : Str} {E : XK} (ha : De ta σ B (formR K C_Form qs)) (hb : De tb σ B (dat K (.str z))) (ok : QOk qs) (hz : z ∈ names qs) :
    De (tCall (fun vs H Q _ => spPlace K C_Form vs H Q fun _ _ _ => False) [] E (tCons ta (tCons tb tNil))) σ B (dat K (.int ((names qs).idxOf z : Nat))) := fun B1 H s1 s2 Q q =>
  (Da.cons ha (Da.cons hb Da.nil)) B1 H s1 s2 _ fun vs B2 H2 e hvs => by
    obtain ⟨x, r, rfl, hx, y, r', rfl, hy, hr⟩ := hvs
    have hr : r' = [] := hr
    subst hr
    exact ⟨x, y, B2, qs, z, rfl, e.bh, hx, hy, ok, hz, fun B' H' e' => q _ B' H' (e.trans e') (Dp.int _)⟩
/-- the answer to a question -/
theorem De.answer {σ : L2.St} {B : Hp} {ta tb : TE} {qs : Qs} {k : Ky} {z : Str} (ht : De ta σ B (dat K (rowD k.2))) (hi : De tb σ B (dat K (.int ((names qs).idxOf z : Nat)))) (ok : KOk qs k) (hz : z ∈ names qs) :
    De (tOp (rIxT K) ta tb) σ B (dat K (.int (k.2.getD ((names qs).idxOf z) 0))) := by
  have lt : (names qs).idxOf z < k.2.length := by
    have := List.idxOf_lt_length_of_mem hz
    rw [ok.len]
    unfold names at this
    rw [List.length_map] at this
    exact this
  refine De.op ht hi (Rv.ixTD (atI_nat ?_))
  rw [List.getElem?_map, List.getElem?_eq_getElem lt, List.getD_eq_getElem?_getD, List.getElem?_eq_getElem lt]
  rfl
theorem sc_placeOf : FnScope ["form", "name", "place", "question"] ["form", "name"] (defScope s_placeOf) := ⟨rfl, rfl, rfl, by decide +kernel, rfl, by decide +kernel, by decide +kernel⟩
theorem ok_placeOf (D : Def K mg "place_of" s_placeOf ["form", "name"]) (n_enumerate : mg "enumerate" = none) (Z_NoName : Err P w K mg base "NoName" "name" C_NoName topK) (K_Form : CalC P w K mg base "Form" C_Form ["questions"]) : Cal P w K mg base (L2.CX P w) 3 "place_of" s_placeOf ["form", "name"] (spPlace K C_Form) := by
  refine D.okX sc_placeOf (fun vs H Q E h => ?_) (fun cdv f A outer s H vs Q E hr h => ?_)
  · obtain ⟨x, y, B, qs, z, rfl, _⟩ := h
    rfl
  obtain ⟨x, y, B, qs, z, rfl, hB, hx, hy, ok, hz, k⟩ := h
  refine ⟨_, (pss_cons (ps_for PassesOwn.leaving rfl (pi_enumT (by rfl) n_enumerate (pa_cons (pe_fld (pv 0) rfl) pa_nil)) (pg_tup rfl (pgs_cons (pg_name (i := 2) sc_placeOf.nd rfl (Or.inl rfl)) (pgs_cons (pg_name (i := 3) sc_placeOf.nd rfl (Or.inl rfl)) pgs_nil))) (pss_one (ps_if (pt_cmpR op_eq (pe_ix ix_tup (pv 3) pe_int (fun _ _ => rfl)) (pv 1) (nomark _)) (pss_one (ps_ret (pv 2))) pss_nil)))
    (pss_one (ps_raise rfl (takes_of rfl rfl rfl rfl) (pmk_E Z_NoName hr (by decide) rfl (pa_cons (pv 1) pa_nil))))), ?_⟩
  have hy := dat_str hy
  subst hy
  refine s_forS (Di.enumTM (K := K) (as := qs) (f := encQ) (fldQ K_Form (.var hx rfl))) hB (fun i σ B => ∃ v2 v3, σ = [some x, some (.str z), v2, v3] ∧ z ∉ (names qs).take i) (fun B' s => ⟨_, _, rfl, by rw [List.take_zero]; exact List.not_mem_nil⟩) ?_ ?_
  · rintro B2 H2 e2 i R u σ' Bc Bn Hn hR ⟨v2, v3, rfl, hn⟩ s e hu
    rw [List.getElem?_map] at hR
    obtain ⟨p, hp, rfl⟩ := Option.map_eq_some_iff.mp hR
    rw [List.getElem?_zipIdx] at hp
    obtain ⟨q, hq, rfl⟩ := Option.map_eq_some_iff.mp hp
    obtain ⟨y, w, hy, hw, go⟩ := gTup2 e.bh hu
    refine go _ ?_
    have hy := dat_int hy
    subst hy
    have hni : (names qs)[i]? = some q.1 := by
      unfold names
      rw [List.getElem?_map, hq]
      rfl
    have lt := (List.getElem?_eq_some_iff.mp hni).1
    refine s_if (Dt.tB (K := K) (De.op (r := rEq) (De.op (r := rIxT K) (.var hw rfl) .int (Rv.ixTD rfl)) (.var (Dp.str z) rfl) Rv.eqS)) e.bh (fun t B' H' e' => ?_) fun f B' H' e' => ?_
    · have t : q.1 = z := of_decide_eq_true t
      refine s_ret (R := dat K (.int (i : Int))) (.var (Dp.int _) (by simp)) e'.bh fun v B H e'' hv => ?_
      have hv := dat_int hv
      subst hv
      have e1 : (names qs).idxOf z = i := by
        have ig : (names qs)[i] = z := by rw [← t]; exact (List.getElem?_eq_some_iff.mp hni).2
        exact idxOf_first (by rw [hni, t]) hn
      have k := k B H (((e2.trans e).trans e').trans e'')
      rw [e1] at k
      exact k
    · have f : q.1 ≠ z := of_decide_eq_false f
      refine ⟨B', e.trans e', _, _, rfl, fun hz => ?_⟩
      rw [take_snoc hni] at hz
      rcases List.mem_append.mp hz with h | h
      · exact hn h
      · exact f (List.mem_singleton.mp h).symm
  · rintro σ' B' H' e2 ⟨v2, v3, rfl, hn⟩
    refine absurd hz ?_
    rw [List.length_map, List.length_zipIdx, List.take_of_length_le (by unfold names; rw [List.length_map]; exact Nat.le_refl _)] at hn
    exact hn
theorem sc_holds : FnScope ["form", "test", "lot", "truth", "word"] ["form", "test", "lot", "truth"] (defScope s_holds) := ⟨rfl, rfl, rfl, by decide +kernel, rfl, by decide +kernel, by decide +kernel⟩
theorem step_holds {n : Nat} (D : Def K mg "holds" s_holds ["form", "test", "lot", "truth"]) (C_placeOf : Cal P w K mg base (L2.CX P w) 3 "place_of" s_placeOf ["form", "name"] (spPlace K C_Form)) (C_holds : Cal P w K mg base CX0 (n + 3) "holds" s_holds ["form", "test", "lot", "truth"] (spHolds K C_Form n)) : Cal P w K mg base CX0 (n + 4) "holds" s_holds ["form", "test", "lot", "truth"] (spHolds K C_Form (n + 1)) := by
  refine D.ok sc_holds (fun vs H Q E h => ?_) (fun cdv f A outer s H vs Q E hr h => ?_)
  · exact pf_len h fun _ => rfl
  replace h := pf4 h
  obtain ⟨v, v1, v2, v3, B, ⟨qs, t, ky⟩, rfl, hB, hv, hv1, hv2, hv3, ⟨qk, dp, tk, kk⟩, k⟩ := h
  refine ⟨_, (pss_cons (ps_set (i := 4) sc_holds.nd rfl (Or.inl rfl) (pe_ix ix_tup (pv 1) pe_int (fun _ _ => rfl)))
    (pss_cons (ps_if (pt_cmpR op_eq (pv 4) pe_str (nomark _)) (pss_one (ps_ret pe_bl)) pss_nil)
    (pss_cons (ps_if (pt_cmpR op_eq (pv 4) pe_str (nomark _)) (pss_one (ps_ret (pe_cmpR op_eq (pe_ix ix_tup (pv 3) (pe_cal C_placeOf.quiet (hr.mono (by omega)) (by rfl) pass0 (pa_cons (pv 0) (pa_cons (pe_ix ix_tup (pv 1) pe_int (fun _ _ => rfl)) pa_nil))) (fun _ _ => rfl)) (pe_ix ix_tup (pv 1) pe_int (fun _ _ => rfl)) (nomark _)))) pss_nil)
    (pss_cons (ps_if (pt_cmpR op_eq (pv 4) pe_str (nomark _)) (pss_one (ps_ret (pe_cmpR (op_inT hr.u65) (pe_ix ix_tup (pv 1) pe_int (fun _ _ => rfl)) (pv 2) rfl))) pss_nil)
    (pss_cons (ps_if (pt_cmpR op_eq (pv 4) pe_str (nomark _)) (pss_one (ps_ret (pe_not (pe_cal C_holds (hr.mono (by omega)) (by rfl) pass0 (pa_cons (pv 0) (pa_cons (pe_ix ix_tup (pv 1) pe_int (fun _ _ => rfl)) (pa_cons (pv 2) (pa_cons (pv 3) pa_nil)))))))) pss_nil)
    (pss_cons (ps_if (pt_cmpR op_eq (pv 4) pe_str (nomark _)) (pss_one (ps_ret (pe_and (pe_cal C_holds (hr.mono (by omega)) (by rfl) pass0 (pa_cons (pv 0) (pa_cons (pe_ix ix_tup (pv 1) pe_int (fun _ _ => rfl)) (pa_cons (pv 2) (pa_cons (pv 3) pa_nil))))) (pe_one (pe_cal C_holds (hr.mono (by omega)) (by rfl) pass0 (pa_cons (pv 0) (pa_cons (pe_ix ix_tup (pv 1) pe_int (fun _ _ => rfl)) (pa_cons (pv 2) (pa_cons (pv 3) pa_nil))))))))) pss_nil)
    (pss_one (ps_ret (pe_or (pe_cal C_holds (hr.mono (by omega)) (by rfl) pass0 (pa_cons (pv 0) (pa_cons (pe_ix ix_tup (pv 1) pe_int (fun _ _ => rfl)) (pa_cons (pv 2) (pa_cons (pv 3) pa_nil))))) (pe_one (pe_cal C_holds (hr.mono (by omega)) (by rfl) pass0 (pa_cons (pv 0) (pa_cons (pe_ix ix_tup (pv 1) pe_int (fun _ _ => rfl)) (pa_cons (pv 2) (pa_cons (pv 3) pa_nil))))))))))))))), ?_⟩
  have hv : formR K C_Form qs B v := hv
  have hv1 : dat K t.enc B v1 := hv1
  have hv2 : dat K (lotD ky.1) B v2 := hv2
  have hv3 : dat K (rowD ky.2) B v3 := hv3
  have dp : t.dp ≤ n + 1 := dp
  have k : ∀ (v : V) (B' H' : Hp), Ext B H B' H' → dat K (.bool (t.holds (names qs) ky.1 ky.2)) B' v → Q v H' := k
  have self : ∀ {σ : L2.St} {B : Hp} {tb : TE} {t' : Tst} {E : XK}, De (tVar 0) σ B (formR K C_Form qs) → De tb σ B (dat K t'.enc) → De (tVar 2) σ B (dat K (lotD ky.1)) → De (tVar 3) σ B (dat K (rowD ky.2)) → t'.dp ≤ n → t'.ok (names qs) →
      De (tCall (spHolds K C_Form n) [] E (tCons (tVar 0) (tCons tb (tCons (tVar 2) (tCons (tVar 3) tNil))))) σ B (dat K (.bool (t'.holds (names qs) ky.1 ky.2))) := fun h0 h1 h2 h3 d o =>
    De.call (qs, _, ky) (.cons h0 (.cons h1 (.cons h2 (.one h3)))) ⟨qk, d, o, kk⟩
  have word : ∀ {w : Str} {r : List PyData}, t.enc = .tuple (.str w :: r) → De (tOp (rIxT K) (tVar 1) (tC (.int 0))) [some v, some v1, some v2, some v3, none] B (dat K (.str w)) := fun e => .op (.var (by rw [e] at hv1; exact hv1) rfl) .int (Rv.ixTD (i := ((0 : Nat) : Int)) (atI_nat rfl))
  have no : ∀ {w z : Str} {B : Hp}, w ≠ z → Dt (tTest (tOp rEq (tVar 4) (tC (.str z)))) [some v, some v1, some v2, some v3, some (.str w)] B false := fun h => Dt.eq (.test (K := K) (.op (.var (Dp.str _) rfl) .str Rv.eqS)) (decide_eq_false h)
  have yes : ∀ {w : Str} {B : Hp}, Dt (tTest (tOp rEq (tVar 4) (tC (.str w)))) [some v, some v1, some v2, some v3, some (.str w)] B true := Dt.eq (.test (K := K) (.op (.var (Dp.str _) rfl) .str Rv.eqS)) (decide_eq_true rfl)
  cases t with
  | all =>
    refine s_set (word rfl) hB fun u B1 H1 e1 h => ?_
    have h := dat_str h
    subst h
    refine s_ifS yes e1.bh (fun _ B2 H2 e2 => ?_) fun z => nomatch z
    exact s_ret (De.bl (K := K)) e2.bh fun v B H e h => k v B H ((e1.trans e2).trans e) h
  | is z m =>
    refine s_set (word rfl) hB fun u B1 H1 e1 h => ?_
    have h := dat_str h
    subst h
    refine s_skip (no (by decide)) e1.bh fun B2 H2 e2 => ?_
    refine s_ifS yes e2.bh (fun _ B3 H3 e3 => ?_) fun z => nomatch z
    have e := (e1.trans e2).trans e3
    refine s_ret (De.op (r := rEq) (De.answer (qs := qs) (k := ky) (z := z) (.var (Mo.mo e.bb hv3) rfl) (De.place (.var (Mo.mo e.bb hv) rfl) (.op (.var (Mo.mo e.bb hv1) rfl) .int (Rv.ixTD rfl)) qk tk.1) kk tk.1) (.op (.var (Mo.mo e.bb hv1) rfl) .int (Rv.ixTD rfl)) Rv.eqI) e3.bh fun v B H e' h => k v B H (e.trans e') h
  | blank z =>
    refine s_set (word rfl) hB fun u B1 H1 e1 h => ?_
    have h := dat_str h
    subst h
    refine s_skip (no (by decide)) e1.bh fun B2 H2 e2 => ?_
    refine s_skip (no (by decide)) e2.bh fun B3 H3 e3 => ?_
    refine s_ifS yes e3.bh (fun _ B4 H4 e4 => ?_) fun z => nomatch z
    have e := ((e1.trans e2).trans e3).trans e4
    refine s_ret (De.eq (De.op (r := rInT K false) (De.op (T := dat K (.str z)) (.var (Mo.mo e.bb hv1) rfl) .int (Rv.ixTD rfl)) (.var (Mo.mo e.bb hv2) rfl) (Rv.inT (shaped_str (qk.nm z tk)) (shaped_lot kk.lot))) (e := .bool (decide (z ∈ ky.1))) (by rw [any_strs])) e4.bh fun v B H e' h => k v B H (e.trans e') h
  | nt t =>
    refine s_set (word rfl) hB fun u B1 H1 e1 h => ?_
    have h := dat_str h
    subst h
    refine s_skip (no (by decide)) e1.bh fun B2 H2 e2 => ?_
    refine s_skip (no (by decide)) e2.bh fun B3 H3 e3 => ?_
    refine s_skip (no (by decide)) e3.bh fun B4 H4 e4 => ?_
    refine s_ifS yes e4.bh (fun _ B5 H5 e5 => ?_) fun z => nomatch z
    have e := (((e1.trans e2).trans e3).trans e4).trans e5
    exact s_ret (De.notV (self (.var (Mo.mo e.bb hv) rfl) (.op (.var (Mo.mo e.bb hv1) rfl) .int (Rv.ixTD rfl)) (.var (Mo.mo e.bb hv2) rfl) (.var (Mo.mo e.bb hv3) rfl) (by simp only [Tst.dp] at dp; omega) tk)) e5.bh fun v B H e' h => k v B H (e.trans e') h
  | both a b =>
    refine s_set (word rfl) hB fun u B1 H1 e1 h => ?_
    have h := dat_str h
    subst h
    refine s_skip (no (by decide)) e1.bh fun B2 H2 e2 => ?_
    refine s_skip (no (by decide)) e2.bh fun B3 H3 e3 => ?_
    refine s_skip (no (by decide)) e3.bh fun B4 H4 e4 => ?_
    refine s_skip (no (by decide)) e4.bh fun B5 H5 e5 => ?_
    refine s_ifS yes e5.bh (fun _ B6 H6 e6 => ?_) fun z => nomatch z
    have e := ((((e1.trans e2).trans e3).trans e4).trans e5).trans e6
    simp only [Tst.dp] at dp
    exact s_ret (De.andV (self (.var (Mo.mo e.bb hv) rfl) (.op (.var (Mo.mo e.bb hv1) rfl) .int (Rv.ixTD rfl)) (.var (Mo.mo e.bb hv2) rfl) (.var (Mo.mo e.bb hv3) rfl) (by omega) tk.1) fun _ => self (.var (Mo.mo e.bb hv) rfl) (.op (.var (Mo.mo e.bb hv1) rfl) .int (Rv.ixTD rfl)) (.var (Mo.mo e.bb hv2) rfl) (.var (Mo.mo e.bb hv3) rfl) (by omega) tk.2) e6.bh fun v B H e' h => k v B H (e.trans e') h
  | either a b =>
    refine s_set (word rfl) hB fun u B1 H1 e1 h => ?_
    have h := dat_str h
    subst h
    refine s_skip (no (by decide)) e1.bh fun B2 H2 e2 => ?_
    refine s_skip (no (by decide)) e2.bh fun B3 H3 e3 => ?_
    refine s_skip (no (by decide)) e3.bh fun B4 H4 e4 => ?_
    refine s_skip (no (by decide)) e4.bh fun B5 H5 e5 => ?_
    refine s_skip (no (by decide)) e5.bh fun B6 H6 e6 => ?_
    have e := ((((e1.trans e2).trans e3).trans e4).trans e5).trans e6
    simp only [Tst.dp] at dp
    exact s_ret (De.orV (self (.var (Mo.mo e.bb hv) rfl) (.op (.var (Mo.mo e.bb hv1) rfl) .int (Rv.ixTD rfl)) (.var (Mo.mo e.bb hv2) rfl) (.var (Mo.mo e.bb hv3) rfl) (by omega) tk.1) fun _ => self (.var (Mo.mo e.bb hv) rfl) (.op (.var (Mo.mo e.bb hv1) rfl) .int (Rv.ixTD rfl)) (.var (Mo.mo e.bb hv2) rfl) (.var (Mo.mo e.bb hv3) rfl) (by omega) tk.2) e6.bh fun v B H e' h => k v B H (e.trans e') h
theorem ok_holds (D : Def K mg "holds" s_holds ["form", "test", "lot", "truth"]) (C_placeOf : Cal P w K mg base (L2.CX P w) 3 "place_of" s_placeOf ["form", "name"] (spPlace K C_Form)) : ∀ n : Nat, Cal P w K mg base CX0 (n + 3) "holds" s_holds ["form", "test", "lot", "truth"] (spHolds K C_Form n)
  | 0 => (none_cal 3 D).weaken fun vs H Q E ⟨B, a, _, _, ⟨_, dp, _⟩, _⟩ => by
    have := a.2.1.dp_pos
    have dp : a.2.1.dp ≤ 0 := dp
    omega
  | n + 1 => step_holds D C_placeOf (ok_holds D C_placeOf n)
theorem sc_worthOf : FnScope ["form", "worth", "lot", "truth", "word", "one", "other"] ["form", "worth", "lot", "truth"] (defScope s_worthOf) := ⟨rfl, rfl, rfl, by decide +kernel, rfl, by decide +kernel, by decide +kernel⟩
theorem step_worthOf {n : Nat} (D : Def K mg "worth_of" s_worthOf ["form", "worth", "lot", "truth"]) (C_placeOf : Cal P w K mg base (L2.CX P w) 3 "place_of" s_placeOf ["form", "name"] (spPlace K C_Form)) (C_holds : Cal P w K mg base CX0 7 "holds" s_holds ["form", "test", "lot", "truth"] (spHolds K C_Form 4)) (n_int : mg "int" = none) (C_worthOf : Cal P w K mg base CX0 (n + 8) "worth_of" s_worthOf ["form", "worth", "lot", "truth"] (spWorth K C_Form n)) : Cal P w K mg base CX0 (n + 9) "worth_of" s_worthOf ["form", "worth", "lot", "truth"] (spWorth K C_Form (n + 1)) := by
  refine D.ok sc_worthOf (fun vs H Q E h => ?_) (fun cdv f A outer s H vs Q E hr h => ?_)
  · exact pf_len h fun _ => rfl
  replace h := pf4 h
  obtain ⟨v, v1, v2, v3, B, ⟨qs, t, ky⟩, rfl, hB, hv, hv1, hv2, hv3, ⟨qk, dp, d4, tk, kk⟩, k⟩ := h
  refine ⟨_, (pss_cons (ps_set (i := 4) sc_worthOf.nd rfl (Or.inl rfl) (pe_ix ix_tup (pv 1) pe_int (fun _ _ => rfl)))
    (pss_cons (ps_if (pt_cmpR op_eq (pv 4) pe_str (nomark _)) (pss_one (ps_ret (pe_ix ix_tup (pv 1) pe_int (fun _ _ => rfl)))) pss_nil)
    (pss_cons (ps_if (pt_cmpR op_eq (pv 4) pe_str (nomark _)) (pss_one (ps_ret (pe_ix ix_tup (pv 3) (pe_cal C_placeOf.quiet (hr.mono (by omega)) (by rfl) pass0 (pa_cons (pv 0) (pa_cons (pe_ix ix_tup (pv 1) pe_int (fun _ _ => rfl)) pa_nil))) (fun _ _ => rfl)))) pss_nil)
    (pss_cons (ps_if (pt_cmpR op_eq (pv 4) pe_str (nomark _)) (pss_one (ps_ret (pe_callTy call_int1 (by rfl) n_int (by decide +kernel) (pa_cons (pe_cal C_holds (hr.mono (by omega)) (by rfl) pass0 (pa_cons (pv 0) (pa_cons (pe_ix ix_tup (pv 1) pe_int (fun _ _ => rfl)) (pa_cons (pv 2) (pa_cons (pv 3) pa_nil))))) pa_nil)))) pss_nil)
    (pss_cons (ps_par (i := 5) (j := 6) rfl sc_worthOf.nd rfl rfl (by decide) rfl rfl (pa_cons (pe_cal C_worthOf (hr.mono (by omega)) (by rfl) pass0 (pa_cons (pv 0) (pa_cons (pe_ix ix_tup (pv 1) pe_int (fun _ _ => rfl)) (pa_cons (pv 2) (pa_cons (pv 3) pa_nil))))) (pa_cons (pe_cal C_worthOf (hr.mono (by omega)) (by rfl) pass0 (pa_cons (pv 0) (pa_cons (pe_ix ix_tup (pv 1) pe_int (fun _ _ => rfl)) (pa_cons (pv 2) (pa_cons (pv 3) pa_nil))))) pa_nil)) (by rfl))
    (pss_one (ps_ret (pe_ifExp (pt_cmpR op_eq (pv 4) pe_str (nomark _)) (pe_op op_add (pv 5) (pv 6)) (pe_op op_mulW (pv 5) (pv 6)))))))))), ?_⟩
  have hv : formR K C_Form qs B v := hv
  have hv1 : dat K t.enc B v1 := hv1
  have hv2 : dat K (lotD ky.1) B v2 := hv2
  have hv3 : dat K (rowD ky.2) B v3 := hv3
  have dp : t.dp ≤ n + 1 := dp
  have d4 : t.dp ≤ 4 := d4
  have k : ∀ (v : V) (B' H' : Hp), Ext B H B' H' → dat K (.int (t.val (names qs) ky.1 ky.2)) B' v → Q v H' := k
  have self : ∀ {σ : L2.St} {B : Hp} {tb : TE} {t' : Wth} {E : XK}, De (tVar 0) σ B (formR K C_Form qs) → De tb σ B (dat K t'.enc) → De (tVar 2) σ B (dat K (lotD ky.1)) → De (tVar 3) σ B (dat K (rowD ky.2)) → t'.dp ≤ n → t'.dp ≤ 4 → t'.ok (names qs) →
      De (tCall (spWorth K C_Form n) [] E (tCons (tVar 0) (tCons tb (tCons (tVar 2) (tCons (tVar 3) tNil))))) σ B (dat K (.int (t'.val (names qs) ky.1 ky.2))) := fun h0 h1 h2 h3 d d4 o =>
    De.call (qs, _, ky) (.cons h0 (.cons h1 (.cons h2 (.one h3)))) ⟨qk, d, d4, o, kk⟩
  have word : ∀ {w : Str} {r : List PyData}, t.enc = .tuple (.str w :: r) → De (tOp (rIxT K) (tVar 1) (tC (.int 0))) [some v, some v1, some v2, some v3, none, none, none] B (dat K (.str w)) := fun e => .op (.var (by rw [e] at hv1; exact hv1) rfl) .int (Rv.ixTD (i := ((0 : Nat) : Int)) (atI_nat rfl))
  have no : ∀ {w z : Str} {B : Hp} {x y : Option V}, w ≠ z → Dt (tTest (tOp rEq (tVar 4) (tC (.str z)))) [some v, some v1, some v2, some v3, some (.str w), x, y] B false := fun h => Dt.eq (.test (K := K) (.op (.var (Dp.str _) rfl) .str Rv.eqS)) (decide_eq_false h)
  have yes : ∀ {w : Str} {B : Hp} {x y : Option V}, Dt (tTest (tOp rEq (tVar 4) (tC (.str w)))) [some v, some v1, some v2, some v3, some (.str w), x, y] B true := Dt.eq (.test (K := K) (.op (.var (Dp.str _) rfl) .str Rv.eqS)) (decide_eq_true rfl)
  have lt480 : ∀ {a : Wth}, a.ok (names qs) → a.dp ≤ 4 → (a.val (names qs) ky.1 ky.2).natAbs < 2 ^ 500 := fun {a} ha h4 => Nat.lt_of_lt_of_le (a.val_lt kk.sml ha) (Nat.pow_le_pow_right (by decide) (by
    have := Nat.pow_le_pow_right (show 0 < 2 by decide) h4
    omega))
  cases t with
  | number m =>
    refine s_set (word rfl) hB fun u B1 H1 e1 h => ?_
    have h := dat_str h
    subst h
    refine s_ifS yes e1.bh (fun _ B2 H2 e2 => ?_) fun z => nomatch z
    have e := e1.trans e2
    exact s_ret (De.op (.var (Mo.mo e.bb hv1) rfl) .int (Rv.ixTD rfl)) e2.bh fun v B H e' h => k v B H (e.trans e') h
  | answer z =>
    refine s_set (word rfl) hB fun u B1 H1 e1 h => ?_
    have h := dat_str h
    subst h
    refine s_skip (no (by decide)) e1.bh fun B2 H2 e2 => ?_
    refine s_ifS yes e2.bh (fun _ B3 H3 e3 => ?_) fun z => nomatch z
    have e := (e1.trans e2).trans e3
    refine s_ret (De.answer (qs := qs) (k := ky) (z := z) (.var (Mo.mo e.bb hv3) rfl) (De.place (.var (Mo.mo e.bb hv) rfl) (.op (.var (Mo.mo e.bb hv1) rfl) .int (Rv.ixTD rfl)) qk tk) kk tk) e3.bh fun v B H e' h => k v B H (e.trans e') h
  | ifT t =>
    refine s_set (word rfl) hB fun u B1 H1 e1 h => ?_
    have h := dat_str h
    subst h
    refine s_skip (no (by decide)) e1.bh fun B2 H2 e2 => ?_
    refine s_skip (no (by decide)) e2.bh fun B3 H3 e3 => ?_
    refine s_ifS yes e3.bh (fun _ B4 H4 e4 => ?_) fun z => nomatch z
    have e := ((e1.trans e2).trans e3).trans e4
    refine s_ret (De.cb (.one (De.call (qs, t, ky) (.cons (.var (Mo.mo e.bb hv) rfl) (.cons (.op (.var (Mo.mo e.bb hv1) rfl) .int (Rv.ixTD rfl)) (.cons (.var (Mo.mo e.bb hv2) rfl) (.one (.var (Mo.mo e.bb hv3) rfl))))) ⟨qk, by simp only [Wth.dp] at d4; show t.dp ≤ 4; omega, tk, kk⟩)) rc_intB) e4.bh fun v B H e' h => k v B H (e.trans e') h
  | plus a b =>
    refine s_set (word rfl) hB fun u B1 H1 e1 h => ?_
    have h := dat_str h
    subst h
    refine s_skip (no (by decide)) e1.bh fun B2 H2 e2 => ?_
    refine s_skip (no (by decide)) e2.bh fun B3 H3 e3 => ?_
    refine s_skip (no (by decide)) e3.bh fun B4 H4 e4 => ?_
    have e := ((e1.trans e2).trans e3).trans e4
    simp only [Wth.dp] at dp d4
    refine s_par (R := dat K (.int (a.val (names qs) ky.1 ky.2))) (S := dat K (.int (b.val (names qs) ky.1 ky.2))) (.cons (self (.var (Mo.mo e.bb hv) rfl) (.op (.var (Mo.mo e.bb hv1) rfl) .int (Rv.ixTD rfl)) (.var (Mo.mo e.bb hv2) rfl) (.var (Mo.mo e.bb hv3) rfl) (by omega) (by omega) tk.1) (.one (self (.var (Mo.mo e.bb hv) rfl) (.op (.var (Mo.mo e.bb hv1) rfl) .int (Rv.ixTD rfl)) (.var (Mo.mo e.bb hv2) rfl) (.var (Mo.mo e.bb hv3) rfl) (by omega) (by omega) tk.2))) e4.bh fun x y B5 H5 e5 hx hy => ?_
    exact s_ret (De.ite (Dt.eq (.test (K := K) (.op (.var (Dp.str _) rfl) .str Rv.eqS)) (decide_eq_true rfl)) (fun _ => De.op (.var hx rfl) (.var hy rfl) Rv.I0) fun z => nomatch z) e5.bh fun v B H e' h => k v B H ((e.trans e5).trans e') h
  | times a b =>
    refine s_set (word rfl) hB fun u B1 H1 e1 h => ?_
    have h := dat_str h
    subst h
    refine s_skip (no (by decide)) e1.bh fun B2 H2 e2 => ?_
    refine s_skip (no (by decide)) e2.bh fun B3 H3 e3 => ?_
    refine s_skip (no (by decide)) e3.bh fun B4 H4 e4 => ?_
    have e := ((e1.trans e2).trans e3).trans e4
    simp only [Wth.dp] at dp d4
    refine s_par (R := dat K (.int (a.val (names qs) ky.1 ky.2))) (S := dat K (.int (b.val (names qs) ky.1 ky.2))) (.cons (self (.var (Mo.mo e.bb hv) rfl) (.op (.var (Mo.mo e.bb hv1) rfl) .int (Rv.ixTD rfl)) (.var (Mo.mo e.bb hv2) rfl) (.var (Mo.mo e.bb hv3) rfl) (by omega) (by omega) tk.1) (.one (self (.var (Mo.mo e.bb hv) rfl) (.op (.var (Mo.mo e.bb hv1) rfl) .int (Rv.ixTD rfl)) (.var (Mo.mo e.bb hv2) rfl) (.var (Mo.mo e.bb hv3) rfl) (by omega) (by omega) tk.2))) e4.bh fun x y B5 H5 e5 hx hy => ?_
    exact s_ret (De.ite (Dt.eq (.test (K := K) (.op (.var (Dp.str _) rfl) .str Rv.eqS)) (decide_eq_false (by decide))) (fun z => nomatch z) fun _ => De.op (.var hx rfl) (.var hy rfl) (Rv.I (wide_mul (lt480 tk.1 (by omega)) (lt480 tk.2 (by omega)) (by decide) (by decide) (by decide)))) e5.bh fun v B H e' h => k v B H ((e.trans e5).trans e') h
theorem ok_worthOf (D : Def K mg "worth_of" s_worthOf ["form", "worth", "lot", "truth"]) (C_placeOf : Cal P w K mg base (L2.CX P w) 3 "place_of" s_placeOf ["form", "name"] (spPlace K C_Form)) (C_holds : Cal P w K mg base CX0 7 "holds" s_holds ["form", "test", "lot", "truth"] (spHolds K C_Form 4)) (n_int : mg "int" = none) : ∀ n : Nat, Cal P w K mg base CX0 (n + 8) "worth_of" s_worthOf ["form", "worth", "lot", "truth"] (spWorth K C_Form n)
  | 0 => (none_cal 8 D).weaken fun vs H Q E ⟨B, a, _, _, ⟨_, dp, _⟩, _⟩ => by
    have := a.2.1.dp_pos
    have dp : a.2.1.dp ≤ 0 := dp
    omega
  | n + 1 => step_worthOf D C_placeOf C_holds n_int (ok_worthOf D C_placeOf C_holds n_int n)
theorem sc_isGiven : FnScope ["form", "ask", "lot", "truth"] ["form", "ask", "lot", "truth"] (defScope s_isGiven) := ⟨rfl, rfl, rfl, by decide +kernel, rfl, by decide +kernel, by decide +kernel⟩
theorem ok_isGiven (D : Def K mg "is_given" s_isGiven ["form", "ask", "lot", "truth"]) (C_holds : Cal P w K mg base CX0 7 "holds" s_holds ["form", "test", "lot", "truth"] (spHolds K C_Form 4)) (K_Ask : CalC P w K mg base "Ask" C_Ask ["worth", "given"]) : Cal P w K mg base CX0 8 "is_given" s_isGiven ["form", "ask", "lot", "truth"] (sp_isGiven K C_Form C_Ask) := by
  refine D.ok sc_isGiven (fun vs H Q E h => ?_) (fun cdv f A outer s H vs Q E hr h => ?_)
  · exact pf_len h fun _ => rfl
  replace h := pf4 h
  obtain ⟨v, v1, v2, v3, B, ⟨qs, ⟨w', t⟩, ky⟩, rfl, hB, hv, hv1, hv2, hv3, ⟨qk, ak, kk⟩, k⟩ := h
  refine ⟨_, (pss_one (ps_ret (pe_cal C_holds (hr.mono (by decide)) (by rfl) pass0 (pa_cons (pv 0) (pa_cons (pe_fld (pv 1) rfl) (pa_cons (pv 2) (pa_cons (pv 3) pa_nil))))))), ?_⟩
  exact s_ret (De.call (qs, t, ky) (.cons (.var hv rfl) (.cons (fldT K_Ask (.var hv1 rfl)) (.cons (.var hv2 rfl) (.one (.var hv3 rfl))))) ⟨qk, ak.t4, ak.tk, kk⟩) hB k
theorem sc_worthAt : FnScope ["form", "ask", "lot", "truth"] ["form", "ask", "lot", "truth"] (defScope s_worthAt) := ⟨rfl, rfl, rfl, by decide +kernel, rfl, by decide +kernel, by decide +kernel⟩
theorem ok_worthAt (D : Def K mg "worth_at" s_worthAt ["form", "ask", "lot", "truth"]) (C_worthOf : Cal P w K mg base CX0 12 "worth_of" s_worthOf ["form", "worth", "lot", "truth"] (spWorth K C_Form 4)) (K_Ask : CalC P w K mg base "Ask" C_Ask ["worth", "given"]) : Cal P w K mg base CX0 13 "worth_at" s_worthAt ["form", "ask", "lot", "truth"] (sp_worthAt K C_Form C_Ask) := by
  refine D.ok sc_worthAt (fun vs H Q E h => ?_) (fun cdv f A outer s H vs Q E hr h => ?_)
  · exact pf_len h fun _ => rfl
  replace h := pf4 h
  obtain ⟨v, v1, v2, v3, B, ⟨qs, ⟨w', t⟩, ky⟩, rfl, hB, hv, hv1, hv2, hv3, ⟨qk, ak, kk⟩, k⟩ := h
  refine ⟨_, (pss_one (ps_ret (pe_cal C_worthOf (hr.mono (by decide)) (by rfl) pass0 (pa_cons (pv 0) (pa_cons (pe_fld (pv 1) rfl) (pa_cons (pv 2) (pa_cons (pv 3) pa_nil))))))), ?_⟩
  exact s_ret (De.call (qs, w', ky) (.cons (.var hv rfl) (.cons (fldW K_Ask (.var hv1 rfl)) (.cons (.var hv2 rfl) (.one (.var hv3 rfl))))) ⟨qk, ak.w4, ak.w4, ak.wk, kk⟩) hB k
theorem sc_asksBlanks : FnScope ["phrase", "part"] ["phrase"] (defScope s_asksBlanks) := ⟨rfl, rfl, rfl, by decide +kernel, rfl, by decide +kernel, by decide +kernel⟩
theorem step_asksBlanks {n : Nat} (D : Def K mg "asks_blanks" s_asksBlanks ["phrase"]) (n_tuple : mg "tuple" = none) (n_isinstance : mg "isinstance" = none) (C_asksBlanks : Cal P w K mg base CX0 (n + 1) "asks_blanks" s_asksBlanks ["phrase"] (spBlanks K n)) (n_any : mg "any" = none) : Cal P w K mg base CX0 (n + 2) "asks_blanks" s_asksBlanks ["phrase"] (spBlanks K (n + 1)) := by
  refine D.ok sc_asksBlanks (fun vs H Q E h => ?_) (fun cdv f A outer s H vs Q E hr h => ?_)
  · exact pf_len h fun _ => rfl
  replace h := pf1 h
  obtain ⟨v, B, d, rfl, hB, hv, ph, k⟩ := h
  refine ⟨_, (pss_one (ps_ret (pe_or (pe_cmpR op_eq (pe_ix ix_tup (pv 0) pe_int (fun _ _ => rfl)) pe_str (nomark _)) (pe_one (pe_callB (cr_any rfl) (by rfl) n_any (by decide +kernel) (pa_cons (pe_lc (own := [("part", 1)]) (g := gName 1) (tt := tYes) rfl sc_asksBlanks.nd (pi_tup (pv 0)) (blkOk_by (own := [("part", 1)]) (N := ["phrase", "part"]) (sc := defScope s_asksBlanks) (by decide +kernel)) (fun _ _ _ _ _ => (pg_name (i := 1) sc_asksBlanks.nd rfl (Or.inl rfl))) (fun _ _ _ _ _ => pts_nil) (fun _ _ _ _ _ => (pe_and (pe_callB (id := "isinstance") (r := rIsi K) call_isi (by rfl) n_isinstance (by decide +kernel) (pa_cons (pv 1) (pa_cons (pe_bltn (by rfl) n_tuple (by decide +kernel) (show RelV (.ty "tuple") (.type "tuple") from rfl)) pa_nil))) (pe_one (pe_cal C_asksBlanks (hr.mono (by omega)) (by rfl) pass0 (pa_cons (pv 1) pa_nil)))))) pa_nil)))))), ?_⟩
  obtain ⟨z, ps, rfl, ⟨few, _⟩, hp⟩ := ph
  refine s_ret (De.eq (De.orV (a := decide (z = "blank")) (b := ((PyData.str z :: ps).map fun p => isTup p && hasB n p).any id) (De.op (r := rEq) (.op (T := dat K (.str z)) (.var hv rfl) .int (Rv.ixTD (i := ((0 : Nat) : Int)) (atI_nat rfl))) .str Rv.eqS) fun _ => .cb (.one (De.eq (De.lcA (K := K) (as := PyData.str z :: ps) (r := fun p => dat K p) (Di.tupD (.var hv rfl)) (fun p => .bool (isTup p && hasB n p)) (by rw [sizeLine_eq]; simp; omega) fun p x Bn Hn hm _ _ hx => ⟨_, fun Q q => q, rfl, ?_⟩) (e := .list (((PyData.str z :: ps).map fun p => isTup p && hasB n p).map .bool)) (by rw [List.map_map]; rfl))) rc_any) ?_) hB k
  · refine De.andV (De.isi (.var hx rfl) (by simp)) fun t => De.call p (.one (.var hx rfl)) ?_
    rcases List.mem_cons.mp hm with rfl | hm
    · cases t
    · exact hp p hm t
  · congr 2
    rw [List.any_map]
    rfl
theorem ok_asksBlanks (D : Def K mg "asks_blanks" s_asksBlanks ["phrase"]) (n_tuple : mg "tuple" = none) (n_isinstance : mg "isinstance" = none) (n_any : mg "any" = none) : ∀ n : Nat, Cal P w K mg base CX0 (n + 1) "asks_blanks" s_asksBlanks ["phrase"] (spBlanks K n)
  | 0 => (none_cal 1 D).weaken fun vs H Q E ⟨B, a, _, _, h, _⟩ => h
  | n + 1 => step_asksBlanks D n_tuple n_isinstance (ok_asksBlanks D n_tuple n_isinstance n_any n) n_any
theorem sc_isPlain : FnScope ["ask"] ["ask"] (defScope s_isPlain) := ⟨rfl, rfl, rfl, by decide +kernel, rfl, by decide +kernel, by decide +kernel⟩
theorem ok_isPlain (D : Def K mg "is_plain" s_isPlain ["ask"]) (C_asksBlanks : Cal P w K mg base CX0 5 "asks_blanks" s_asksBlanks ["phrase"] (spBlanks K 4)) (K_Ask : CalC P w K mg base "Ask" C_Ask ["worth", "given"]) : Cal P w K mg base CX0 6 "is_plain" s_isPlain ["ask"] (sp_isPlain K C_Ask) := by
  refine D.ok sc_isPlain (fun vs H Q E h => ?_) (fun cdv f A outer s H vs Q E hr h => ?_)
  · exact pf_len h fun _ => rfl
  replace h := pf1 h
  obtain ⟨v, B, ⟨w', t⟩, rfl, hB, hv, ⟨d1, d2⟩, k⟩ := h
  refine ⟨_, (pss_one (ps_ret (pe_and (pe_not (pe_cal C_asksBlanks (hr.mono (by decide)) (by rfl) pass0 (pa_cons (pe_fld (pv 0) rfl) pa_nil))) (pe_one (pe_not (pe_cal C_asksBlanks (hr.mono (by decide)) (by rfl) pass0 (pa_cons (pe_fld (pv 0) rfl) pa_nil))))))), ?_⟩
  exact s_ret (De.andV (De.notV (De.call w'.enc (.one (fldW K_Ask (.var hv rfl))) (phr_W w' 4 d1))) fun _ => De.notV (De.call t.enc (.one (fldT K_Ask (.var hv rfl))) (phr_T t 4 d2))) hB k
end
end K69

set_option Elab.async false
set_option linter.all false
set_option maxRecDepth 100000
set_option maxHeartbeats 4000000
/-! the deal of a law: _law_deal, _law_any, _law_of. -/
namespace K69
open PySem PySem.Spec PyProof.Rows L2 Wb
theorem ints_dp {K : PySem.W.Frag} {H : Hp} : ∀ cs : List Int, DpAll K H (cs.map V.int) (cs.map PyData.int)
  | [] => .nil
  | z :: cs => .cons (.int z) (ints_dp cs)
theorem ints_lay : ∀ cs : List Int, PyData.canLayAll0 (cs.map PyData.int) = true
  | [] => by simp [PyData.canLayAll0]
  | z :: cs => by simp [PyData.canLayAll0, PyData.canLay0, ints_lay cs]
theorem ints_depth : ∀ cs : List Int, PyData.depthAll (cs.map PyData.int) = 0
  | [] => by simp [PyData.depthAll]
  | z :: cs => by simp [PyData.depthAll, PyData.depth, ints_depth cs]
theorem ints_shaped (cs : List Int) : SeqAt.shaped (.list (cs.map PyData.int)) = true := by
  show (PyData.canLay0 (.list (cs.map PyData.int)) && decide (PyData.depth (.list (cs.map PyData.int)) ≤ 64)) = true
  rw [Bool.and_eq_true]
  refine ⟨by simp only [PyData.canLay0]; exact ints_lay cs, decide_eq_true ?_⟩
  simp only [PyData.depth, ints_depth]
  omega
theorem ints_eqv (cs : List Int) : PyData.eqv (.list (cs.map PyData.int)) (.list []) = cs.isEmpty := by
  cases cs with
  | nil => simp [PyData.eqv, PyData.eqvAll]
  | cons z r => simp [PyData.eqv, PyData.eqvAll]

section
variable {P : Program} {w : World} {K : PySem.W.Frag} {mg : Str → Option Value} {base : Heap}
theorem scAny : FnScope ["deal", "bound", "rest"] ["deal", "bound"] (defScope s_any) := ⟨rfl, rfl, rfl, by decide +kernel, rfl, by decide +kernel, by decide +kernel⟩

/-- how many cells are left -/
def left (c : Addr) (H : Hp) : Nat := match H c with
  | some (.lst xs) => xs.length
  | _ => 0

theorem okf_any {f : Addr} {fd : FuncData} (F : Fun K "_law_any" "_law_any" s_any f fd) (noInt : mg "int" = none) : FnOk P w K mg base CX0 1 f fd ["deal", "bound"] spAny := by
  refine F.ok scAny (fun vs H Q E h => ?_) (fun cdv A outer s H vs Q E hr h => ?_)
  · obtain ⟨d, c, bound, rfl, _⟩ := h
    rfl
  obtain ⟨d, c, bound, rfl, D, b0, b1, k⟩ := h
  refine ⟨_, pss_cons (ps_while PassesOwn.never (PW.pt (pw_and (pt_cmpR (op_neD hr.units) (pe_ix ix_list (pv 0) pe_int (fun _ _ => rfl)) (pe_lst pa_nil) (nomark _))
        (pw_and1 (pt_cmpR op_eq (pe_ix ix_list (pe_ix ix_list (pv 0) pe_int (fun _ _ => rfl)) (pe_un un_neg pe_int) (fun _ _ => rfl)) pe_int (nomark _)))))
      (pss_one (ps_expr (pe_bm0 PySem.F.plainAttrs_list PySem.F.slot_list_pop PySem.F.type_list_pop mt_pop (pe_ix ix_list (pv 0) pe_int (fun _ _ => rfl))))))
    (pss_cons (ps_if (pt_cmpR (op_neD hr.units) (pe_ix ix_list (pv 0) pe_int (fun _ _ => rfl)) (pe_lst pa_nil) (nomark _))
      (pss_cons (ps_set (i := 2) scAny.nd rfl (Or.inl rfl) (pe_callTy call_int1 (by rfl) noInt (by decide +kernel) (pa_cons (pe_bm0 PySem.F.plainAttrs_list PySem.F.slot_list_pop PySem.F.type_list_pop mt_pop (pe_ix ix_list (pv 0) pe_int (fun _ _ => rfl))) pa_nil)))
      (pss_cons (ps_expr (pe_bm PySem.F.plainAttrs_list PySem.F.slot_list_append PySem.F.type_list_append mt_append (pe_ix ix_list (pv 0) pe_int (fun _ _ => rfl)) (pa_cons (pe_op op_fdivW (pv 2) (pv 1)) pa_nil)))
      (pss_one (ps_ret (pe_op op_mod (pv 2) (pv 1)))))) pss_nil)
    (pss_cons (ps_asg (pe_op op_mod (pe_callTy call_int1 (by rfl) noInt (by decide +kernel) (pa_cons (pe_op op_add (pe_op op_mul (pe_ix ix_list (pv 0) pe_int (fun _ _ => rfl)) pe_int) pe_int) pa_nil)) pe_int) (pg_sub (pv 0) pe_int set_list))
    (pss_one (ps_ret (pe_op op_mod (pe_callTy call_int1 (by rfl) noInt (by decide +kernel) (pa_cons (pe_op op_fdiv (pe_ix ix_list (pv 0) pe_int (fun _ _ => rfl)) pe_int) pa_nil)) (pv 1))))))  , ?_⟩
  -- the cells that are 0 go
  refine whileI (fun σ H' => σ = [some (.ref d), some (.int bound), none] ∧ Deal H' d c ∧ Same (off H d c) (off H' d c))
    (fun σ H' => σ = [some (.ref d), some (.int bound), none] ∧ Deal H' d c ∧ Same (off H d c) (off H' d c)) (fun _ H' => left c H') ⟨rfl, D, Same.refl _⟩ ?_ ?_
  · -- behind it
    rintro σ G ⟨rfl, D', S'⟩
    obtain ⟨cs, mix, h1, h2, short, nn, m0, m1⟩ := D'.ex
    refine ⟨_, rfl, d, [.ref c, .int mix], 0, .ref c, rfl, rfl, SqL.of h1, rfl, ?_⟩
    refine ⟨Nat.zero_le _, fun l hl => ?_⟩
    have Sl : Same G (upd G l (.lst [])) := new_same hl
    have D2 : Deal (upd G l (.lst [])) d c := D'.same Sl
    have S2 : Same (off H d c) (off (upd G l (.lst [])) d c) := S'.trans (off_mono Sl)
    have h1' := Sl _ _ h1
    have h2' := Sl _ _ h2
    have ne := D'.ne
    refine ⟨.list (cs.map PyData.int), .list [], .lst (SqL.of h2') (ints_dp cs), .lst (SqL.of upd_same) .nil, ints_shaped cs, rfl, _, rfl, ?_⟩
    rw [ints_eqv]
    generalize upd G l (.lst []) = G2 at *
    rcases nil_or_last cs with rfl | ⟨ini, z, rfl⟩
    · -- no cell: the number goes on
      refine iteF ?_
      refine ⟨_, rfl, d, [.ref c, .int mix], 1, .int mix, rfl, rfl, SqL.of h1', rfl, ?_⟩
      refine ⟨_, _, rfl, rfl, .inl ⟨by omega, by omega⟩, _, _, rfl, rfl, .inl ⟨_, rfl, ?_⟩⟩
      refine ⟨_, _, rfl, rfl, (by show (0 : Int) < 2147483647; decide), ?_⟩
      refine ⟨_, rfl, d, [.ref c, .int mix], 1, 1, rfl, rfl, h1', rfl, ?_⟩
      obtain ⟨mix2, hm⟩ : ∃ mix2, mix2 = (mix * 48271 + 79) % 2147483647 := ⟨_, rfl⟩
      have at2 : upd G2 d (.lst ([V.ref c, V.int mix].set 1 (V.int ((mix * 48271 + 79) % 2147483647)))) d = some (.lst [.ref c, .int mix2]) := by
        rw [upd_same, hm]
        rfl
      have q0 : 0 ≤ mix2 := by omega
      have q1 : mix2 < 2147483647 := by omega
      refine ⟨_, rfl, d, [.ref c, .int mix2], 1, .int mix2, rfl, rfl, SqL.of at2, rfl, ?_⟩
      refine ⟨_, _, rfl, rfl, ⟨by decide, by decide⟩, .inl ⟨_, rfl, ?_⟩⟩
      refine ⟨_, rfl, _, _, rfl, rfl, b0, ?_⟩
      refine k _ _ (Int.emod_nonneg _ (by omega)) (Int.emod_lt_of_pos _ b0) ⟨[], mix2, at2, ?_, short, nn, q0, q1⟩ ?_
      · show upd G2 d _ c = _
        rw [upd_ne ne.symm]
        exact h2'
      · show Same _ (off (upd G2 d _) d c)
        rw [off_d]
        exact S2
    · -- a cell
      have e : (ini ++ [z]).isEmpty = false := by simp
      rw [e]
      refine iteT ?_
      have em : (ini ++ [z]).map V.int = ini.map V.int ++ [V.int z] := by simp
      rw [em] at h2'
      have z0 : 0 ≤ z := nn z (by simp)
      refine ⟨_, rfl, d, [.ref c, .int mix], 0, .ref c, rfl, rfl, SqL.of h1', rfl, .inl ⟨rfl, _, SqL.of h2'⟩, c, _, .int z, rfl, rfl, h2', by simp, .inl ⟨_, rfl, ?_⟩⟩
      rw [List.dropLast_concat]
      refine ⟨_, rfl, d, [.ref c, .int mix], 0, .ref c, rfl, rfl, SqL.of ((upd_ne ne).trans h1'), rfl, .inl ⟨rfl, _, SqL.of upd_same⟩, ?_⟩
      refine ⟨_, rfl, _, rfl, _, _, rfl, rfl, ?_, c, _, _, rfl, rfl, upd_same, ?_, ?_⟩
      · exact wide_div b0 (b := 300) (by omega) (by decide) (by decide)
      · rw [List.length_map, sizeLine_eq]
        simp at short
        omega
      refine ⟨_, rfl, _, rfl, _, _, rfl, rfl, b0, ?_⟩
      refine k _ _ (Int.emod_nonneg _ (by omega)) (Int.emod_lt_of_pos _ b0) ⟨ini ++ [z / bound], mix, ?_, ?_, ?_, ?_, m0, m1⟩ ?_
      · rw [upd_ne ne, upd_ne ne]
        exact h1'
      · rw [upd_same]
        simp
      · simpa using short
      · intro y hy
        rcases List.mem_append.mp hy with h | h
        · exact nn y (List.mem_append_left _ h)
        · simp at h
          rw [h]
          exact Int.ediv_nonneg z0 (by omega)
      · rw [off_c, off_c]
        exact S2
  · -- a turn
    rintro σ H' ⟨rfl, D', S'⟩ Y Z hY hZ
    obtain ⟨cs, mix, h1, h2, short, nn, m0, m1⟩ := D'.ex
    refine ⟨_, rfl, d, [.ref c, .int mix], 0, .ref c, rfl, rfl, SqL.of h1, rfl, ?_⟩
    refine ⟨Nat.zero_le _, fun l hl => ?_⟩
    have Sl : Same H' (upd H' l (.lst [])) := new_same hl
    have D2 : Deal (upd H' l (.lst [])) d c := D'.same Sl
    have S2 : Same (off H d c) (off (upd H' l (.lst [])) d c) := S'.trans (off_mono Sl)
    have h1' := Sl _ _ h1
    have h2' := Sl _ _ h2
    have len2 : left c H' = cs.length := by
      unfold left
      rw [h2]
      simp
    refine ⟨.list (cs.map PyData.int), .list [], .lst (SqL.of h2') (ints_dp cs), .lst (SqL.of upd_same) .nil, ints_shaped cs, rfl, _, rfl, ?_⟩
    rw [ints_eqv]
    generalize upd H' l (.lst []) = G at *
    rcases nil_or_last cs with rfl | ⟨ini, z, rfl⟩
    · refine iteF (iteF ?_)
      exact hZ _ ⟨rfl, D2, S2⟩
    · have e : (ini ++ [z]).isEmpty = false := by simp
      rw [e]
      refine iteT ?_
      have em : (ini ++ [z]).map V.int = ini.map V.int ++ [V.int z] := by simp
      rw [em] at h2'
      refine ⟨_, rfl, d, [.ref c, .int mix], 0, .ref c, rfl, rfl, SqL.of h1', rfl, 1, rfl, c, ini.map V.int ++ [V.int z], -1, .int z, rfl, rfl, SqL.of h2', atI_last _ _, rfl, _, rfl, ?_⟩
      refine ite2 (fun hz => ?_) (fun hz => ?_)
      · refine hY _ ?_
        refine ⟨_, rfl, d, [.ref c, .int mix], 0, .ref c, rfl, rfl, SqL.of h1', rfl, .inl ⟨rfl, _, SqL.of h2'⟩, c, _, .int z, rfl, rfl, h2', by simp, ?_⟩
        have ne := D2.ne
        refine ⟨⟨rfl, ⟨ini, mix, ?_, ?_, ?_, fun y hy => nn y (List.mem_append_left _ hy), m0, m1⟩, ?_⟩, ?_⟩
        · rw [upd_ne ne]
          exact h1'
        · rw [upd_same, List.dropLast_concat]
        · simp at short
          omega
        · rw [off_c]
          exact S2
        · rw [len2]
          unfold left
          rw [upd_same, List.dropLast_concat]
          simp
      · exact hZ _ ⟨rfl, D2, S2⟩
end
section
variable {P : Program} {w : World} {K : PySem.W.Frag} {mg : Str → Option Value} {base : Heap}
theorem scOf : FnScope ["deal", "some"] ["deal", "some"] (defScope s_of) := ⟨rfl, rfl, rfl, by decide +kernel, rfl, by decide +kernel, by decide +kernel⟩
theorem okf_of {f fA : Addr} {fd fdA : FuncData} (F : Fun K "_law_of" "_law_of" s_of f fd) (GA : FnOk P w K mg base CX0 1 fA fdA ["deal", "bound"] spAny) (mA : mg "_law_any" = some (.ref fA)) (kA : PySem.W.keepIn K (.ref fA) = true) (bA : Binds K fdA ["deal", "bound"] [])
    (noLen : mg "len" = none) : FnOk P w K mg base CX0 2 f fd ["deal", "some"] (spOf K) := by
  refine F.ok scOf (fun vs H Q E h => ?_) (fun cdv A outer s H vs Q E hr h => ?_)
  · obtain ⟨d, c, x, rfl, _⟩ := h
    rfl
  obtain ⟨d, c, x, rfl, D, k⟩ := h
  refine ⟨_, pss_one (ps_ret (pe_ix ix_seq (pv 1) (pe_call GA hr rfl mA kA bA .nil pass0 (pa_cons (pv 0) (pa_cons (pe_callB call_len (by rfl) noLen (by decide +kernel) (pa_cons (pv 1) pa_nil)) pa_nil))) (fun _ _ => rfl))), ?_⟩
  rcases k with ⟨p, xs, rfl, hs, ne, few, k⟩ | ⟨p, xs, rfl, hs, ne, few, k⟩ | ⟨z, rfl, ne, few, k⟩
  · have pos : 0 < xs.length := List.length_pos_iff.mpr ne
    refine ⟨_, rfl, _, rfl, _, rfl, _, xs.length, rfl, .inl ⟨xs, (off_le H d c).seq hs, rfl⟩, d, c, xs.length, rfl, D, by omega, by omega, fun r H' r0 r1 D' S' => ?_⟩
    obtain ⟨v, hv, at_⟩ := item_at r0 r1
    exact .inl ⟨p, xs, r, v, rfl, rfl, (off_le H' d c).seq (S'.seq hs), at_, k v H' hv D' S'⟩
  · have pos : 0 < xs.length := List.length_pos_iff.mpr ne
    refine ⟨_, rfl, _, rfl, _, rfl, _, xs.length, rfl, .inr ⟨xs, seqT (off_le H d c) hs, rfl⟩, d, c, xs.length, rfl, D, by omega, by omega, fun r H' r0 r1 D' S' => ?_⟩
    obtain ⟨v, hv, at_⟩ := item_at r0 r1
    exact .inr (.inl ⟨p, xs, r, v, rfl, rfl, seqT (off_le H' d c) (seqT S' hs), at_, k v H' hv D' S'⟩)
  · have line := sizeLine_eq
    refine ⟨_, rfl, _, rfl, _, rfl, _, z.length, rfl, ⟨by omega, rfl⟩, d, c, z.length, rfl, D, by omega, by omega, fun r H' r0 r1 D' S' => ?_⟩
    obtain ⟨j, rfl⟩ := Int.eq_ofNat_of_zero_le r0
    have hj : j < z.cps.toList.length := by
      have e : z.cps.toList.length = z.length := by simp [Str.length]
      omega
    exact .inr (.inr ⟨z, (j : Int), z.cps.toList[j], rfl, rfl, by omega, atI_nat (List.getElem?_eq_getElem hj), k _ H' (List.getElem_mem hj) D' S'⟩)

theorem scSource : FnScope ["script", "base", "cells", "cell", "mix"] ["script", "base"] (defScope s_deal) := ⟨rfl, rfl, rfl, by decide +kernel, rfl, by decide +kernel, by decide +kernel⟩
theorem okf_deal {f : Addr} {fd : FuncData} (F : Fun K "_law_deal" "_law_deal" s_deal f fd) (noInt : mg "int" = none) (noAbs : mg "abs" = none) : FnOk P w K mg base CX0 1 f fd ["script", "base"] (spDeal K) := by
  refine F.ok scSource (fun vs H Q E h => ?_) (fun cdv A outer s H vs Q E hr h => ?_)
  · obtain ⟨a, ns, bs, rfl, _⟩ := h
    rfl
  obtain ⟨a, ns, bs, rfl, hs, few, b0, b1, k⟩ := h
  refine ⟨_, pss_cons (ps_setLc (i := 2) (own := [("cell", 3)]) (g := gName 3) (tt := tYes) rfl scSource.nd rfl rfl (sw_true rfl rfl rfl (by decide +kernel)) (pi_list (pe_slice sl_list (pv 0) po_none (po_some pe_int)))
      (blkOk_by (own := [("cell", 3)]) (N := ["script", "base", "cells", "cell", "mix"]) (sc := defScope s_deal) (by decide +kernel)) (fun _ _ _ _ _ => pg_name (i := 3) scSource.nd rfl (Or.inl rfl)) (fun _ _ _ _ _ => pts_nil)
      (fun _ _ _ _ _ => pe_callB call_abs (by rfl) noAbs (by decide +kernel) (pa_cons (pe_callTy call_int1 (by rfl) noInt (by decide +kernel) (pa_cons (pv 3) pa_nil)) pa_nil)))
    (pss_cons (ps_set (i := 4) scSource.nd rfl (Or.inl rfl) (pe_op op_add (pe_op op_mul pe_int (pv 1)) pe_int))
    (pss_cons (ps_for PassesOwn.never rfl (pi_list (pv 2)) (pg_name (i := 3) scSource.nd rfl (Or.inl rfl))
      (pss_one (ps_set (i := 4) scSource.nd rfl (Or.inl rfl) (pe_op op_mod (pe_callTy call_int1 (by rfl) noInt (by decide +kernel) (pa_cons (pe_op op_add (pe_op op_add (pe_op op_mul (pv 4) pe_int) (pe_op op_mod (pv 3) pe_int)) pe_int) pa_nil)) pe_int))))
    (pss_one (ps_ret (pe_lst (pa_cons (pe_revL (pe_lc (own := [("cell", 3)]) (g := gName 3) rfl scSource.nd (pi_list (pv 2))
      (blkOk_by (own := [("cell", 3)]) (N := ["script", "base", "cells", "cell", "mix"]) (sc := defScope s_deal) (by decide +kernel)) (fun _ _ _ _ _ => pg_name (i := 3) scSource.nd rfl (Or.inl rfl))
      (fun _ _ _ _ _ => pts_one (pt_cmpR op_ge (pv 3) (pe_op op_pow pe_int pe_int) (nomark _))) (fun _ _ _ _ _ => pv 3))) (pa_cons (pv 4) pa_nil))))))), ?_⟩
  -- the slice
  refine ⟨_, rfl, 63, rfl, a, ns.map V.int, rfl, hs, fun p hp => ?_⟩
  obtain ⟨ms, em, fewM⟩ : ∃ ms : List Int, cutV (ns.map V.int) none (some 63) = ms.map V.int ∧ ms.length ≤ 63 := by
    refine ⟨(ns.drop (HT.sIx (ns.map V.int).length 0 none)).take (HT.sIx (ns.map V.int).length (ns.map V.int).length (some 63) - HT.sIx (ns.map V.int).length 0 none), ?_, ?_⟩
    · unfold cutV
      rw [List.map_take, List.map_drop]
    · rw [List.length_take, List.length_drop]
      omega
  rw [em]
  have Sp : Same H (upd H p (.lst (ms.map V.int))) := new_same hp
  have atp : upd H p (.lst (ms.map V.int)) p = some (.lst (ms.map V.int)) := upd_same
  generalize upd H p (.lst (ms.map V.int)) = H1 at *
  refine ⟨p, rfl, ⟨_, SqL.of atp⟩, fun D hD => ?_⟩
  -- the cells
  refine lc_list (K := K) (a := p) (xs := ms.map V.int) (fun i G => ∃ acc : List Int, G D = some (.lst (acc.map V.int)) ∧ acc.length = i ∧ (∀ z ∈ acc, 0 ≤ z) ∧ Same H1 G)
    ⟨[], upd_same, rfl, (fun z hz => nomatch hz), new_same hD⟩ (fun i G _ ⟨_, _, _, _, sg⟩ => sg.seq (SqL.of atp)) ?_ ?_
  · rintro i x G hx ⟨acc, hG, hi, hnn, sg⟩
    have hi' : i < ms.length := by
      have := (List.getElem?_eq_some_iff.mp hx).1
      simpa using this
    obtain ⟨z, rfl⟩ : ∃ z, x = V.int z := by
      rw [List.getElem?_map] at hx
      obtain ⟨z, _, e⟩ := Option.map_eq_some_iff.mp hx
      exact ⟨z, e.symm⟩
    refine ⟨rfl, ?_⟩
    refine ⟨_, rfl, .inl ⟨z, rfl, z, rfl, acc.map V.int, hG, ?_, acc ++ [if z < 0 then -z else z], ?_, ?_, ?_, ?_⟩⟩
    · rw [List.length_map, sizeLine_eq]
      omega
    · rw [upd_same]
      simp
    · simp [hi]
    · intro y hy
      rcases List.mem_append.mp hy with q | q
      · exact hnn y q
      · simp at q
        rw [q]
        split <;> omega
    · intro b' o e
      rw [upd_ne (ne_of_none e hD)]
      exact sg b' o e
  rintro G ⟨acc, hG, hi, hnn, sg⟩
  rw [List.length_map] at hi
  -- the first number
  refine ⟨_, rfl, _, _, rfl, rfl, .inl ⟨by decide, by decide⟩, _, _, rfl, rfl, _, rfl, D, rfl, ⟨_, SqL.of hG⟩, for_list (K := K) (a := D) (xs := acc.map V.int) (fun i σ G' => ∃ (mix : Int) (v : Option V), σ = [some (.ref a), some (.int bs), some (.ref D), v, some (.int mix)] ∧ 0 ≤ mix ∧ mix < 2147483647 ∧ G' = G)
    ⟨_, none, rfl, by omega, by omega, rfl⟩ (fun i σ G' _ ⟨_, _, _, _, _, e⟩ => by rw [e]; exact SqL.of hG) ?_ ?_⟩
  · rintro i y σ G' hy ⟨mix, v, rfl, q0, q1, rfl⟩
    obtain ⟨z, rfl⟩ : ∃ z, y = V.int z := by
      rw [List.getElem?_map] at hy
      obtain ⟨z, _, e⟩ := Option.map_eq_some_iff.mp hy
      exact ⟨z, e.symm⟩
    refine ⟨_, rfl, _, _, rfl, rfl, .inl ⟨by omega, by omega⟩, _, rfl, _, _, rfl, rfl, (by show (0 : Int) < 2147483563; decide), _, _, rfl, rfl, _, _, rfl, rfl, .inl ⟨_, rfl, ?_⟩⟩
    refine ⟨_, _, rfl, rfl, (by show (0 : Int) < 2147483647; decide), ?_⟩
    exact ⟨_, _, rfl, Int.emod_nonneg _ (by decide), Int.emod_lt_of_pos _ (by decide), rfl⟩
  rintro σ G' ⟨mix, v, rfl, q0, q1, rfl⟩
  -- the great cells, turned
  refine ⟨_, rfl, D, rfl, ⟨_, SqL.of hG⟩, fun D2 hD2 => ?_⟩
  refine lc_list (K := K) (a := D) (xs := acc.map V.int) (fun i G2 => ∃ big : List Int, G2 D2 = some (.lst (big.map V.int)) ∧ big.length ≤ i ∧ (∀ z ∈ big, 0 ≤ z) ∧ Same G' G2)
    ⟨[], upd_same, Nat.le_refl _, (fun z hz => nomatch hz), new_same hD2⟩ (fun i G2 _ ⟨_, _, _, _, s2⟩ => s2.seq (SqL.of hG)) ?_ ?_
  · rintro i x G2 hx ⟨big, hB, hl, hbn, s2⟩
    have hx2 := hx
    have hi' : i < acc.length := by
      have := (List.getElem?_eq_some_iff.mp hx).1
      simpa using this
    obtain ⟨z, hz, rfl⟩ : ∃ z, z ∈ acc ∧ x = V.int z := by
      rw [List.getElem?_map] at hx
      obtain ⟨z, hz, e⟩ := Option.map_eq_some_iff.mp hx
      exact ⟨z, List.mem_of_getElem? hz, e.symm⟩
    refine ⟨rfl, _, rfl, _, _, rfl, rfl, ⟨by decide, by decide, by decide⟩, _, _, rfl, rfl, _, rfl, ?_⟩
    refine ite2 (fun _ => ?_) (fun _ => ?_)
    · refine ⟨_, rfl, big.map V.int, hB, ?_, big ++ [z], ?_, ?_, ?_, ?_⟩
      · rw [List.length_map, sizeLine_eq]
        omega
      · rw [upd_same]
        simp
      · simp
        omega
      · intro y hy
        rcases List.mem_append.mp hy with q | q
        · exact hbn y q
        · simp at q
          rw [q]
          exact hnn z hz
      · intro b' o e
        rw [upd_ne (ne_of_none e hD2)]
        exact s2 b' o e
    · exact ⟨big, hB, by omega, hbn, s2⟩
  rintro G2 ⟨big, hB, hl, hbn, s2⟩
  rw [List.length_map] at hl
  refine ⟨D2, _, rfl, SqL.of hB, fun c hc => ?_⟩
  have Sc : Same G2 (upd G2 c (.lst (big.map V.int).reverse)) := new_same hc
  have atc : upd G2 c (.lst (big.map V.int).reverse) c = some (.lst (big.reverse.map V.int)) := by rw [upd_same, List.map_reverse]
  generalize upd G2 c (.lst (big.map V.int).reverse) = G3 at *
  refine ⟨_, rfl, (by show 2 ≤ sizeLine; decide), fun d hd => ?_⟩
  have S3 : Same H G3 := ((Sp.trans sg).trans s2).trans Sc
  have S4 : Same G3 (upd G3 d (.lst [.ref c, .int mix])) := new_same hd
  refine k d c _ (S3.free hd) (((Sp.trans sg).trans s2).free hc) ⟨big.reverse, mix, upd_same, S4 _ _ atc, ?_, ?_, q0, q1⟩ (S3.trans S4)
  · simp
    omega
  · intro z hz
    exact hbn z (List.mem_reverse.mp hz)
end
section
variable {P : Program} {w : World} {K : PySem.W.Frag} {mg : Str → Option Value} {base : Heap}
theorem ok_any (D : Def K mg "_law_any" s_any ["deal", "bound"]) (n_int : mg "int" = none) : Cal P w K mg base CX0 1 "_law_any" s_any ["deal", "bound"] spAny := by
  obtain ⟨f, fd, F, m, b, o⟩ := D
  exact ⟨f, fd, okf_any F n_int, m, F.kp, b, o⟩
theorem ok_of (D : Def K mg "_law_of" s_of ["deal", "some"]) (A : Cal P w K mg base CX0 1 "_law_any" s_any ["deal", "bound"] spAny) (n_len : mg "len" = none) : Cal P w K mg base CX0 2 "_law_of" s_of ["deal", "some"] (spOf K) := by
  obtain ⟨f, fd, F, m, b, o⟩ := D
  obtain ⟨fA, fdA, GA, mA, kA, bA, _⟩ := A
  exact ⟨f, fd, okf_of F GA mA kA bA n_len, m, F.kp, b, o⟩
theorem ok_deal (D : Def K mg "_law_deal" s_deal ["script", "base"]) (n_int : mg "int" = none) (n_abs : mg "abs" = none) : Cal P w K mg base CX0 1 "_law_deal" s_deal ["script", "base"] (spDeal K) := by
  obtain ⟨f, fd, F, m, b, o⟩ := D
  exact ⟨f, fd, okf_deal F n_int n_abs, m, F.kp, b, o⟩
end
end K69

set_option Elab.async false
set_option linter.all false
set_option maxRecDepth 100000
set_option maxHeartbeats 4000000
/-! K69b: drawn names and questions, all truths and lots. -/
namespace K69
open PySem PySem.Spec PyProof.Rows L2 Wb Wv Fm As
def namesP (n : Nat) (x : PyData) : Prop := ∃ zs : List Str, x = .list (zs.map .str) ∧ zs.length = n ∧ ∀ z ∈ zs, Nmk 17 z
structure QsOk (qs : Qs) : Prop where
  one : 1 ≤ qs.length
  three : qs.length ≤ 3
  sz : ∀ q ∈ qs, 2 ≤ q.2 ∧ q.2 ≤ 3
  nm : ∀ z ∈ names qs, Nmk 17 z
theorem QsOk.ok {qs : Qs} (h : QsOk qs) : QOk qs := ⟨⟨by have := h.three; omega, fun q hq => by have := (h.sz q hq).2; omega⟩, fun z hz => (h.nm z hz).mono (by decide)⟩
abbrev sp_lnames (K : PySem.W.Frag) : Sp := DPf (α := Nat) (fun n => [dat K (.int (n : Int))]) (fun n => n ≤ 3) (fun n => datP K (namesP n))
abbrev sp_lquestions (K : PySem.W.Frag) : Sp := DPf (α := Unit) (fun _ => [dat K (.int 3)]) (fun _ => True) (fun _ => datP K fun x => ∃ qs, x = qsD qs ∧ QsOk qs)
abbrev sp_lrows (K : PySem.W.Frag) : Sp := Pf (α := List Nat) (fun ss => [dat K (.list (ss.map fun n : Nat => .int (n : Int)))]) (fun ss => ss.length ≤ 4 ∧ ∀ n ∈ ss, n ≤ 4) (fun ss => dat K (rowsL (grow (ss.map (rng 0)))))
abbrev sp_ltruths (K : PySem.W.Frag) : Sp := Pf (α := Qs) (fun qs => [dat K (qsD qs)]) QsOk (fun qs => dat K (rowsL (grow (qs.map fun q => rng 0 q.2))))
abbrev sp_lwithin (K : PySem.W.Frag) : Sp := Pf (α := List Str) (fun l => [dat K (lotD l)]) (fun l => l.length ≤ 4) (fun l => dat K (.list (sortD ((subs l).map lotD))))
abbrev sp_llots (K : PySem.W.Frag) : Sp := Pf (α := Qs) (fun qs => [dat K (qsD qs)]) QsOk (fun qs => dat K (.list (sortD ((subs (names qs)).map lotD))))
theorem erase_map {α β : Type} (f : α → β) : ∀ (l : List α) (r : Nat), (l.map f).eraseIdx r = (l.eraseIdx r).map f
  | [], r => by simp
  | a :: l, 0 => by simp
  | a :: l, r + 1 => by simp [erase_map f l r]
section
variable {P : Program} {w : World} {K : PySem.W.Frag} {mg : Str → Option Value} {base : Heap} {C_Form C_Ask C_NoName : Addr}
theorem letters_nm : ∀ z ∈ Wv.signs (Str.ofString "abcdefghijklmnopqrstuvwxyz"), Nmk 1 z := fun z hz => by
  obtain ⟨c, hc, rfl⟩ := List.mem_map.mp hz
  exact Nmk.one ((show ∀ a ∈ (Str.ofString "abcdefghijklmnopqrstuvwxyz").cps.toList, a < 128 by decide +kernel) c hc)
theorem sc_lnames : FnScope ["deal", "many", "letters", "row", "pool", "base", "at", "place", "one"] ["deal", "many"] (defScope s_lnames) := ⟨rfl, rfl, rfl, by decide +kernel, rfl, by decide +kernel, by decide +kernel⟩
theorem ok_lnames (D : Def K mg "_law_names" s_lnames ["deal", "many"]) (n_list : mg "list" = none) (n_len : mg "len" = none) (C_any : Cal P w K mg base CX0 1 "_law_any" s_any ["deal", "bound"] spAny) (n_sorted : mg "sorted" = none) (n_range : mg "range" = none) (C_of : Cal P w K mg base CX0 2 "_law_of" s_of ["deal", "some"] (spOf K)) : Cal P w K mg base CX0 3 "_law_names" s_lnames ["deal", "many"] (sp_lnames K) := by
  refine D.ok sc_lnames (fun vs H Q E h => ?_) (fun cdv f A outer s H vs Q E hr h => ?_)
  · exact dpf_len h fun _ => rfl
  replace h := dpf1 h
  obtain ⟨d, vn, c, B, n, rfl, L, hn, n3, k⟩ := h
  refine ⟨_, (pss_cons (ps_set (i := 2) sc_lnames.nd rfl (Or.inr rfl) pe_str)
    (pss_cons (ps_par (i := 3) (j := 4) rfl sc_lnames.nd rfl rfl (by decide) rfl rfl (pa_cons (pe_lst pa_nil) (pa_cons (pe_callTy (call_list_txt rfl) (by rfl) n_list (by decide +kernel) (pa_cons (pv 2) pa_nil)) pa_nil)) (by rfl))
    (pss_cons (ps_while PassesOwn.never (pt_cmpR op_lt (pe_callB call_len (by rfl) n_len (by decide +kernel) (pa_cons (pv 3) pa_nil)) (pv 1) (nomark _)) (pss_one (ps_expr (pe_bm PySem.F.plainAttrs_list PySem.F.slot_list_append PySem.F.type_list_append mt_append (pv 3) (pa_cons (pe_bm PySem.F.plainAttrs_list PySem.F.slot_list_pop PySem.F.type_list_pop mt_popAt (pv 4) (pa_cons (pe_cal C_any (hr.mono (by decide)) (by rfl) pass0 (pa_cons (pv 0) (pa_cons (pe_callB call_len (by rfl) n_len (by decide +kernel) (pa_cons (pv 4) pa_nil)) pa_nil))) pa_nil)) pa_nil)))))
    (pss_cons (ps_if (pt_cmpR op_eq (pe_cal C_any (hr.mono (by decide)) (by rfl) pass0 (pa_cons (pv 0) (pa_cons pe_int pa_nil))) pe_int (nomark _)) (pss_one (ps_ret (pe_callB (cr_sortedD hr.units) (by rfl) n_sorted (by decide +kernel) (pa_cons (pv 3) pa_nil)))) pss_nil)
    (pss_cons (ps_set (i := 5) sc_lnames.nd rfl (Or.inr rfl) (pe_lc (own := [("at", 6)]) (g := gName 6) (tt := tYes) rfl sc_lnames.nd (pi_range1 rfl n_range (pa_cons (pe_op op_add pe_int (pe_cal C_any (hr.mono (by decide)) (by rfl) pass0 (pa_cons (pv 0) (pa_cons pe_int pa_nil)))) pa_nil)) (blkOk_by (own := [("at", 6)]) (N := ["deal", "many", "letters", "row", "pool", "base", "at", "place", "one"]) (sc := defScope s_lnames) (by decide +kernel)) (fun _ _ _ _ _ => (pg_name (i := 6) sc_lnames.nd rfl (Or.inl rfl))) (fun _ _ _ _ _ => pts_nil) (fun _ _ _ _ _ => (pe_cal C_of (hr.mono (by decide)) (by rfl) pass0 (pa_cons (pv 0) (pa_cons (pv 2) pa_nil))))))
    (pss_cons (ps_set (i := 7) sc_lnames.nd rfl (Or.inr rfl) (pe_cal C_any (hr.mono (by decide)) (by rfl) pass0 (pa_cons (pv 0) (pa_cons (pe_op op_add (pe_callB call_len (by rfl) n_len (by decide +kernel) (pa_cons (pv 5) pa_nil)) pe_int) pa_nil))))
    (pss_one (ps_ret (pe_callB (cr_sortedD hr.units) (by rfl) n_sorted (by decide +kernel) (pa_cons (pe_lc (own := [("one", 8)]) (g := gName 8) (tt := tYes) rfl sc_lnames.nd (pi_list (pv 3)) (blkOk_by (own := [("one", 8)]) (N := ["deal", "many", "letters", "row", "pool", "base", "at", "place", "one"]) (sc := defScope s_lnames) (by decide +kernel)) (fun _ _ _ _ _ => (pg_name (i := 8) sc_lnames.nd rfl (Or.inl rfl))) (fun _ _ _ _ _ => pts_nil) (fun _ _ _ _ _ => (pe_op op_add_str (pe_op op_add_str (pe_joinK (K := K) rfl pe_str (pe_slice (r := rSlL K) sl_list (pv 5) po_none (po_some (pv 7)))) (pv 8)) (pe_joinK (K := K) rfl pe_str (pe_slice (r := rSlL K) sl_list (pv 5) (po_some (pv 7)) po_none))))) pa_nil)))))))))), ?_⟩
  have n3 : n ≤ 3 := n3
  have hn := dat_int hn
  subst hn
  have line := sizeLine_eq
  refine s_set (De.str (K := K)) L.bh fun v1 B1 H1 e1 h1 => ?_
  have h1 := dat_str h1
  subst h1
  have eA := ExtD.of L e1
  have L1 := eA.dl
  refine s_parR ⟨Nat.zero_le _, fun M hM => ⟨_, rfl, _, rfl, (by rw [line]; decide +kernel), fun P' hP => ?_⟩⟩
  obtain ⟨m0, e0⟩ := Ml.new (xs := []) L1 hM
  have ne : M ≠ P' := fun e => by
    rw [← e, upd_same] at hP
    cases hP
  have hP1 : H1 P' = none := by
    rw [upd_ne ne.symm] at hP
    exact hP
  obtain ⟨m1, e1'⟩ := Ml.new (xs := (Wv.signs (Str.ofString "abcdefghijklmnopqrstuvwxyz")).map .str) e0.dl hP
  have m0 := m0.ext e1'
  have e01 := e0.trans L1 e1'
  refine whileI (fun σ J => ∃ (B' : Hp) (zs ps : List Str), σ = [some (.ref d), some (.int (n : Int)), some (.str "abcdefghijklmnopqrstuvwxyz"), some (.ref M), some (.ref P'), none, none, none, none] ∧ ExtD d c B1 H1 B' J ∧ Ml d c B' J M (zs.map .str) ∧ Ml d c B' J P' (ps.map .str) ∧ zs.length ≤ n ∧ zs.length + ps.length = 26 ∧ (∀ z ∈ zs, Nmk 1 z) ∧ ∀ z ∈ ps, Nmk 1 z)
    (fun σ J => ∃ (B' : Hp) (zs : List Str), σ = [some (.ref d), some (.int (n : Int)), some (.str "abcdefghijklmnopqrstuvwxyz"), some (.ref M), some (.ref P'), none, none, none, none] ∧ ExtD d c B1 H1 B' J ∧ Ml d c B' J M (zs.map .str) ∧ zs.length = n ∧ ∀ z ∈ zs, Nmk 1 z)
    (fun _ J => match J M with | some (.lst xs) => n - xs.length | _ => 0)
    ⟨B1, [], Wv.signs (Str.ofString "abcdefghijklmnopqrstuvwxyz"), rfl, e01, m0, m1, Nat.zero_le _, by decide +kernel, (fun z h => nomatch h), letters_nm⟩ ?_ ?_
  · rintro σ J ⟨B2, zs, rfl, e2, mM, lz, nz⟩
    refine s_ifSR (t_any0 (K := K) e2.dl rfl .int (by decide) (by decide) fun b B3 H3 e3 => ?_)
    have m3 := mM.ext e3
    have e13 := e2.trans L1 e3
    have eD := e13.settle m3 hM
    have hrow : dat K (.list (zs.map .str)) (upd B3 M (.lst (zs.map V.str))) (.ref M) := .lst (SqL.of upd_same) (strs_dpAll zs)
    refine ite2 (fun _ => ?_) (fun _ => ?_)
    · refine s_ret (De.sorted (.var hrow rfl) (alike_str zs) (sortok_str zs) (depth_str zs)) eD.bh fun v B' H' e h => ?_
      obtain ⟨ys, perm, es⟩ := sortD_strs zs
      rw [es] at h
      exact k _ _ _ (eA.trans L (eD.trans L1 (.of eD.dl e))) ⟨_, ⟨ys, rfl, by rw [perm.length_eq, lz], fun z hz => (nz z (perm.mem_iff.mp hz)).mono (by decide)⟩, h⟩
    refine s_raw (c_lcAny (K := K) eD.dl rfl .int (by decide) (by decide) (by decide) (by decide) fun r B4 H4 r0 r1 e4 => ?_)
    refine (Dw.lc (K := K) (as := List.range (1 + r).toNat) (r := fun i : Nat => dat K (.int (0 + (i : Int)))) (fun _ x => ∃ z, x = .str z ∧ Nmk 1 z) (Di.itr (K := K)) (by rw [List.length_range]; omega) fun i x Bn _ sb _ => ⟨[some (.ref d), some (.int (n : Int)), some (.str "abcdefghijklmnopqrstuvwxyz"), some (.ref M), some (.ref P'), none, some x, none, none], fun _ _ _ q => q, rfl, .cv (Dw.ofTxt (K := K) rfl (.var (Dp.str _) rfl) (by decide +kernel) (by decide +kernel)) fun B v ⟨x, ⟨a, hx, ha⟩, hv⟩ => ⟨x, ⟨_, hx, Nmk.one ((show ∀ a ∈ (Str.ofString "abcdefghijklmnopqrstuvwxyz").cps.toList, a < 128 by decide +kernel) a ha)⟩, hv⟩⟩) B4 H4 (Same.refl _) e4.dl _ fun v5 B5 H5 e5 ⟨x5, ⟨ds, hx5, hE⟩, h5⟩ => ?_
    subst hx5
    obtain ⟨bs, rfl, hb⟩ := strs_of (P := Nmk 1) fun y hy => by
      obtain ⟨_, _, h⟩ := each_mem hE y hy
      exact h
    have lb : bs.length ≤ 7 := by
      have := hE.1
      rw [List.length_map, List.length_range] at this
      omega
    have e45 := (eD.trans L1 e4).trans L1 e5
    refine s_raw (c_any (K := K) e5.dl rfl (.op (.lenL (.var h5 rfl)) .int Rv.I0) (by omega) (by rw [List.length_map]; omega) fun r6 B6 H6 _ _ e6 => ?_)
    have e56 := e45.trans L1 e6
    have h5 := Mo.mo e6.bb h5
    have hrow := Mo.mo (((e4.bb.trans e5.bb).trans e6.bb)) hrow
    have cm : ∀ lo hi, (∀ z ∈ cutA bs lo hi, Nmk 1 z) ∧ (cutA bs lo hi).length ≤ 7 := fun lo hi => ⟨fun z hz => hb z (cutA_mem hz), Nat.le_trans (cutA_len _ _ _) lb⟩
    have jn : ∀ lo hi, Nmk 7 (Txt.join (Str.ofString "") (cutA bs lo hi)) := fun lo hi => (join_nm (n := 1) ⟨Nat.le_refl _, by decide +kernel⟩ (cm lo hi).1).mono (by have := (cm lo hi).2; omega)
    have js : ∀ lo hi, ((cutA bs lo hi).map (·.length)).sum + (cutA bs lo hi).length * (Str.ofString "").length ≤ 16777216 := fun lo hi => by
      have a := sum_le (cm lo hi).1
      have b := (cm lo hi).2
      have : (Str.ofString "").length = 0 := by decide +kernel
      rw [this]
      omega
    refine s_ret (De.eq (De.sorted (ds := (zs.map fun z => Txt.join (Str.ofString "") (cutA bs none (some r6)) ++ z ++ Txt.join (Str.ofString "") (cutA bs (some r6) none)).map .str) (De.eq (De.lcA (K := K) (as := zs) (r := fun z => dat K (.str z)) (Di.listM (f := PyData.str) (.var hrow rfl)) (fun z => .str (Txt.join (Str.ofString "") (cutA bs none (some r6)) ++ z ++ Txt.join (Str.ofString "") (cutA bs (some r6) none))) (by omega) fun z x Bn Hn hz sb _ hx => ⟨_, fun Q q => q, rfl, ?_⟩) (by rw [List.map_map]; rfl)) (alike_str _) (sortok_str _) (depth_str _)) rfl) e6.bh fun v B' H' e h => ?_
    · have lz1 := (nz z hz).1
      have j1 := (jn none (some r6)).1
      have j2 := (jn (some r6) none).1
      refine De.op (De.op (De.join (zs := cutA bs none (some r6)) .str (De.eq (De.slL (.var (Mo.mo sb h5) rfl) .none (.some (K := K) (.var (Dp.int r6) rfl))) (by rw [cutA_map])) (js _ _)) (.var hx rfl) (Rv.addS (by omega))) (De.join (zs := cutA bs (some r6) none) .str (De.eq (De.slL (.var (Mo.mo sb h5) rfl) (.some (K := K) (.var (Dp.int r6) rfl)) .none) (by rw [cutA_map])) (js _ _)) (Rv.addS ?_)
      have := ((jn none (some r6)).app (nz z hz)).1
      omega
    · obtain ⟨ys, perm, es⟩ := sortD_strs (zs.map fun z => Txt.join (Str.ofString "") (cutA bs none (some r6)) ++ z ++ Txt.join (Str.ofString "") (cutA bs (some r6) none))
      rw [es] at h
      refine k _ _ _ (eA.trans L (e56.trans L1 (.of e56.dl e))) ⟨_, ⟨ys, rfl, by rw [perm.length_eq, List.length_map, lz], fun y hy => ?_⟩, h⟩
      obtain ⟨z, hz, rfl⟩ := List.mem_map.mp (perm.mem_iff.mp hy)
      exact (((jn _ _).app (nz z hz)).app (jn _ _)).mono (by decide)
  · rintro σ J ⟨B2, zs, ps, rfl, e2, mM, mP, lz, l26, nz, np⟩ Y Z hY hZ
    refine ⟨_, rfl, _, (zs.map V.str).length, rfl, .inl ⟨_, SqL.of mM.at_, rfl⟩, _, rfl, _, _, rfl, rfl, _, rfl, ?_⟩
    rw [List.length_map]
    refine ite2 (fun h => hY _ ?_) (fun h => hZ _ ?_)
    · have lt : zs.length < n := by have := of_decide_eq_true h; omega
      refine ⟨_, rfl, .inl ⟨rfl, _, SqL.of mM.at_⟩, c_popAny (K := K) e2.dl rfl rfl mP (by rw [List.length_map]; omega) (by rw [List.length_map]; omega) fun r x H2 hx e3 mP3 => ?_⟩
      rw [List.getElem?_map] at hx
      obtain ⟨y, hy, rfl⟩ := Option.map_eq_some_iff.mp hx
      have mM3 := (mM.ext e3).other (o := .lst ((ps.map V.str).eraseIdx r)) ne
      have mP4 := (Ml.set (ys := (ps.map V.str).eraseIdx r) e3.dl mP3).1
      have e23 := (e2.trans L1 e3).setL (ys := (ps.map V.str).eraseIdx r) mP3 hP1
      have lr : r < ps.length := (List.getElem?_eq_some_iff.mp hy).1
      refine ⟨M, _, .str y, rfl, rfl, mM3.at_, by rw [List.length_map]; omega, ⟨B2, zs ++ [y], ps.eraseIdx r, rfl, e23.setL mM3 hM, ?_, ?_, by simp; omega, ?_, ?_, ?_⟩, ?_⟩
      · rw [List.map_append]
        exact (Ml.set e23.dl mM3).1
      · have := mP4.other (o := .lst (zs.map V.str ++ [V.str y])) ne.symm
        rw [← erase_map V.str ps r]
        exact this
      · rw [List.length_eraseIdx_of_lt lr]
        simp
        omega
      · intro z hz
        rcases List.mem_append.mp hz with h | h
        · exact nz z h
        · rw [List.mem_singleton.mp h]
          exact np y (List.mem_of_getElem? hy)
      · exact fun z hz => np z (List.mem_of_mem_eraseIdx hz)
      · show (match upd (upd H2 P' _) M _ M with | some (.lst xs) => n - xs.length | _ => 0) < (match J M with | some (.lst xs) => n - xs.length | _ => 0)
        rw [upd_same, mM.at_]
        simp
        omega
    · have ge : ¬ zs.length < n := fun q => h (decide_eq_true (by omega))
      exact ⟨B2, zs, rfl, e2, mM, by omega, nz⟩
theorem sc_lquestions : FnScope ["deal", "most", "names", "name"] ["deal", "most"] (defScope s_lquestions) := ⟨rfl, rfl, rfl, by decide +kernel, rfl, by decide +kernel, by decide +kernel⟩
theorem ok_lquestions (D : Def K mg "_law_questions" s_lquestions ["deal", "most"]) (C_lnames : Cal P w K mg base CX0 3 "_law_names" s_lnames ["deal", "many"] (sp_lnames K)) (C_any : Cal P w K mg base CX0 1 "_law_any" s_any ["deal", "bound"] spAny) (n_len : mg "len" = none) (n_tuple : mg "tuple" = none) : Cal P w K mg base CX0 4 "_law_questions" s_lquestions ["deal", "most"] (sp_lquestions K) := by
  refine D.ok sc_lquestions (fun vs H Q E h => ?_) (fun cdv f A outer s H vs Q E hr h => ?_)
  · exact dpf_len h fun _ => rfl
  replace h := dpf1 h
  obtain ⟨d, vn, c, B, _, rfl, L, hn, _, k⟩ := h
  refine ⟨_, (pss_cons (ps_set (i := 2) sc_lquestions.nd rfl (Or.inr rfl) (pe_cal C_lnames (hr.mono (by decide)) (by rfl) pass0 (pa_cons (pv 0) (pa_cons (pe_op op_add pe_int (pe_cal C_any (hr.mono (by decide)) (by rfl) pass0 (pa_cons (pv 0) (pa_cons (pv 1) pa_nil)))) pa_nil))))
    (pss_one (ps_ret (pe_callTy call_tuple_of (by rfl) n_tuple (by decide +kernel) (pa_cons (pe_lc (own := [("name", 3)]) (g := gName 3) (tt := tYes) rfl sc_lquestions.nd (pi_list (pv 2)) (blkOk_by (own := [("name", 3)]) (N := ["deal", "most", "names", "name"]) (sc := defScope s_lquestions) (by decide +kernel)) (fun _ _ _ _ _ => (pg_name (i := 3) sc_lquestions.nd rfl (Or.inl rfl))) (fun _ _ _ _ _ => pts_nil) (fun _ _ _ _ _ => (pe_tup (pa_cons (pv 3) (pa_cons (pe_ifExp (pt_cmpR op_lt (pe_callB (id := "len") (r := rLen K) call_len (by rfl) n_len (by decide +kernel) (pa_cons (pv 2) pa_nil)) pe_int (nomark _)) (pe_op op_add pe_int (pe_cal C_any (hr.mono (by decide)) (by rfl) pass0 (pa_cons (pv 0) (pa_cons pe_int pa_nil)))) pe_int) pa_nil))))) pa_nil))))), ?_⟩
  have hn := dat_int hn
  subst hn
  have line := sizeLine_eq
  refine s_w L (Dw.def (S := datP K fun x => ∃ n, n ≤ 3 ∧ 1 ≤ n ∧ namesP n x) rfl (.one (Dw.op (Dw.int) (Dw.any (K := K) rfl (.var (Dp.int 3) rfl) (by decide) (by decide)) fun _ => Rv.intP)) fun B vs hv => ?_) fun v B1 H1 e1 h1 => ?_
  · obtain ⟨x, r, rfl, ⟨j, ⟨a, b, ha, hb, hj⟩, hx⟩, hr⟩ := hv
    subst ha
    refine ⟨j.toNat, ⟨x, r, rfl, ?_, hr⟩, (by show j.toNat ≤ 3; omega), fun B v ⟨x, hx, hv⟩ => ⟨x, ⟨j.toNat, by omega, by omega, hx⟩, hv⟩⟩
    rw [hx, show ((j.toNat : Nat) : Int) = j by omega]
    exact .int _
  · obtain ⟨x, ⟨n, n3, n1, zs, hx, hl, hz⟩, h1⟩ := h1
    subst hx
    refine s_retW e1.dl (Dw.tupleL (Dw.lc (K := K) (as := zs) (r := fun z => dat K (.str z)) (fun z x => ∃ m : Nat, x = encQ (z, m) ∧ 2 ≤ m ∧ m ≤ 3) (Di.listM (f := PyData.str) (.var h1 rfl)) (by omega) fun z x Bn hz sb hx => ⟨[some (.ref d), some (.int 3), some v, some x], fun _ _ _ q => q, rfl, ?_⟩)) fun u B2 H2 e2 h2 => ?_
    · refine Dw.cv (Dw.tup (K := K) (Dwa.cons (.of (.var hx rfl)) (Dwa.one (Dw.ite (S := intP fun j => 2 ≤ j ∧ j ≤ 3) (Dtw.of (Dt.test (K := K) (De.op (De.lenL (.var (Mo.mo sb h1) rfl)) .int Rv.I0b))) (.cv (Dw.op Dw.int (Dw.any (K := K) rfl .int (by decide) (by decide)) fun _ => Rv.intP) fun B v ⟨j, ⟨a, b, ha, hb, hj⟩, hv⟩ => ⟨j, by omega, hv⟩) (.cv Dw.int fun B v ⟨j, hj, hv⟩ => ⟨j, by omega, hv⟩)))) (by rw [line]; show 2 ≤ _; decide)) fun B v hv => ?_
      obtain ⟨a, xs, rfl, hs, x1, r1, rfl, hx1, x2, r2, rfl, ⟨j, hj, hx2⟩, hr⟩ := hv
      have hr : r2 = [] := hr
      subst hr
      refine ⟨_, ⟨j.toNat, rfl, by omega, by omega⟩, .tup hs (.cons hx1 (.cons ?_ .nil))⟩
      rw [hx2, show ((j.toNat : Nat) : Int) = j by omega]
      exact .int _
    · obtain ⟨x, ⟨ds, hx, hE⟩, h2⟩ := h2
      subst hx
      have mk : ∀ {zs : List Str} {ds : List PyData}, Each (fun z x => ∃ m : Nat, x = encQ (z, m) ∧ 2 ≤ m ∧ m ≤ 3) zs ds → ∃ qs : Qs, ds = qs.map encQ ∧ names qs = zs ∧ ∀ q ∈ qs, 2 ≤ q.2 ∧ q.2 ≤ 3 := by
        intro zs
        induction zs with
        | nil =>
          intro ds h
          have : ds = [] := List.eq_nil_of_length_eq_zero h.1
          subst this
          exact ⟨[], rfl, rfl, fun q h => nomatch h⟩
        | cons z zs ih =>
          intro ds h
          cases ds with
          | nil => cases h.1
          | cons y ds =>
            obtain ⟨m, hy, hm⟩ := h.2 0 z y rfl rfl
            obtain ⟨qs, e1, e2, e3⟩ := ih (ds := ds) ⟨Nat.succ.inj h.1, fun i a x ha hx => h.2 (i + 1) a x (by simpa using ha) (by simpa using hx)⟩
            refine ⟨(z, m) :: qs, by rw [hy, e1]; rfl, by unfold names at *; rw [List.map_cons, e2], fun q hq => ?_⟩
            rcases List.mem_cons.mp hq with rfl | hq
            · exact hm
            · exact e3 q hq
      obtain ⟨qs, rfl, en, hq⟩ := mk hE
      have ln : qs.length = n := by
        rw [← hl, ← en]
        unfold names
        rw [List.length_map]
      exact k _ _ _ (e1.trans L e2) ⟨_, ⟨qs, rfl, by omega, by omega, hq, by rw [en]; exact hz⟩, h2⟩
theorem sc_lrows : FnScope ["sizes", "found", "size", "longer", "row", "number"] ["sizes"] (defScope s_lrows) := ⟨rfl, rfl, rfl, by decide +kernel, rfl, by decide +kernel, by decide +kernel⟩
theorem ok_lrows (D : Def K mg "_law_rows" s_lrows ["sizes"]) (n_range : mg "range" = none) : Cal P w K mg base CX0 1 "_law_rows" s_lrows ["sizes"] (sp_lrows K) := by
  refine D.ok sc_lrows (fun vs H Q E h => ?_) (fun cdv f A outer s H vs Q E hr h => ?_)
  · exact pf_len h fun _ => rfl
  replace h := pf1 h
  obtain ⟨v, B, ss, rfl, hB, hv, ⟨few, small⟩, k⟩ := h
  refine ⟨_, (pss_cons (ps_set (i := 1) sc_lrows.nd rfl (Or.inl rfl) (pe_lst (pa_cons (pe_tup pa_nil) pa_nil)))
    (pss_cons (ps_for PassesOwn.never rfl (pi_list (pv 0)) (pg_name (i := 2) sc_lrows.nd rfl (Or.inl rfl)) (pss_cons (ps_set (i := 3) sc_lrows.nd rfl (Or.inl rfl) (pe_lst pa_nil))
      (pss_cons (ps_for PassesOwn.never rfl (pi_list (pv 1)) (pg_name (i := 4) sc_lrows.nd rfl (Or.inr rfl)) (pss_one (ps_set (i := 3) sc_lrows.nd rfl (Or.inl rfl) (pe_op op_catS (pv 3) (pe_lc (own := [("number", 5)]) (g := gName 5) (tt := tYes) rfl sc_lrows.nd (pi_range1 rfl n_range (pa_cons (pv 2) pa_nil)) (blkOk_by (own := [("number", 5)]) (N := ["sizes", "found", "size", "longer", "row", "number"]) (sc := defScope s_lrows) (by decide +kernel)) (fun _ _ _ _ _ => (pg_name (i := 5) sc_lrows.nd rfl (Or.inl rfl))) (fun _ _ _ _ _ => pts_nil) (fun _ _ _ _ _ => (pe_op (r := rCatA K) op_catA (pv 4) (pe_tup (pa_cons (pv 5) pa_nil)))))))))
      (pss_one (ps_set (i := 1) sc_lrows.nd rfl (Or.inl rfl) (pv 3))))))
    (pss_one (ps_ret (pv 1))))), ?_⟩
  have few : ss.length ≤ 4 := few
  have small : ∀ n ∈ ss, n ≤ 4 := small
  have line := sizeLine_eq
  refine s_set (De.lstD (K := K) (.cons (De.tupD .nil (by show 0 ≤ sizeLine; decide)) .nil) (by show 1 ≤ sizeLine; decide)) hB fun v2 B1 H1 e1 h2 => ?_
  refine s_forS (Di.listM (K := K) (as := ss) (f := fun n : Nat => .int (n : Int)) (.var (Mo.mo e1.bb hv) rfl)) e1.bh (fun i σ B => ∃ u v3 v4 v5 v6, σ = [some v, some u, v3, v4, v5, v6] ∧ dat K (rowsL (grow ((ss.take i).map (rng 0)))) B u) (fun B' s => ⟨v2, _, _, _, _, rfl, Mo.mo s h2⟩) ?_ ?_
  · rintro B2 H2 e2 i R x σ' Bc Bn Hn hR ⟨u, v3, v4, v5, v6, rfl, hu⟩ s e hx
    rw [List.getElem?_map] at hR
    obtain ⟨n, hn, rfl⟩ := Option.map_eq_some_iff.mp hR
    have hx := dat_int hx
    subst hx
    have i4 : i < 4 := by
      have := (List.getElem?_eq_some_iff.mp hn).1
      omega
    have n4 : n ≤ 4 := small n (List.mem_of_getElem? hn)
    have tk : (ss.take (i + 1)).map (rng 0) = (ss.take i).map (rng 0) ++ [rng 0 n] := by rw [take_snoc hn, List.map_append]; rfl
    have gl : (grow ((ss.take i).map (rng 0))).length ≤ 4 ^ 4 := by
      refine Nat.le_trans (grow_len (m := 4) _ fun l hl => ?_) (Nat.pow_le_pow_right (by decide) ?_)
      · obtain ⟨m, hm, rfl⟩ := List.mem_map.mp hl
        rw [rng_len]
        exact small m (List.mem_of_mem_take hm)
      · rw [List.length_map, List.length_take]
        omega
    have rl : ∀ a ∈ grow ((ss.take i).map (rng 0)), a.length ≤ 4 := fun a ha => by
      rw [grow_row ha, List.length_map, List.length_take]
      omega
    rw [tk, grow_snoc]
    generalize grow ((ss.take i).map (rng 0)) = rows at hu gl rl
    refine s_set (De.lstD (K := K) .nil (by show 0 ≤ sizeLine; decide)) e.bh fun v8 B8 H8 e8 h8 => ?_
    refine s_forS (Di.listM (K := K) (as := rows) (f := rowD) (.var (Mo.mo (s.trans e8.bb) hu) rfl)) e8.bh (fun j σ B => ∃ u5 v6 v7, σ = [some v, some u, some (.int (n : Int)), some u5, v6, v7] ∧ dat K (rowsL (grow1 (rows.take j) (rng 0 n))) B u5) (fun B' s => ⟨v8, _, _, rfl, Mo.mo s h8⟩) ?_ ?_
    · rintro B3 H3 e3 j R x σ' Bc Bm Hm hR ⟨u5, v6, v7, rfl, h5⟩ s' em hx
      rw [List.getElem?_map] at hR
      obtain ⟨a, ha, rfl⟩ := Option.map_eq_some_iff.mp hR
      have a4 := rl a (List.mem_of_getElem? ha)
      have len : (grow1 (rows.take j) (rng 0 n)).length ≤ 4 ^ 4 * 4 := by
        rw [grow1_len, rng_len, List.length_take]
        exact Nat.mul_le_mul (by omega) n4
      refine s_setE (De.op (r := rCatS K) (.var (Mo.mo s' h5) rfl) (De.lcA (K := K) (as := List.range n) (r := fun m : Nat => dat K (.int (m : Int))) (Di.rng (.var (Dp.int _) rfl) (by omega)) (fun m => rowD (a ++ [0 + (m : Int)])) (by rw [List.length_range]; omega) fun m x7 B7 H7 _ s7 _ h7 => ⟨_, fun Q q => q, rfl, ?_⟩) (Rv.catS (by rw [List.length_map, List.length_map, List.length_range]; omega))) em.bh fun v9 B9 H9 e9 h9 => ⟨B9, em.trans e9, v9, _, _, rfl, ?_⟩
      · refine De.eq (d := .tuple (a.map .int ++ [.int (m : Int)])) (De.op (r := rCatA K) (De.var (Mo.mo s7 hx) rfl) (De.tupD (ds := [.int (m : Int)]) (.cons (.var h7 rfl) .nil) (by show 1 ≤ sizeLine; decide)) (Rv.catT (by rw [List.length_map]; show _ + 1 ≤ _; omega))) ?_
        unfold rowD
        rw [List.map_append, Int.zero_add]
        rfl
      · have e : grow1 (rows.take (j + 1)) (rng 0 n) = grow1 (rows.take j) (rng 0 n) ++ (List.range n).map fun m : Nat => a ++ [0 + (m : Int)] := by
          unfold grow1 rng
          rw [take_snoc ha, List.flatMap_append]
          simp
        rw [e]
        unfold rowsL
        rw [List.map_append, List.map_map]
        exact h9
    · rintro σ' B' H' e3 ⟨u5, v6, v7, rfl, h5⟩
      rw [List.length_map, List.take_length] at h5
      exact s_setE (De.var h5 rfl) e3.bh fun v9 B9 H9 e9 h9 => ⟨B9, ((e.trans e8).trans e3).trans e9, v9, _, _, _, _, rfl, h9⟩
  · rintro σ' B' H' e2 ⟨u, v3, v4, v5, v6, rfl, hu⟩
    rw [List.length_map, List.take_length] at hu
    exact s_ret (.var hu rfl) e2.bh fun v B H e h => k v B H ((e1.trans e2).trans e) h
theorem sc_ltruths : FnScope ["questions", "name", "many"] ["questions"] (defScope s_ltruths) := ⟨rfl, rfl, rfl, by decide +kernel, rfl, by decide +kernel, by decide +kernel⟩
theorem ok_ltruths (D : Def K mg "_law_truths" s_ltruths ["questions"]) (C_lrows : Cal P w K mg base CX0 1 "_law_rows" s_lrows ["sizes"] (sp_lrows K)) : Cal P w K mg base CX0 2 "_law_truths" s_ltruths ["questions"] (sp_ltruths K) := by
  refine D.ok sc_ltruths (fun vs H Q E h => ?_) (fun cdv f A outer s H vs Q E hr h => ?_)
  · exact pf_len h fun _ => rfl
  replace h := pf1 h
  obtain ⟨v, B, qs, rfl, hB, hv, qk, k⟩ := h
  refine ⟨_, (pss_one (ps_ret (pe_cal C_lrows (hr.mono (by decide)) (by rfl) pass0 (pa_cons (pe_lc (own := [("name", 1), ("many", 2)]) (g := gTup K 2 (gCons (gName 1) (gCons (gName 2) gNil))) (tt := tYes) rfl sc_ltruths.nd (pi_tup (pv 0)) (blkOk_by (own := [("name", 1), ("many", 2)]) (N := ["questions", "name", "many"]) (sc := defScope s_ltruths) (by decide +kernel)) (fun _ _ _ _ _ => (pg_tup rfl (pgs_cons (pg_name (i := 1) sc_ltruths.nd rfl (Or.inl rfl)) (pgs_cons (pg_name (i := 2) sc_ltruths.nd rfl (Or.inl rfl)) pgs_nil)))) (fun _ _ _ _ _ => pts_nil) (fun _ _ _ _ _ => (pv 2))) pa_nil)))), ?_⟩
  have qk : QsOk qs := qk
  have three := qk.three
  refine s_ret (De.conv (S := dat K (rowsL (grow (qs.map fun q => rng 0 q.2)))) (De.call (qs.map (·.2)) (.one (De.eq (De.lcA (K := K) (as := qs) (r := fun q => dat K (encQ q)) (Di.tupM (.var hv rfl)) (fun q => .int (q.2 : Int)) (by rw [sizeLine_eq]; omega) fun q x Bn Hn _ _ sh hx => ?_) (by rw [List.map_map]; rfl))) ⟨by rw [List.length_map]; omega, fun n hn => ?_⟩) fun B v h => ?_) hB k
  · obtain ⟨y, z, hy, hz, go⟩ := gTup2 sh (dat_pair hx)
    exact ⟨_, fun Q q => go Q q, rfl, .var hz rfl⟩
  · obtain ⟨q, hq, rfl⟩ := List.mem_map.mp hn
    have := (qk.sz q hq).2
    omega
  · rw [List.map_map] at h
    exact h
theorem sc_lwithin : FnScope ["lot", "found", "name", "one"] ["lot"] (defScope s_lwithin) := ⟨rfl, rfl, rfl, by decide +kernel, rfl, by decide +kernel, by decide +kernel⟩
theorem ok_lwithin (D : Def K mg "_law_within" s_lwithin ["lot"]) (n_sorted : mg "sorted" = none) : Cal P w K mg base CX0 1 "_law_within" s_lwithin ["lot"] (sp_lwithin K) := by
  refine D.ok sc_lwithin (fun vs H Q E h => ?_) (fun cdv f A outer s H vs Q E hr h => ?_)
  · exact pf_len h fun _ => rfl
  replace h := pf1 h
  obtain ⟨v, B, l, rfl, hB, hv, few, k⟩ := h
  refine ⟨_, (pss_cons (ps_set (i := 1) sc_lwithin.nd rfl (Or.inl rfl) (pe_lst (pa_cons (pe_tup pa_nil) pa_nil)))
    (pss_cons (ps_for PassesOwn.never rfl (pi_tup (pv 0)) (pg_name (i := 2) sc_lwithin.nd rfl (Or.inr rfl)) (pss_one (ps_set (i := 1) sc_lwithin.nd rfl (Or.inl rfl) (pe_op op_catS (pv 1) (pe_lc (own := [("one", 3)]) (g := gName 3) (tt := tYes) rfl sc_lwithin.nd (pi_list (pv 1)) (blkOk_by (own := [("one", 3)]) (N := ["lot", "found", "name", "one"]) (sc := defScope s_lwithin) (by decide +kernel)) (fun _ _ _ _ _ => (pg_name (i := 3) sc_lwithin.nd rfl (Or.inl rfl))) (fun _ _ _ _ _ => pts_nil) (fun _ _ _ _ _ => (pe_op (r := rCatA K) op_catA (pv 3) (pe_tup (pa_cons (pv 2) pa_nil)))))))))
    (pss_one (ps_ret (pe_callB (cr_sortedD hr.units) (by rfl) n_sorted (by decide +kernel) (pa_cons (pv 1) pa_nil)))))), ?_⟩
  have few : l.length ≤ 4 := few
  refine s_set (De.lstD (K := K) (.cons (De.tupD .nil (by show 0 ≤ sizeLine; decide)) .nil) (by show 1 ≤ sizeLine; decide)) hB fun v1 B1 H1 e1 h1 => ?_
  refine s_forS (Di.tupM (K := K) (as := l) (f := PyData.str) (.var (Mo.mo e1.bb hv) rfl)) e1.bh (fun i σ B => ∃ u v3 v4, σ = [some v, some u, v3, v4] ∧ dat K (.list ((subs (l.take i)).map lotD)) B u) (fun B' s => ⟨v1, _, _, rfl, Mo.mo s h1⟩) ?_ ?_
  · rintro B2 H2 e2 i R x σ' Bc Bn Hn hR ⟨u, v3, v4, rfl, hu⟩ s e hx
    rw [List.getElem?_map] at hR
    obtain ⟨n, hn, rfl⟩ := Option.map_eq_some_iff.mp hR
    have i4 := (List.getElem?_eq_some_iff.mp hn).1
    have tk := take_snoc hn
    have sl := subs_len l i (by omega)
    have p4 : 2 ^ i ≤ 2 ^ 4 := Nat.pow_le_pow_right (by decide) (by omega)
    refine s_setE (De.op (r := rCatS K) (De.var (Mo.mo s hu) rfl) (De.lcA (K := K) (as := subs (l.take i)) (r := fun a => dat K (lotD a)) (Di.listM (f := lotD) (.var (Mo.mo s hu) rfl)) (fun a => lotD (a ++ [n])) (by rw [sl, sizeLine_eq]; omega) fun a y Bm Hm ha sm _ hy => ⟨_, fun Q z => z, rfl, ?_⟩) (Rv.catS (by rw [List.length_map, List.length_map, sl, sizeLine_eq]; omega))) e.bh fun v6 B6 H6 e6 h6 => ⟨B6, e.trans e6, v6, _, _, rfl, ?_⟩
    · refine De.eq (d := .tuple (a.map .str ++ [.str n])) (De.op (r := rCatA K) (De.var hy rfl) (De.tupD (ds := [.str n]) (.cons (.var (Mo.mo sm hx) rfl) .nil) (by show 1 ≤ sizeLine; decide)) (Rv.catT ?_)) ?_
      · rw [List.length_map, sizeLine_eq]
        have := subs_row ha
        show _ + 1 ≤ _
        rw [List.length_take] at this
        omega
      · unfold lotD
        rw [List.map_append]
        rfl
    · rw [tk, subs_snoc, List.map_append, List.map_map]
      exact h6
  · rintro σ' B' H' e2 ⟨u, v3, v4, rfl, hu⟩
    rw [List.length_map, List.take_length] at hu
    exact s_ret (De.sorted (.var hu rfl) (alike_lots _) (Fm.ok_lots _) (depth_lots _)) e2.bh fun v B H e h => k v B H ((e1.trans e2).trans e) h
theorem sc_llots : FnScope ["questions", "name", "many"] ["questions"] (defScope s_llots) := ⟨rfl, rfl, rfl, by decide +kernel, rfl, by decide +kernel, by decide +kernel⟩
theorem ok_llots (D : Def K mg "_law_lots" s_llots ["questions"]) (C_lwithin : Cal P w K mg base CX0 1 "_law_within" s_lwithin ["lot"] (sp_lwithin K)) (n_tuple : mg "tuple" = none) : Cal P w K mg base CX0 2 "_law_lots" s_llots ["questions"] (sp_llots K) := by
  refine D.ok sc_llots (fun vs H Q E h => ?_) (fun cdv f A outer s H vs Q E hr h => ?_)
  · exact pf_len h fun _ => rfl
  replace h := pf1 h
  obtain ⟨v, B, qs, rfl, hB, hv, qk, k⟩ := h
  refine ⟨_, (pss_one (ps_ret (pe_cal C_lwithin (hr.mono (by decide)) (by rfl) pass0 (pa_cons (pe_callTy call_tuple_of (by rfl) n_tuple (by decide +kernel) (pa_cons (pe_lc (own := [("name", 1), ("many", 2)]) (g := gTup K 2 (gCons (gName 1) (gCons (gName 2) gNil))) (tt := tYes) rfl sc_llots.nd (pi_tup (pv 0)) (blkOk_by (own := [("name", 1), ("many", 2)]) (N := ["questions", "name", "many"]) (sc := defScope s_llots) (by decide +kernel)) (fun _ _ _ _ _ => (pg_tup rfl (pgs_cons (pg_name (i := 1) sc_llots.nd rfl (Or.inl rfl)) (pgs_cons (pg_name (i := 2) sc_llots.nd rfl (Or.inl rfl)) pgs_nil)))) (fun _ _ _ _ _ => pts_nil) (fun _ _ _ _ _ => (pv 1))) pa_nil)) pa_nil)))), ?_⟩
  have qk : QsOk qs := qk
  have three := qk.three
  refine s_ret (De.call (names qs) (.one (De.eq (De.tupleL (De.lcA (K := K) (as := qs) (r := fun q => dat K (encQ q)) (Di.tupM (.var hv rfl)) (fun q => .str q.1) (by rw [sizeLine_eq]; omega) fun q x Bn Hn _ _ sh hx => ?_)) (e := lotD (names qs)) (by unfold lotD names; rw [List.map_map]; rfl))) (by show (names qs).length ≤ 4; unfold names; rw [List.length_map]; omega)) hB k
  obtain ⟨y, z, hy, hz, go⟩ := gTup2 sh (dat_pair hx)
  exact ⟨_, fun Q q => go Q q, rfl, .var hy rfl⟩
end
end K69

set_option Elab.async false
set_option linter.all false
set_option maxRecDepth 100000
set_option maxHeartbeats 4000000
/-! K69d: drawn tests and worths. -/
namespace K69
open PySem PySem.Spec PyProof.Rows L2 Wb Wv Fm As
def tstP (ns : List Str) (d : Int) (x : PyData) : Prop := ∃ t : Tst, x = t.enc ∧ t.ok ns ∧ (t.dp : Int) ≤ d + 1
def wthP (ns : List Str) (d : Int) (x : PyData) : Prop := ∃ t : Wth, x = t.enc ∧ t.ok ns ∧ (t.dp : Int) ≤ d + 2
abbrev sp_ltest (K : PySem.W.Frag) (n : Nat) : Sp := DPf (α := Qs × Int) (fun a => [dat K (qsD a.1), dat K (.int a.2)]) (fun a => QsOk a.1 ∧ 0 ≤ a.2 ∧ a.2 < n) (fun a => datP K (tstP (names a.1) a.2))
abbrev sp_lworth (K : PySem.W.Frag) (n : Nat) : Sp := DPf (α := Qs × Int) (fun a => [dat K (qsD a.1), dat K (.int a.2)]) (fun a => QsOk a.1 ∧ 0 ≤ a.2 ∧ a.2 < n ∧ a.2 < 4) (fun a => datP K (wthP (names a.1) a.2))
section
variable {K : PySem.W.Frag} {B : Hp} {v : V}
theorem tup2P {a : PyData} {P S : PyData → Prop} (f : ∀ x, P x → S (.tuple [a, x])) (h : tupR K [dat K a, datP K P] B v) : datP K S B v := by
  obtain ⟨p, xs, rfl, hs, x1, r1, rfl, h1, x2, r2, rfl, ⟨x, hx, h2⟩, hr⟩ := h
  have hr : r2 = [] := hr
  subst hr
  exact ⟨_, f x hx, .tup hs (.cons h1 (.cons h2 .nil))⟩
theorem tup2I {a : PyData} {P : Int → Prop} {S : PyData → Prop} (f : ∀ x, P x → S (.tuple [a, .int x])) (h : tupR K [dat K a, intP P] B v) : datP K S B v := by
  obtain ⟨p, xs, rfl, hs, x1, r1, rfl, h1, x2, r2, rfl, ⟨x, hx, h2⟩, hr⟩ := h
  have hr : r2 = [] := hr
  subst hr
  subst h2
  exact ⟨_, f x hx, .tup hs (.cons h1 (.cons (.int _) .nil))⟩
theorem tup3P {a b : PyData} {P S : PyData → Prop} (f : ∀ x, P x → S (.tuple [a, b, x])) (h : tupR K [dat K a, dat K b, datP K P] B v) : datP K S B v := by
  obtain ⟨p, xs, rfl, hs, x1, r1, rfl, h1, x2, r2, rfl, h2, x3, r3, rfl, ⟨x, hx, h3⟩, hr⟩ := h
  have hr : r3 = [] := hr
  subst hr
  exact ⟨_, f x hx, .tup hs (.cons h1 (.cons h2 (.cons h3 .nil)))⟩
theorem tup3I {a b : PyData} {P : Int → Prop} {S : PyData → Prop} (f : ∀ x, P x → S (.tuple [a, b, .int x])) (h : tupR K [dat K a, dat K b, intP P] B v) : datP K S B v := by
  obtain ⟨p, xs, rfl, hs, x1, r1, rfl, h1, x2, r2, rfl, h2, x3, r3, rfl, ⟨x, hx, h3⟩, hr⟩ := h
  have hr : r3 = [] := hr
  subst hr
  subst h3
  exact ⟨_, f x hx, .tup hs (.cons h1 (.cons h2 (.cons (.int _) .nil)))⟩
theorem s_rawG {te : TE} {g : TG} {rest : TS} {D : Ends} {σ : L2.St} {H : Hp} (h : te σ H fun v H' => g v σ H' fun σ2 H2 => rest D σ2 H2) : tSeq (tAsg te g) rest D σ H := h
end
section
variable {P : Program} {w : World} {K : PySem.W.Frag} {mg : Str → Option Value} {base : Heap} {C_Form C_Ask C_NoName : Addr}
theorem qs_mem {qs : Qs} {x : PyData} (h : x ∈ qs.map encQ) : ∃ q ∈ qs, x = encQ q := by
  obtain ⟨q, hq, rfl⟩ := List.mem_map.mp h
  exact ⟨q, hq, rfl⟩
theorem name_mem {qs : Qs} {q : Str × Nat} (h : q ∈ qs) : q.1 ∈ names qs := List.mem_map.mpr ⟨q, h, rfl⟩
theorem Dw.quest {σ : L2.St} {d c : Addr} {B : Hp} {qs : Qs} {te : TE} {E : XK} {i : Nat} (hd : σ[i]? = some (some (.ref d))) (h : De te σ B (dat K (qsD qs))) (ok : QsOk qs) : Dw (tCall (spOf K) [] E (tCons (tVar i) (tCons te tNil))) σ d c B (datP K fun x => ∃ q ∈ qs, x = encQ q) :=
  .cv (Dw.ofT hd h (by
    intro z
    have := ok.one
    have : (qs.map encQ).length = 0 := by rw [z]; rfl
    rw [List.length_map] at this
    omega) (by rw [List.length_map]; have := ok.three; omega)) fun _ _ ⟨x, hx, hv⟩ => ⟨x, qs_mem hx, hv⟩
theorem Dw.strs {σ : L2.St} {d c : Addr} {B : Hp} {ws : List Str} {te : TE} {E : XK} {i : Nat} {R : Str → Prop} (hd : σ[i]? = some (some (.ref d))) (h : De te σ B (dat K (.list (ws.map .str)))) (ne : ws ≠ []) (few : ws.length ≤ 1000) (hR : ∀ w ∈ ws, R w) : Dw (tCall (spOf K) [] E (tCons (tVar i) (tCons te tNil))) σ d c B (datP K fun x => ∃ w, x = .str w ∧ R w) :=
  .cv (Dw.ofL hd h (fun z => ne (List.map_eq_nil_iff.mp z)) (by rw [List.length_map]; exact few)) fun _ _ ⟨x, hx, hv⟩ => by
    obtain ⟨w, hw, rfl⟩ := List.mem_map.mp hx
    exact ⟨_, ⟨w, rfl, hR w hw⟩, hv⟩
theorem sc_ltest : FnScope ["deal", "questions", "depth", "word", "name", "many", "one"] ["deal", "questions", "depth"] (defScope s_ltest) := ⟨rfl, rfl, rfl, by decide +kernel, rfl, by decide +kernel, by decide +kernel⟩
theorem step_ltest {n : Nat} (D : Def K mg "_law_test" s_ltest ["deal", "questions", "depth"]) (C_of : Cal P w K mg base CX0 2 "_law_of" s_of ["deal", "some"] (spOf K)) (C_any : Cal P w K mg base CX0 1 "_law_any" s_any ["deal", "bound"] spAny) (C_ltest : Cal P w K mg base CX0 (n + 3) "_law_test" s_ltest ["deal", "questions", "depth"] (sp_ltest K n)) : Cal P w K mg base CX0 (n + 4) "_law_test" s_ltest ["deal", "questions", "depth"] (sp_ltest K (n + 1)) := by
  refine D.ok sc_ltest (fun vs H Q E h => ?_) (fun cdv f A outer s H vs Q E hr h => ?_)
  · exact dpf_len h fun _ => rfl
  replace h := dpf2 h
  obtain ⟨d, v1, v2, c, B, ⟨qs, dep⟩, rfl, L, hv1, hv2, ⟨qk, d0, d1⟩, k⟩ := h
  refine ⟨_, (pss_cons (ps_set (i := 3) sc_ltest.nd rfl (Or.inl rfl) (pe_cal C_of (hr.mono (by omega)) (by rfl) pass0 (pa_cons (pv 0) (pa_cons (pe_op op_catS (pe_lst (pa_cons pe_str (pa_cons pe_str (pa_cons pe_str (pa_cons pe_str pa_nil))))) (pe_ifExp (pt_cmpR op_gt (pv 2) pe_int (nomark _)) (pe_op op_rep (pe_lst (pa_cons pe_str (pa_cons pe_str (pa_cons pe_str pa_nil)))) pe_int) (pe_lst pa_nil))) pa_nil))))
    (pss_cons (ps_asg (pe_cal C_of (hr.mono (by omega)) (by rfl) pass0 (pa_cons (pv 0) (pa_cons (pv 1) pa_nil))) (pg_tup rfl (pgs_cons (pg_name (i := 4) sc_ltest.nd rfl (Or.inl rfl)) (pgs_cons (pg_name (i := 5) sc_ltest.nd rfl (Or.inl rfl)) pgs_nil))))
    (pss_cons (ps_if (pt_cmpR op_eq (pv 3) pe_str (nomark _)) (pss_one (ps_ret (pe_tup (pa_cons (pv 3) pa_nil)))) pss_nil)
    (pss_cons (ps_if (pt_cmpR op_eq (pv 3) pe_str (nomark _)) (pss_one (ps_ret (pe_tup (pa_cons (pv 3) (pa_cons (pv 4) (pa_cons (pe_cal C_any (hr.mono (by omega)) (by rfl) pass0 (pa_cons (pv 0) (pa_cons (pv 5) pa_nil))) pa_nil)))))) pss_nil)
    (pss_cons (ps_if (pt_cmpR op_eq (pv 3) pe_str (nomark _)) (pss_one (ps_ret (pe_tup (pa_cons (pv 3) (pa_cons (pv 4) pa_nil))))) pss_nil)
    (pss_cons (ps_if (pt_cmpR op_eq (pv 3) pe_str (nomark _)) (pss_one (ps_ret (pe_tup (pa_cons (pv 3) (pa_cons (pe_cal C_ltest (hr.mono (by omega)) (by rfl) pass0 (pa_cons (pv 0) (pa_cons (pv 1) (pa_cons (pe_op op_sub (pv 2) pe_int) pa_nil)))) pa_nil))))) pss_nil)
    (pss_cons (ps_set (i := 6) sc_ltest.nd rfl (Or.inl rfl) (pe_cal C_ltest (hr.mono (by omega)) (by rfl) pass0 (pa_cons (pv 0) (pa_cons (pv 1) (pa_cons (pe_op op_sub (pv 2) pe_int) pa_nil)))))
    (pss_one (ps_ret (pe_tup (pa_cons (pv 3) (pa_cons (pv 6) (pa_cons (pe_cal C_ltest (hr.mono (by omega)) (by rfl) pass0 (pa_cons (pv 0) (pa_cons (pv 1) (pa_cons (pe_op op_sub (pv 2) pe_int) pa_nil)))) pa_nil))))))))))))), ?_⟩
  have qk : QsOk qs := qk
  have d0 : 0 ≤ dep := d0
  have d1 : dep < (n : Int) + 1 := by have d1 : dep < ((n + 1 : Nat) : Int) := d1; omega
  have k : ∀ (v : V) (B' H' : Hp), ExtD d c B H B' H' → datP K (tstP (names qs) dep) B' v → Q v H' := k
  have hv2 := dat_int hv2
  subst hv2
  have line := sizeLine_eq
  have lst : ∃ ws : List Str, De (tOp (rCatS K) (tLst (tCons (tC (.str "all")) (tCons (tC (.str "is")) (tCons (tC (.str "is")) (tCons (tC (.str "blank")) tNil))))) (tIf (tTest (tOp (rI0 fun i j => V.bl (decide (i > j))) (tVar 2) (tC (.int 0)))) (tOp rRep (tLst (tCons (tC (.str "not")) (tCons (tC (.str "both")) (tCons (tC (.str "either")) tNil)))) (tC (.int 2))) (tLst tNil))) [some (.ref d), some v1, some (.int dep), none, none, none, none] B (dat K (.list (ws.map .str))) ∧ ws ≠ [] ∧ ws.length ≤ 1000 ∧ ∀ w ∈ ws, w ∈ ([ "all", "is", "blank"] : List Str) ∨ (0 < dep ∧ w ∈ (["not", "both", "either"] : List Str)) := by
    have one : De (tLst (tCons (tC (.str "all")) (tCons (tC (.str "is")) (tCons (tC (.str "is")) (tCons (tC (.str "blank")) tNil))))) [some (.ref d), some v1, some (.int dep), none, none, none, none] B (dat K (.list ((["all", "is", "is", "blank"] : List Str).map .str))) := De.lstD (ds := [.str "all", .str "is", .str "is", .str "blank"]) (.cons .str (.cons .str (.cons .str (.cons .str .nil)))) (by rw [line]; decide)
    by_cases p : 0 < dep
    · refine ⟨["all", "is", "is", "blank", "not", "both", "either", "not", "both", "either"], De.op one (De.ite (Dt.eq (.test (K := K) (De.op (.var (Dp.int dep) rfl) .int Rv.I0b)) (decide_eq_true p)) (fun _ => De.rep (K := K) (ds := [.str "not", .str "both", .str "either"]) (.cons .str (.cons .str (.cons .str .nil))) (by decide) (by decide) (by decide)) fun z => nomatch z) (Rv.catS (by rw [line]; decide)), by simp, by decide, fun w hw => ?_⟩
      simp only [List.mem_cons, List.not_mem_nil, or_false] at hw ⊢
      rcases hw with h | h | h | h | h | h | h | h | h | h <;> simp [h, p]
    · refine ⟨["all", "is", "is", "blank"], De.op (S := dat K (.list [])) one (De.ite (Dt.eq (.test (K := K) (De.op (.var (Dp.int dep) rfl) .int Rv.I0b)) (decide_eq_false p)) (fun z => nomatch z) fun _ => De.lstD .nil (by rw [line]; decide)) (Rv.catS (by rw [line]; decide)), by simp, by decide, fun w hw => ?_⟩
      simp only [List.mem_cons, List.not_mem_nil, or_false] at hw ⊢
      rcases hw with h | h | h | h <;> simp [h]
  obtain ⟨ws, hl, ne, few, hws⟩ := lst
  refine s_w L (Dw.strs rfl hl ne few hws) fun v3 B1 H1 e1 h3 => ?_
  obtain ⟨_, ⟨wd, rfl, hw⟩, h3⟩ := h3
  have h3 := dat_str h3
  subst h3
  refine s_rawG ((Dw.quest (K := K) rfl (.var (Mo.mo e1.bb hv1) rfl) qk) B1 H1 (Same.refl _) e1.dl _ fun u B2 H2 e2 hu => ?_)
  obtain ⟨_, ⟨q, hq, rfl⟩, hu⟩ := hu
  obtain ⟨y4, y5, hy4, hy5, go⟩ := gTup2 e2.bh (dat_pair hu)
  refine go _ ?_
  have hy4 := dat_str hy4
  subst hy4
  have hy5 := dat_int hy5
  subst hy5
  have q2 := qk.sz q hq
  have qn := name_mem hq
  have e12 := e1.trans L e2
  have hv1 := Mo.mo e12.bb hv1
  clear hl hu e1 e2
  have no : ∀ {z : Str} {B : Hp} {x : Option V}, wd ≠ z → Dt (tTest (tOp rEq (tVar 3) (tC (.str z)))) [some (.ref d), some v1, some (.int dep), some (.str wd), some (.str q.1), some (.int (q.2 : Int)), x] B false := fun h => Dt.eq (.test (K := K) (.op (.var (Dp.str _) rfl) .str Rv.eqS)) (decide_eq_false h)
  have yes : ∀ {z : Str} {B : Hp} {x : Option V}, wd = z → Dt (tTest (tOp rEq (tVar 3) (tC (.str z)))) [some (.ref d), some v1, some (.int dep), some (.str wd), some (.str q.1), some (.int (q.2 : Int)), x] B true := fun h => Dt.eq (.test (K := K) (.op (.var (Dp.str _) rfl) .str Rv.eqS)) (decide_eq_true h)
  have kk : ∀ {B3 H3 : Hp}, ExtD d c B H B3 H3 → ∀ (v : V) (B' H' : Hp), ExtD d c B3 H3 B' H' → datP K (tstP (names qs) dep) B' v → Q v H' := fun e3 v B' H' e hv => k v B' H' (e3.trans L e) hv
  have self : ∀ {B : Hp} {x : Option V} {E : XK}, dat K (qsD qs) B v1 → 0 < dep → Dw (tCall (sp_ltest K n) [] E (tCons (tVar 0) (tCons (tVar 1) (tCons (tOp (rI0 fun i j => V.int (i - j)) (tVar 2) (tC (.int 1))) tNil)))) [some (.ref d), some v1, some (.int dep), some (.str wd), some (.str q.1), some (.int (q.2 : Int)), x] d c B (datP K (tstP (names qs) (dep - 1))) := fun h p =>
    Dw.def1 (qs, dep - 1) rfl (.cons (.var h rfl) (.one (.op (.var (Dp.int dep) rfl) .int Rv.I0))) ⟨qk, (by show 0 ≤ dep - 1; omega), (by show dep - 1 < (n : Int); omega)⟩
  by_cases w1 : wd = "all"
  · refine s_ifS (yes w1) e12.bh (fun _ B3 H3 e3 => ?_) fun z => nomatch z
    have e13 := e12.trans L (.of e12.dl e3)
    subst w1
    exact s_retW e13.dl (Dw.D1 (De.tupD (K := K) (ds := [.str "all"]) (.cons (.var (Dp.str _) rfl) .nil) (by rw [line]; decide)) ⟨.all, rfl, trivial, by simp [Tst.dp]; omega⟩) (kk e13)
  refine s_skip (no w1) e12.bh fun B3 H3 e3 => ?_
  have e13 := e12.trans L (.of e12.dl e3)
  have hv1 := Mo.mo e3.bb hv1
  by_cases w2 : wd = "is"
  · refine s_ifS (yes w2) e13.bh (fun _ B4 H4 e4 => ?_) fun z => nomatch z
    have e14 := e13.trans L (.of e13.dl e4)
    subst w2
    refine s_retW e14.dl (Dw.cv (Dw.tup (K := K) (Dwa.cons (.of (.var (Dp.str _) rfl)) (Dwa.cons (.of (.var (Dp.str _) rfl)) (Dwa.one (Dw.any (K := K) rfl (.var (Dp.int _) rfl) (by omega) (by omega))))) (by rw [line]; show 3 ≤ _; decide)) fun B v h => tup3I (fun x hx => ?_) h) (kk e14)
    exact ⟨.is q.1 x, rfl, ⟨qn, by omega⟩, by simp [Tst.dp]; omega⟩
  refine s_skip (no w2) e13.bh fun B4 H4 e4 => ?_
  have e14 := e13.trans L (.of e13.dl e4)
  have hv1 := Mo.mo e4.bb hv1
  by_cases w3 : wd = "blank"
  · refine s_ifS (yes w3) e14.bh (fun _ B5 H5 e5 => ?_) fun z => nomatch z
    have e15 := e14.trans L (.of e14.dl e5)
    subst w3
    exact s_retW e15.dl (Dw.D1 (De.tupD (K := K) (ds := [.str "blank", .str q.1]) (.cons (.var (Dp.str _) rfl) (.cons (.var (Dp.str _) rfl) .nil)) (by rw [line]; show 2 ≤ _; decide)) ⟨.blank q.1, rfl, qn, by simp [Tst.dp]; omega⟩) (kk e15)
  refine s_skip (no w3) e14.bh fun B5 H5 e5 => ?_
  have e15 := e14.trans L (.of e14.dl e5)
  have hv1 := Mo.mo e5.bb hv1
  have hw : 0 < dep ∧ wd ∈ (["not", "both", "either"] : List Str) := by
    rcases hw with h | h
    · simp [w1, w2, w3] at h
    · exact h
  obtain ⟨p, hw⟩ := hw
  by_cases w4 : wd = "not"
  · refine s_ifS (yes w4) e15.bh (fun _ B6 H6 e6 => ?_) fun z => nomatch z
    have e16 := e15.trans L (.of e15.dl e6)
    have hv1 := Mo.mo e6.bb hv1
    refine s_retW e16.dl (Dw.cv (Dw.tup (K := K) (Dwa.cons (.of (.var (Dp.str wd) rfl)) (Dwa.one (self hv1 p))) (by rw [line]; show 2 ≤ _; decide)) fun B v h => tup2P (fun x hx => ?_) h) (kk e16)
    obtain ⟨t, rfl, tk, td⟩ := hx
    exact ⟨.nt t, by rw [w4]; rfl, tk, by simp [Tst.dp]; omega⟩
  refine s_skip (no w4) e15.bh fun B6 H6 e6 => ?_
  have e16 := e15.trans L (.of e15.dl e6)
  have hv1 := Mo.mo e6.bb hv1
  refine s_w e16.dl (self hv1 p) fun v6 B7 H7 e7 h6 => ?_
  obtain ⟨_, ⟨t, rfl, tk, td⟩, h6⟩ := h6
  have e17 := e16.trans L e7
  have hv1 := Mo.mo e7.bb hv1
  refine s_retW e17.dl (Dw.cv (Dw.tup (K := K) (Dwa.cons (.of (.var (Dp.str wd) rfl)) (Dwa.cons (.of (.var h6 rfl)) (Dwa.one (self hv1 p)))) (by rw [line]; show 3 ≤ _; decide)) fun B v h => tup3P (fun x hx => ?_) h) (kk e17)
  obtain ⟨t', rfl, tk', td'⟩ := hx
  simp only [List.mem_cons, List.not_mem_nil, or_false] at hw
  rcases hw with h | h | h
  · exact absurd h w4
  · exact ⟨.both t t', by rw [h]; rfl, ⟨tk, tk'⟩, by simp only [Tst.dp]; omega⟩
  · exact ⟨.either t t', by rw [h]; rfl, ⟨tk, tk'⟩, by simp only [Tst.dp]; omega⟩
theorem ok_ltest (D : Def K mg "_law_test" s_ltest ["deal", "questions", "depth"]) (C_of : Cal P w K mg base CX0 2 "_law_of" s_of ["deal", "some"] (spOf K)) (C_any : Cal P w K mg base CX0 1 "_law_any" s_any ["deal", "bound"] spAny) : ∀ n : Nat, Cal P w K mg base CX0 (n + 3) "_law_test" s_ltest ["deal", "questions", "depth"] (sp_ltest K n)
  | 0 => (none_cal 3 D).weaken fun vs H Q E ⟨_, _, _, a, _, _, _, _, ⟨_, h0, h1⟩, _⟩ => by
    have h1 : a.2 < 0 := h1
    omega
  | n + 1 => step_ltest D C_of C_any (ok_ltest D C_of C_any n)
end
end K69

set_option Elab.async false
set_option linter.all false
set_option maxRecDepth 100000
set_option maxHeartbeats 4000000
/-! K69e: drawn worths, plain phrases, heads. -/
namespace K69
open PySem PySem.Spec PyProof.Rows L2 Wb Wv Fm As
abbrev sp_plainer (K : PySem.W.Frag) (n : Nat) : Sp := Pf (α := PyData) (fun d => [dat K d]) (fun d => Phr n d) (fun d => dat K (plainD n d))
abbrev sp_heads (K : PySem.W.Frag) (n : Nat) : Sp := Pf (α := PyData) (fun d => [dat K d]) (fun d => Phr n d ∧ n ≤ 4) (fun d => dat K (.list ((headsD n d).map .str)))
theorem heads_len : ∀ (n : Nat) (d : PyData), Phr n d → (headsD n d).length ≤ 3 ^ n
  | 0, _, h => h.elim
  | n + 1, d, ⟨w, ps, e, ⟨few, _⟩, hp⟩ => by
    subst e
    show (w :: ps.flatMap fun p => if isTup p = true then headsD n p else []).length ≤ _
    have one : ∀ p ∈ ps, (if isTup p = true then headsD n p else []).length ≤ 3 ^ n := fun p h => by
      split
      · exact heads_len n p (hp p h ‹_›)
      · exact Nat.zero_le _
    have all : (ps.flatMap fun p => if isTup p = true then headsD n p else []).length ≤ ps.length * 3 ^ n := by
      clear few hp
      induction ps with
      | nil => simp
      | cons p ps ih =>
        rw [List.flatMap_cons, List.length_append, List.length_cons, Nat.succ_mul]
        have := one p List.mem_cons_self
        have := ih fun q h => one q (List.mem_cons_of_mem _ h)
        omega
    have : ps.length * 3 ^ n ≤ 2 * 3 ^ n := Nat.mul_le_mul_right _ few
    have := Nat.one_le_pow n 3 (by decide)
    rw [List.length_cons, Nat.pow_succ]
    omega
section
variable {P : Program} {w : World} {K : PySem.W.Frag} {mg : Str → Option Value} {base : Heap} {C_Form C_Ask C_NoName : Addr}
theorem sc_lworth : FnScope ["deal", "questions", "depth", "word", "number", "one"] ["deal", "questions", "depth"] (defScope s_lworth) := ⟨rfl, rfl, rfl, by decide +kernel, rfl, by decide +kernel, by decide +kernel⟩
theorem step_lworth {n : Nat} (D : Def K mg "_law_worth" s_lworth ["deal", "questions", "depth"]) (C_of : Cal P w K mg base CX0 2 "_law_of" s_of ["deal", "some"] (spOf K)) (C_any : Cal P w K mg base CX0 1 "_law_any" s_any ["deal", "bound"] spAny) (C_ltest : Cal P w K mg base CX0 7 "_law_test" s_ltest ["deal", "questions", "depth"] (sp_ltest K 4)) (C_lworth : Cal P w K mg base CX0 (n + 8) "_law_worth" s_lworth ["deal", "questions", "depth"] (sp_lworth K n)) : Cal P w K mg base CX0 (n + 9) "_law_worth" s_lworth ["deal", "questions", "depth"] (sp_lworth K (n + 1)) := by
  refine D.ok sc_lworth (fun vs H Q E h => ?_) (fun cdv f A outer s H vs Q E hr h => ?_)
  · exact dpf_len h fun _ => rfl
  replace h := dpf2 h
  obtain ⟨d, v1, v2, c, B, ⟨qs, dep⟩, rfl, L, hv1, hv2, ⟨qk, d0, d1, d4⟩, k⟩ := h
  refine ⟨_, (pss_cons (ps_set (i := 3) sc_lworth.nd rfl (Or.inl rfl) (pe_cal C_of (hr.mono (by omega)) (by rfl) pass0 (pa_cons (pv 0) (pa_cons (pe_op op_catS (pe_lst (pa_cons pe_str (pa_cons pe_str (pa_cons pe_str pa_nil)))) (pe_ifExp (pt_cmpR op_gt (pv 2) pe_int (nomark _)) (pe_op op_rep (pe_lst (pa_cons pe_str (pa_cons pe_str pa_nil))) pe_int) (pe_lst pa_nil))) pa_nil))))
    (pss_cons (ps_if (pt_cmpR op_eq (pv 3) pe_str (nomark _)) (pss_cons (ps_set (i := 4) sc_lworth.nd rfl (Or.inl rfl) (pe_cal C_of (hr.mono (by omega)) (by rfl) pass0 (pa_cons (pv 0) (pa_cons (pe_lst (pa_cons pe_int (pa_cons pe_int (pa_cons pe_int (pa_cons (pe_cal C_any (hr.mono (by omega)) (by rfl) pass0 (pa_cons (pv 0) (pa_cons pe_int pa_nil))) (pa_cons (pe_cal C_any (hr.mono (by omega)) (by rfl) pass0 (pa_cons (pv 0) (pa_cons (pe_op op_pow pe_int pe_int) pa_nil))) pa_nil)))))) pa_nil))))
      (pss_one (ps_ret (pe_tup (pa_cons (pv 3) (pa_cons (pe_ifExp (pt_cmpR op_eq (pe_cal C_any (hr.mono (by omega)) (by rfl) pass0 (pa_cons (pv 0) (pa_cons pe_int pa_nil))) pe_int (nomark _)) (pe_op op_sub pe_int (pv 4)) (pv 4)) pa_nil)))))) pss_nil)
    (pss_cons (ps_if (pt_cmpR op_eq (pv 3) pe_str (nomark _)) (pss_one (ps_ret (pe_tup (pa_cons (pv 3) (pa_cons (pe_ix ix_tup (pe_cal C_of (hr.mono (by omega)) (by rfl) pass0 (pa_cons (pv 0) (pa_cons (pv 1) pa_nil))) pe_int (fun _ _ => rfl)) pa_nil))))) pss_nil)
    (pss_cons (ps_if (pt_cmpR op_eq (pv 3) pe_str (nomark _)) (pss_one (ps_ret (pe_tup (pa_cons (pv 3) (pa_cons (pe_cal C_ltest (hr.mono (by omega)) (by rfl) pass0 (pa_cons (pv 0) (pa_cons (pv 1) (pa_cons (pv 2) pa_nil)))) pa_nil))))) pss_nil)
    (pss_cons (ps_set (i := 5) sc_lworth.nd rfl (Or.inl rfl) (pe_cal C_lworth (hr.mono (by omega)) (by rfl) pass0 (pa_cons (pv 0) (pa_cons (pv 1) (pa_cons (pe_op op_sub (pv 2) pe_int) pa_nil)))))
    (pss_one (ps_ret (pe_tup (pa_cons (pv 3) (pa_cons (pv 5) (pa_cons (pe_cal C_lworth (hr.mono (by omega)) (by rfl) pass0 (pa_cons (pv 0) (pa_cons (pv 1) (pa_cons (pe_op op_sub (pv 2) pe_int) pa_nil)))) pa_nil))))))))))), ?_⟩
  have qk : QsOk qs := qk
  have d0 : 0 ≤ dep := d0
  have d4 : dep < 4 := d4
  have d1 : dep < (n : Int) + 1 := by have d1 : dep < ((n + 1 : Nat) : Int) := d1; omega
  have k : ∀ (v : V) (B' H' : Hp), ExtD d c B H B' H' → datP K (wthP (names qs) dep) B' v → Q v H' := k
  have hv2 := dat_int hv2
  subst hv2
  have line := sizeLine_eq
  have lst : ∃ ws : List Str, De (tOp (rCatS K) (tLst (tCons (tC (.str "number")) (tCons (tC (.str "answer")) (tCons (tC (.str "if")) tNil)))) (tIf (tTest (tOp (rI0 fun i j => V.bl (decide (i > j))) (tVar 2) (tC (.int 0)))) (tOp rRep (tLst (tCons (tC (.str "plus")) (tCons (tC (.str "times")) tNil))) (tC (.int 2))) (tLst tNil))) [some (.ref d), some v1, some (.int dep), none, none, none] B (dat K (.list (ws.map .str))) ∧ ws ≠ [] ∧ ws.length ≤ 1000 ∧ ∀ w ∈ ws, w ∈ (["number", "answer", "if"] : List Str) ∨ (0 < dep ∧ w ∈ (["plus", "times"] : List Str)) := by
    have one : De (tLst (tCons (tC (.str "number")) (tCons (tC (.str "answer")) (tCons (tC (.str "if")) tNil)))) [some (.ref d), some v1, some (.int dep), none, none, none] B (dat K (.list ((["number", "answer", "if"] : List Str).map .str))) := De.lstD (ds := [.str "number", .str "answer", .str "if"]) (.cons .str (.cons .str (.cons .str .nil))) (by rw [line]; decide)
    by_cases p : 0 < dep
    · refine ⟨["number", "answer", "if", "plus", "times", "plus", "times"], De.op one (De.ite (Dt.eq (.test (K := K) (De.op (.var (Dp.int dep) rfl) .int Rv.I0b)) (decide_eq_true p)) (fun _ => De.rep (K := K) (ds := [.str "plus", .str "times"]) (.cons .str (.cons .str .nil)) (by decide) (by decide) (by decide)) fun z => nomatch z) (Rv.catS (by rw [line]; decide)), by simp, by decide, fun w hw => ?_⟩
      simp only [List.mem_cons, List.not_mem_nil, or_false] at hw ⊢
      rcases hw with h | h | h | h | h | h | h <;> simp [h, p]
    · refine ⟨["number", "answer", "if"], De.op (S := dat K (.list [])) one (De.ite (Dt.eq (.test (K := K) (De.op (.var (Dp.int dep) rfl) .int Rv.I0b)) (decide_eq_false p)) (fun z => nomatch z) fun _ => De.lstD .nil (by rw [line]; decide)) (Rv.catS (by rw [line]; decide)), by simp, by decide, fun w hw => ?_⟩
      simp only [List.mem_cons, List.not_mem_nil, or_false] at hw ⊢
      rcases hw with h | h | h <;> simp [h]
  obtain ⟨ws, hl, ne, few, hws⟩ := lst
  refine s_w L (Dw.strs rfl hl ne few hws) fun v3 B2 H2 e12 h3 => ?_
  obtain ⟨_, ⟨wd, rfl, hw⟩, h3⟩ := h3
  have h3 := dat_str h3
  subst h3
  have hv1 := Mo.mo e12.bb hv1
  clear hl
  have no : ∀ {z : Str} {B : Hp} {x y : Option V}, wd ≠ z → Dt (tTest (tOp rEq (tVar 3) (tC (.str z)))) [some (.ref d), some v1, some (.int dep), some (.str wd), x, y] B false := fun h => Dt.eq (.test (K := K) (.op (.var (Dp.str _) rfl) .str Rv.eqS)) (decide_eq_false h)
  have yes : ∀ {z : Str} {B : Hp} {x y : Option V}, wd = z → Dt (tTest (tOp rEq (tVar 3) (tC (.str z)))) [some (.ref d), some v1, some (.int dep), some (.str wd), x, y] B true := fun h => Dt.eq (.test (K := K) (.op (.var (Dp.str _) rfl) .str Rv.eqS)) (decide_eq_true h)
  have kk : ∀ {B3 H3 : Hp}, ExtD d c B H B3 H3 → ∀ (v : V) (B' H' : Hp), ExtD d c B3 H3 B' H' → datP K (wthP (names qs) dep) B' v → Q v H' := fun e3 v B' H' e hv => k v B' H' (e3.trans L e) hv
  have self : ∀ {B : Hp} {x y : Option V} {E : XK}, dat K (qsD qs) B v1 → 0 < dep → Dw (tCall (sp_lworth K n) [] E (tCons (tVar 0) (tCons (tVar 1) (tCons (tOp (rI0 fun i j => V.int (i - j)) (tVar 2) (tC (.int 1))) tNil)))) [some (.ref d), some v1, some (.int dep), some (.str wd), x, y] d c B (datP K (wthP (names qs) (dep - 1))) := fun h p =>
    Dw.def1 (qs, dep - 1) rfl (.cons (.var h rfl) (.one (.op (.var (Dp.int dep) rfl) .int Rv.I0))) ⟨qk, (by show 0 ≤ dep - 1; omega), (by show dep - 1 < (n : Int); omega), (by show dep - 1 < 4; omega)⟩
  by_cases w1 : wd = "number"
  · refine s_ifS (yes w1) e12.bh (fun _ B3 H3 e3 => ?_) fun z => nomatch z
    have e13 := e12.trans L (.of e12.dl e3)
    have big : De (tOp (rI CPow fun i j => V.int (i ^ j.toNat)) (tC (.int 10)) (tC (.int 9))) [some (.ref d), some v1, some (.int dep), some (.str wd), none, none] B3 (dat K (.int 1000000000)) := De.eq (De.op .int .int (Rv.I ⟨by decide, by decide, by decide⟩)) (congrArg PyData.int (by decide))
    have I : ∀ {m : Int} {B : Hp}, 0 ≤ m → m ≤ 10 ^ 9 → Dw (tC (.int m)) [some (.ref d), some v1, some (.int dep), some (.str wd), none, none] d c B (intP fun j => 0 ≤ j ∧ j ≤ 10 ^ 9) := fun a b => .cv Dw.int fun _ _ ⟨j, hj, hv⟩ => ⟨j, by omega, hv⟩
    refine s_w e13.dl (Dw.pick (S := intP fun j => 0 ≤ j ∧ j ≤ 10 ^ 9) rfl (.cons (I (by decide) (by decide)) (.cons (I (by decide) (by decide)) (.cons (I (by decide) (by decide)) (.cons (.cv (Dw.any (K := K) rfl .int (by decide) (by decide)) fun _ _ ⟨j, hj, hv⟩ => ⟨j, by omega, hv⟩) (.cons (.cv (Dw.any (K := K) rfl big (by decide) (by decide)) fun _ _ ⟨j, hj, hv⟩ => ⟨j, by omega, hv⟩) .nil))))) (by decide) (by decide)) fun v4 B4 H4 e4 h4 => ?_
    obtain ⟨m, hm, rfl⟩ := h4
    have e14 := e13.trans L e4
    subst w1
    refine s_retW e14.dl (Dw.cv (Dw.tup (K := K) (Dwa.cons (.of (.var (Dp.str _) rfl)) (Dwa.one (Dw.ite (S := intP fun j => j.natAbs ≤ 10 ^ 9) (Dtw.eq (K := K) (Dw.any (K := K) rfl .int (by decide) (by decide)) Dw.int) (.cv (Dw.op Dw.int (Dw.intV rfl) fun _ => Rv.intP) fun B v ⟨j, ⟨a, b, ha, hb, hj⟩, hv⟩ => ⟨j, by omega, hv⟩) (.cv (Dw.intV rfl) fun B v ⟨j, hj, hv⟩ => ⟨j, by omega, hv⟩)))) (by rw [line]; show 2 ≤ _; decide)) fun B v h => tup2I (fun x hx => ?_) h) (kk e14)
    exact ⟨.number x, rfl, hx, by simp [Wth.dp]; omega⟩
  refine s_skip (no w1) e12.bh fun B3 H3 e3 => ?_
  have e13 := e12.trans L (.of e12.dl e3)
  have hv1 := Mo.mo e3.bb hv1
  by_cases w2 : wd = "answer"
  · refine s_ifS (yes w2) e13.bh (fun _ B4 H4 e4 => ?_) fun z => nomatch z
    have e14 := e13.trans L (.of e13.dl e4)
    have hv1 := Mo.mo e4.bb hv1
    subst w2
    refine s_retW e14.dl (Dw.cv (Dw.tup (K := K) (Dwa.cons (.of (.var (Dp.str _) rfl)) (Dwa.one (Dw.op (T := datP K fun x => ∃ z ∈ names qs, x = .str z) (Dw.quest (K := K) rfl (.var hv1 rfl) qk) (.of (De.int (K := K))) fun B x y B1 H _ s2 ⟨_, ⟨q, hq, hx⟩, hv⟩ hy Q k => ?_))) (by rw [line]; show 2 ≤ _; decide)) fun B v h => tup2P (fun x hx => ?_) h) (kk e14)
    · subst hx
      exact (Rv.ixTD (K := K) (ds := [.str q.1, .int q.2]) (d := .str q.1) rfl) x y B1 H (Same.refl _) s2 hv hy Q fun v B' H' e h => k v B' H' e ⟨_, ⟨q.1, name_mem hq, rfl⟩, h⟩
    · obtain ⟨z, hz, rfl⟩ := hx
      exact ⟨.answer z, rfl, hz, by simp [Wth.dp]; omega⟩
  refine s_skip (no w2) e13.bh fun B4 H4 e4 => ?_
  have e14 := e13.trans L (.of e13.dl e4)
  have hv1 := Mo.mo e4.bb hv1
  by_cases w3 : wd = "if"
  · refine s_ifS (yes w3) e14.bh (fun _ B5 H5 e5 => ?_) fun z => nomatch z
    have e15 := e14.trans L (.of e14.dl e5)
    have hv1 := Mo.mo e5.bb hv1
    subst w3
    refine s_retW e15.dl (Dw.cv (Dw.tup (K := K) (Dwa.cons (.of (.var (Dp.str _) rfl)) (Dwa.one (Dw.def1 (qs, dep) rfl (.cons (.var hv1 rfl) (.one (.var (Dp.int dep) rfl))) ⟨qk, d0, d4⟩))) (by rw [line]; show 2 ≤ _; decide)) fun B v h => tup2P (fun x hx => ?_) h) (kk e15)
    obtain ⟨t, rfl, tk, td⟩ := hx
    have td : (t.dp : Int) ≤ dep + 1 := td
    exact ⟨.ifT t, rfl, tk, by simp only [Wth.dp]; omega⟩
  refine s_skip (no w3) e14.bh fun B5 H5 e5 => ?_
  have e15 := e14.trans L (.of e14.dl e5)
  have hv1 := Mo.mo e5.bb hv1
  have hw : 0 < dep ∧ wd ∈ (["plus", "times"] : List Str) := by
    rcases hw with h | h
    · simp [w1, w2, w3] at h
    · exact h
  obtain ⟨p, hw⟩ := hw
  refine s_w e15.dl (self hv1 p) fun v6 B7 H7 e7 h6 => ?_
  obtain ⟨_, ⟨t, rfl, tk, td⟩, h6⟩ := h6
  have e17 := e15.trans L e7
  have hv1 := Mo.mo e7.bb hv1
  refine s_retW e17.dl (Dw.cv (Dw.tup (K := K) (Dwa.cons (.of (.var (Dp.str wd) rfl)) (Dwa.cons (.of (.var h6 rfl)) (Dwa.one (self hv1 p)))) (by rw [line]; show 3 ≤ _; decide)) fun B v h => tup3P (fun x hx => ?_) h) (kk e17)
  obtain ⟨t', rfl, tk', td'⟩ := hx
  simp only [List.mem_cons, List.not_mem_nil, or_false] at hw
  rcases hw with h | h
  · exact ⟨.plus t t', by rw [h]; rfl, ⟨tk, tk'⟩, by simp only [Wth.dp]; omega⟩
  · exact ⟨.times t t', by rw [h]; rfl, ⟨tk, tk'⟩, by simp only [Wth.dp]; omega⟩
theorem ok_lworth (D : Def K mg "_law_worth" s_lworth ["deal", "questions", "depth"]) (C_of : Cal P w K mg base CX0 2 "_law_of" s_of ["deal", "some"] (spOf K)) (C_any : Cal P w K mg base CX0 1 "_law_any" s_any ["deal", "bound"] spAny) (C_ltest : Cal P w K mg base CX0 7 "_law_test" s_ltest ["deal", "questions", "depth"] (sp_ltest K 4)) : ∀ n : Nat, Cal P w K mg base CX0 (n + 8) "_law_worth" s_lworth ["deal", "questions", "depth"] (sp_lworth K n)
  | 0 => (none_cal 8 D).weaken fun vs H Q E ⟨_, _, _, a, _, _, _, _, ⟨_, h0, h1, _⟩, _⟩ => by
    have h1 : a.2 < 0 := h1
    omega
  | n + 1 => step_lworth D C_of C_any C_ltest (ok_lworth D C_of C_any C_ltest n)
theorem sc_plainer : FnScope ["thing", "part"] ["thing"] (defScope s_plainer) := ⟨rfl, rfl, rfl, by decide +kernel, rfl, by decide +kernel, by decide +kernel⟩
theorem step_plainer {n : Nat} (D : Def K mg "_law_plainer" s_plainer ["thing"]) (C_plainer : Cal P w K mg base CX0 (n + 1) "_law_plainer" s_plainer ["thing"] (sp_plainer K n)) (n_tuple : mg "tuple" = none) (n_isinstance : mg "isinstance" = none) : Cal P w K mg base CX0 (n + 2) "_law_plainer" s_plainer ["thing"] (sp_plainer K (n + 1)) := by
  refine D.ok sc_plainer (fun vs H Q E h => ?_) (fun cdv f A outer s H vs Q E hr h => ?_)
  · exact pf_len h fun _ => rfl
  replace h := pf1 h
  obtain ⟨v, B, d, rfl, hB, hv, ph, k⟩ := h
  refine ⟨_, (pss_cons (ps_if (pt_cmpR op_eq (pe_ix ix_tup (pv 0) pe_int (fun _ _ => rfl)) pe_str (nomark _)) (pss_one (ps_ret (pe_tup (pa_cons pe_str pa_nil)))) pss_nil)
    (pss_one (ps_ret (pe_callTy call_tuple_of (by rfl) n_tuple (by decide +kernel) (pa_cons (pe_lc (own := [("part", 1)]) (g := gName 1) (tt := tYes) rfl sc_plainer.nd (pi_tup (pv 0)) (blkOk_by (own := [("part", 1)]) (N := ["thing", "part"]) (sc := defScope s_plainer) (by decide +kernel)) (fun _ _ _ _ _ => (pg_name (i := 1) sc_plainer.nd rfl (Or.inl rfl))) (fun _ _ _ _ _ => pts_nil) (fun _ _ _ _ _ => (pe_ifExp (pt_val (pe_callB (id := "isinstance") (r := rIsi K) call_isi (by rfl) n_isinstance (by decide +kernel) (pa_cons (pv 1) (pa_cons (pe_bltn (by rfl) n_tuple (by decide +kernel) (show RelV (.ty "tuple") (.type "tuple") from rfl)) pa_nil)))) (pe_cal C_plainer (hr.mono (by omega)) (by rfl) pass0 (pa_cons (pv 1) pa_nil)) (pv 1)))) pa_nil))))), ?_⟩
  obtain ⟨z, ps, rfl, ⟨few, _⟩, hp⟩ := ph
  have line := sizeLine_eq
  have k : ∀ (v : V) (B' H' : Hp), Ext B H B' H' → dat K (if z = "blank" then .tuple [.str "all"] else .tuple (.str z :: ps.map fun p => if isTup p = true then plainD n p else p)) B' v → Q v H' := k
  refine s_ifS (Dt.test (K := K) (De.op (r := rEq) (.op (T := dat K (.str z)) (.var hv rfl) .int (Rv.ixTD (i := ((0 : Nat) : Int)) (atI_nat rfl))) .str Rv.eqS)) hB (fun t B1 H1 e1 => ?_) fun f B1 H1 e1 => ?_
  · have t : z = "blank" := of_decide_eq_true t
    rw [if_pos t] at k
    exact s_ret (De.tupD (K := K) (ds := [.str "all"]) (.cons .str .nil) (by rw [line]; decide)) e1.bh fun v B H e h => k v B H (e1.trans e) h
  · have f : ¬ z = "blank" := of_decide_eq_false f
    rw [if_neg f] at k
    refine s_ret (De.eq (De.tupleL (K := K) (De.lcA (as := PyData.str z :: ps) (r := fun p => dat K p) (Di.tupD (.var (Mo.mo e1.bb hv) rfl)) (fun p => if isTup p = true then plainD n p else p) (by rw [line]; simp; omega) fun p x Bn Hn hm _ _ hx => ⟨[some v, some x], fun Q q => q, rfl, ?_⟩)) (by rw [List.map_cons]; rfl)) e1.bh fun v B H e h => k v B H (e1.trans e) h
    refine De.iteD (Dt.tB (K := K) (De.isi (.var hx rfl) (by simp))) (fun t => De.call p (.one (.var hx rfl)) ?_) fun _ => .var hx rfl
    rcases List.mem_cons.mp hm with rfl | hm
    · cases t
    · exact hp p hm t
theorem ok_plainer (D : Def K mg "_law_plainer" s_plainer ["thing"]) (n_tuple : mg "tuple" = none) (n_isinstance : mg "isinstance" = none) : ∀ n : Nat, Cal P w K mg base CX0 (n + 1) "_law_plainer" s_plainer ["thing"] (sp_plainer K n)
  | 0 => (none_cal 1 D).weaken fun vs H Q E ⟨B, a, _, _, h, _⟩ => h
  | n + 1 => step_plainer D (ok_plainer D n_tuple n_isinstance n) n_tuple n_isinstance
theorem sc_heads : FnScope ["thing", "found", "part"] ["thing"] (defScope s_heads) := ⟨rfl, rfl, rfl, by decide +kernel, rfl, by decide +kernel, by decide +kernel⟩
theorem step_heads {n : Nat} (D : Def K mg "_law_heads" s_heads ["thing"]) (n_tuple : mg "tuple" = none) (n_isinstance : mg "isinstance" = none) (C_heads : Cal P w K mg base CX0 (n + 1) "_law_heads" s_heads ["thing"] (sp_heads K n)) : Cal P w K mg base CX0 (n + 2) "_law_heads" s_heads ["thing"] (sp_heads K (n + 1)) := by
  refine D.ok sc_heads (fun vs H Q E h => ?_) (fun cdv f A outer s H vs Q E hr h => ?_)
  · exact pf_len h fun _ => rfl
  replace h := pf1 h
  obtain ⟨v, B, d, rfl, hB, hv, ⟨ph, n4⟩, k⟩ := h
  refine ⟨_, (pss_cons (ps_set (i := 1) sc_heads.nd rfl (Or.inl rfl) (pe_lst (pa_cons (pe_ix ix_tup (pv 0) pe_int (fun _ _ => rfl)) pa_nil)))
    (pss_cons (ps_for PassesOwn.never rfl (pi_tup (pv 0)) (pg_name (i := 2) sc_heads.nd rfl (Or.inl rfl)) (pss_one (ps_if (pt_val (pe_callB call_isi (by rfl) n_isinstance (by decide +kernel) (pa_cons (pv 2) (pa_cons (pe_bltn (by rfl) n_tuple (by decide +kernel) (show RelV (.ty "tuple") (.type "tuple") from rfl)) pa_nil)))) (pss_one (ps_set (i := 1) sc_heads.nd rfl (Or.inl rfl) (pe_op op_catS (pv 1) (pe_cal C_heads (hr.mono (by omega)) (by rfl) pass0 (pa_cons (pv 2) pa_nil))))) pss_nil)))
    (pss_one (ps_ret (pv 1))))), ?_⟩
  obtain ⟨z, ps, rfl, ⟨few, nz⟩, hp⟩ := ph
  have n4 : n + 1 ≤ 4 := n4
  have line := sizeLine_eq
  have len := heads_len (n + 1) _ ⟨z, ps, rfl, ⟨few, nz⟩, hp⟩
  have p4 : 3 ^ (n + 1) ≤ 3 ^ 4 := Nat.pow_le_pow_right (by decide) n4
  have part : ∀ i, (z :: (ps.take i).flatMap fun p => if isTup p = true then headsD n p else []).length ≤ 81 := fun i => by
    refine Nat.le_trans ?_ (Nat.le_trans len p4)
    show _ ≤ (z :: ps.flatMap fun p => if isTup p = true then headsD n p else []).length
    rw [List.length_cons, List.length_cons]
    have e : (ps.flatMap fun p => if isTup p = true then headsD n p else []).length = ((ps.take i ++ ps.drop i).flatMap fun p => if isTup p = true then headsD n p else []).length := by rw [List.take_append_drop]
    rw [List.flatMap_append, List.length_append] at e
    omega
  refine s_set (De.lstD (K := K) (ds := [.str z]) (.cons (.op (.var hv rfl) .int (Rv.ixTD (i := ((0 : Nat) : Int)) (atI_nat rfl))) .nil) (by rw [line]; show 1 ≤ _; decide)) hB fun v1 B1 H1 e1 h1 => ?_
  refine s_forS (Di.tupD (K := K) (ds := .str z :: ps) (.var (Mo.mo e1.bb hv) rfl)) e1.bh (fun i σ B => ∃ u v2, σ = [some v, some u, v2] ∧ dat K (.list ((z :: (ps.take (i - 1)).flatMap fun p => if isTup p = true then headsD n p else []).map .str)) B u) (fun B' s => ⟨v1, _, rfl, Mo.mo s h1⟩) ?_ ?_
  · rintro B2 H2 e2 i R x σ' Bc Bn Hn hR ⟨u, v2, rfl, hu⟩ s e hx
    rw [List.getElem?_map] at hR
    obtain ⟨p, hi, rfl⟩ := Option.map_eq_some_iff.mp hR
    cases i with
    | zero =>
      have hi : PyData.str z = p := Option.some.inj hi
      subst hi
      refine s_if (Dt.tB (K := K) (De.isi (.var hx rfl) (by simp))) e.bh (fun t => nomatch t) fun _ B' H' e' => ?_
      exact ⟨B', e.trans e', u, _, rfl, Mo.mo (s.trans e'.bb) hu⟩
    | succ i =>
      have hi : ps[i]? = some p := by simpa using hi
      have tk := take_snoc hi
      rw [Nat.add_sub_cancel] at hu
      refine s_if (Dt.tB (K := K) (De.isi (.var hx rfl) (by simp))) e.bh (fun t B' H' e' => ?_) fun f B' H' e' => ?_
      · refine s_setE (De.op (r := rCatS K) (.var (Mo.mo (s.trans e'.bb) hu) rfl) (De.call p (.one (.var (Mo.mo e'.bb hx) rfl)) ⟨hp p (List.mem_of_getElem? hi) t, (by show n ≤ 4; omega)⟩) (Rv.catS ?_)) e'.bh fun v9 B9 H9 e9 h9 => ⟨B9, (e.trans e').trans e9, v9, _, rfl, ?_⟩
        · have a := part i
          have b := heads_len n p (hp p (List.mem_of_getElem? hi) t)
          have c : 3 ^ n ≤ 3 ^ 4 := Nat.pow_le_pow_right (by decide) (by omega)
          rw [List.length_map, List.length_map]
          omega
        · rw [Nat.add_sub_cancel, tk, List.flatMap_append]
          have t : isTup p = true := t
          simp only [List.flatMap_cons, List.flatMap_nil, List.append_nil, t, if_true]
          rw [← List.cons_append, List.map_append]
          exact h9
      · refine ⟨B', e.trans e', u, _, rfl, ?_⟩
        have f : isTup p = false := f
        rw [Nat.add_sub_cancel, tk, List.flatMap_append]
        simp only [List.flatMap_cons, List.flatMap_nil, List.append_nil, f, Bool.false_eq_true, if_false]
        exact Mo.mo (s.trans e'.bb) hu
  · rintro σ' B' H' e2 ⟨u, v2, rfl, hu⟩
    rw [List.length_map, List.length_cons, Nat.add_sub_cancel, List.take_length] at hu
    exact s_ret (.var hu rfl) e2.bh fun v B H e h => k v B H ((e1.trans e2).trans e) h
theorem ok_heads (D : Def K mg "_law_heads" s_heads ["thing"]) (n_tuple : mg "tuple" = none) (n_isinstance : mg "isinstance" = none) : ∀ n : Nat, Cal P w K mg base CX0 (n + 1) "_law_heads" s_heads ["thing"] (sp_heads K n)
  | 0 => (none_cal 1 D).weaken fun vs H Q E ⟨B, a, _, _, ⟨h, _⟩, _⟩ => h
  | n + 1 => step_heads D n_tuple n_isinstance (ok_heads D n_tuple n_isinstance n)
end
end K69

set_option Elab.async false
set_option linter.all false
set_option maxRecDepth 100000
set_option maxHeartbeats 4000000
/-! K69f: the keys, where a test holds, what a worth is. -/
namespace K69
open PySem PySem.Spec PyProof.Rows L2 Wb Wv Fm As
structure KsOk (qs : Qs) (ks : List Ky) : Prop where
  each : ∀ k ∈ ks, KOk qs k
  few : ks.length ≤ 400
theorem KsOk.filter {qs : Qs} {ks : List Ky} (h : KsOk qs ks) (p : Ky → Bool) : KsOk qs (ks.filter p) := ⟨fun k hk => h.each k (List.mem_filter.mp hk).1, Nat.le_trans (List.length_filter_le _ _) h.few⟩
abbrev sp_lkeys (K : PySem.W.Frag) : Sp := Pf (α := Qs) (fun qs => [dat K (qsD qs)]) QsOk (fun qs => datP K fun x => ∃ ks, x = .list (ks.map keyD) ∧ KsOk qs ks)
abbrev sp_lwhere (K : PySem.W.Frag) (n : Nat) : Sp := Pf (α := Qs × List Ky × Tst) (fun a => [dat K (qsD a.1), dat K (.list (a.2.1.map keyD)), dat K a.2.2.enc]) (fun a => QsOk a.1 ∧ KsOk a.1 a.2.1 ∧ a.2.2.dp ≤ n ∧ a.2.2.ok (names a.1)) (fun a => dat K (.list ((a.2.1.filter fun k => a.2.2.holds (names a.1) k.1 k.2).map keyD)))
abbrev sp_lworths (K : PySem.W.Frag) (n : Nat) : Sp := Pf (α := Qs × List Ky × Wth) (fun a => [dat K (qsD a.1), dat K (.list (a.2.1.map keyD)), dat K a.2.2.enc]) (fun a => QsOk a.1 ∧ KsOk a.1 a.2.1 ∧ a.2.2.dp ≤ n ∧ a.2.2.dp ≤ 4 ∧ a.2.2.ok (names a.1)) (fun a => dat K (.list (a.2.1.map fun k => .int (a.2.2.val (names a.1) k.1 k.2))))
theorem filter_mem {ks : List Ky} {p : Ky → Bool} {k : Ky} (h : k ∈ ks) : decide (k ∈ ks.filter p) = p k := by
  rw [Bool.eq_iff_iff, decide_eq_true_eq, List.mem_filter]
  exact ⟨fun z => z.2, fun z => ⟨h, z⟩⟩
section
variable {P : Program} {w : World} {K : PySem.W.Frag} {mg : Str → Option Value} {base : Heap} {C_Form C_Ask C_NoName : Addr}
/-- [name for name, many in questions].index(z) -/
theorem De.indexN {σ : L2.St} {B : Hp} {ta tb : TE} {ns : List Str} {z : Str} (ha : De ta σ B (dat K (.list (ns.map .str)))) (hb : De tb σ B (dat K (.str z))) (nm : ∀ z ∈ ns, Nm z) (hz : z ∈ ns) :
    De (tBM K "list" (rIndexD K) ta (tCons tb tNil)) σ B (dat K (.int (ns.idxOf z : Nat))) := fun B1 H s1 s2 Q q => ha B1 H s1 s2 _ fun x B2 H2 e hx => by
  obtain ⟨a, xs, rfl, hs, hR⟩ := dat_lstR hx
  have lt := List.idxOf_lt_length_of_mem hz
  refine ⟨.inl ⟨rfl, xs, e.bh.seq hs⟩, hb B2 H2 (s1.trans e.bb) e.bh _ fun y B3 H3 e3 hy => ?_⟩
  refine ⟨a, y, .str z, ns.map .str, ns.idxOf z, .str z, rfl, rfl, dpMono (e3.bb.trans e3.bh) _ _ hx, dpMono e3.bh _ _ hy, shaped_strsL nm, shaped_str (nm z hz), ?_, by simp [PyData.eqv], fun m z' hm hz' => ?_, q _ B3 H3 (e.trans e3) (Dp.int _)⟩
  · rw [List.getElem?_map, List.getElem?_eq_getElem lt, List.getElem_idxOf]
    rfl
  · rw [List.getElem?_map] at hz'
    obtain ⟨w, hw, rfl⟩ := Option.map_eq_some_iff.mp hz'
    obtain ⟨lm, ew⟩ := List.getElem?_eq_some_iff.mp hw
    have := List.not_of_lt_findIdx (p := (· == z)) (xs := ns) hm
    simp only [PyData.eqv]
    rw [← ew]
    simpa using this
theorem sc_lkeys : FnScope ["questions", "keys", "lot", "truth"] ["questions"] (defScope s_lkeys) := ⟨rfl, rfl, rfl, by decide +kernel, rfl, by decide +kernel, by decide +kernel⟩
theorem ok_lkeys (D : Def K mg "_law_keys" s_lkeys ["questions"]) (C_llots : Cal P w K mg base CX0 2 "_law_lots" s_llots ["questions"] (sp_llots K)) (C_ltruths : Cal P w K mg base CX0 2 "_law_truths" s_ltruths ["questions"] (sp_ltruths K)) : Cal P w K mg base CX0 3 "_law_keys" s_lkeys ["questions"] (sp_lkeys K) := by
  refine D.ok sc_lkeys (fun vs H Q E h => ?_) (fun cdv f A outer s H vs Q E hr h => ?_)
  · exact pf_len h fun _ => rfl
  replace h := pf1 h
  obtain ⟨v, B, qs, rfl, hB, hv, qk, k⟩ := h
  refine ⟨_, (pss_cons (ps_set (i := 1) sc_lkeys.nd rfl (Or.inl rfl) (pe_lst pa_nil))
    (pss_cons (ps_for PassesOwn.never rfl (pi_list (pe_cal C_llots (hr.mono (by decide)) (by rfl) pass0 (pa_cons (pv 0) pa_nil))) (pg_name (i := 2) sc_lkeys.nd rfl (Or.inr rfl)) (pss_one (ps_set (i := 1) sc_lkeys.nd rfl (Or.inl rfl) (pe_op op_catS (pv 1) (pe_lc (own := [("truth", 3)]) (g := gName 3) (tt := tYes) rfl sc_lkeys.nd (pi_list (pe_cal C_ltruths (hr.mono (by decide)) (by rfl) pass0 (pa_cons (pv 0) pa_nil))) (blkOk_by (own := [("truth", 3)]) (N := ["questions", "keys", "lot", "truth"]) (sc := defScope s_lkeys) (by decide +kernel)) (fun _ _ _ _ _ => (pg_name (i := 3) sc_lkeys.nd rfl (Or.inl rfl))) (fun _ _ _ _ _ => pts_nil) (fun _ _ _ _ _ => (pe_tup (pa_cons (pv 2) (pa_cons (pv 3) pa_nil)))))))))
    (pss_one (ps_ret (pv 1))))), ?_⟩
  have qk : QsOk qs := qk
  have line := sizeLine_eq
  have ok := qk.ok
  have l3 := qk.three
  have ln : (names qs).length = qs.length := by unfold names; rw [List.length_map]
  obtain ⟨ls, perm, es⟩ := sortD_lots (subs (names qs))
  have sub8 : ls.length ≤ 8 := by
    rw [perm.length_eq]
    have := subs_len (names qs) (names qs).length (Nat.le_refl _)
    rw [List.take_length] at this
    rw [this]
    exact Nat.le_trans (Nat.pow_le_pow_right (show 0 < 2 by decide) (show (names qs).length ≤ 3 by omega)) (by decide)
  have lotk : ∀ l ∈ ls, (∀ z ∈ l, Nm z) ∧ l.length ≤ 4 := fun l hl => by
    have m := perm.mem_iff.mp hl
    exact ⟨fun z hz => ok.nm z (subs_in m z hz), by have := subs_row m; omega⟩
  have g27 : (grow (qs.map fun q => rng 0 q.2)).length ≤ 27 := by
    refine Nat.le_trans (grow_len (m := 3) _ fun l hl => ?_) (Nat.le_trans (Nat.pow_le_pow_right (show 0 < 3 by decide) (show _ ≤ 3 by rw [List.length_map]; exact l3)) (by decide))
    obtain ⟨q, hq, rfl⟩ := List.mem_map.mp hl
    rw [rng_len]
    exact (qk.sz q hq).2
  have rowk : ∀ r ∈ grow (qs.map fun q => rng 0 q.2), r.length = qs.length ∧ ∀ i ∈ r, i.natAbs ≤ 100 := fun r hr => by
    have lj := grow_row hr
    rw [List.length_map] at lj
    refine ⟨lj, fun x hx => ?_⟩
    obtain ⟨j, hj, rfl⟩ := List.mem_iff_getElem.mp hx
    obtain ⟨u, hu, hm⟩ := picks_at (l := rng 0 ((qs[j]'(by omega)).2)) (i := j) (grow_picks _ _ hr) (by rw [List.getElem?_map, List.getElem?_eq_getElem (by omega)]; rfl)
    rw [List.getElem?_eq_getElem hj] at hu
    cases hu
    have := (qk.sz (qs[j]'(by omega)) (List.getElem_mem _)).2
    have := rng_mem.mp hm
    omega
  generalize hrows : grow (qs.map fun q => rng 0 q.2) = rows at g27 rowk
  refine s_set (De.lstD (K := K) .nil (by rw [line]; exact Nat.zero_le _)) hB fun v1 B1 H1 e1 h1 => ?_
  refine s_forS (Di.listM (K := K) (as := ls) (f := lotD) (De.eq (De.call qs (.one (.var (Mo.mo e1.bb hv) rfl)) qk) (by rw [es]))) e1.bh (fun i σ B => ∃ u v2 v3, σ = [some v, some u, v2, v3] ∧ dat K (.list (((ls.take i).flatMap fun l => rows.map fun r => (l, r)).map keyD)) B u) (fun B' s => ⟨v1, _, _, rfl, Mo.mo s h1⟩) ?_ ?_
  · rintro B2 H2 e2 i R x σ' Bc Bn Hn hR ⟨u, v2, v3, rfl, hu⟩ s e hx
    rw [List.getElem?_map] at hR
    obtain ⟨l, hl, rfl⟩ := Option.map_eq_some_iff.mp hR
    have i8 := (List.getElem?_eq_some_iff.mp hl).1
    have few : ((ls.take i).flatMap fun l => rows.map fun r => (l, r)).length ≤ 8 * 27 := by
      have : ∀ ms : List (List Str), (ms.flatMap fun l => rows.map fun r => (l, r)).length = ms.length * rows.length := by
        intro ms
        induction ms with
        | nil => simp
        | cons a ms ih => rw [List.flatMap_cons, List.length_append, ih, List.length_map, List.length_cons, Nat.succ_mul]; omega
      rw [this, List.length_take]
      exact Nat.mul_le_mul (by omega) g27
    have hv' := Mo.mo ((e1.bb.trans e2.bb).trans e.bb) hv
    refine s_setE (De.op (r := rCatS K) (.var (Mo.mo s hu) rfl) (De.lcA (K := K) (as := rows) (r := fun r => dat K (rowD r)) (Di.listM (f := rowD) (De.eq (De.call qs (.one (.var hv' rfl)) qk) (by rw [hrows]; rfl))) (fun r => keyD (l, r)) (by omega) fun r y Bm Hm _ sm _ hy => ⟨_, fun Q q => q, rfl, De.tupD (ds := [lotD l, rowD r]) (.cons (.var (Mo.mo sm hx) rfl) (.cons (.var hy rfl) .nil)) (by rw [line]; show 2 ≤ _; decide)⟩) (Rv.catS (by rw [List.length_map, List.length_map]; omega))) e.bh fun v6 B6 H6 e6 h6 => ⟨B6, e.trans e6, v6, _, _, rfl, ?_⟩
    rw [take_snoc hl, List.flatMap_append, List.map_append]
    simp only [List.flatMap_cons, List.flatMap_nil, List.append_nil, List.map_map]
    exact h6
  · rintro σ' B' H' e2 ⟨u, v2, v3, rfl, hu⟩
    rw [List.length_map, List.take_length] at hu
    refine s_ret (.var hu rfl) e2.bh fun v B H e h => k v B H ((e1.trans e2).trans e) ⟨_, ⟨_, rfl, fun y hy => ?_, ?_⟩, h⟩
    · obtain ⟨l, hl, hm⟩ := List.mem_flatMap.mp hy
      obtain ⟨r, hr, rfl⟩ := List.mem_map.mp hm
      exact ⟨(lotk l hl).1, (lotk l hl).2, (rowk r hr).1, (rowk r hr).2⟩
    · have : ∀ ms : List (List Str), (ms.flatMap fun l => rows.map fun r => (l, r)).length = ms.length * rows.length := by
        intro ms
        induction ms with
        | nil => simp
        | cons a ms ih => rw [List.flatMap_cons, List.length_append, ih, List.length_map, List.length_cons, Nat.succ_mul]; omega
      rw [this]
      exact Nat.le_trans (Nat.mul_le_mul sub8 g27) (by decide)
theorem sc_lwhere : FnScope ["questions", "keys", "test", "key", "place", "name", "many", "first"] ["questions", "keys", "test"] (defScope s_lwhere) := ⟨rfl, rfl, rfl, by decide +kernel, rfl, by decide +kernel, by decide +kernel⟩
theorem step_lwhere {n : Nat} (D : Def K mg "_law_where" s_lwhere ["questions", "keys", "test"]) (C_lwhere : Cal P w K mg base CX0 (n + 1) "_law_where" s_lwhere ["questions", "keys", "test"] (sp_lwhere K n)) : Cal P w K mg base CX0 (n + 2) "_law_where" s_lwhere ["questions", "keys", "test"] (sp_lwhere K (n + 1)) := by
  refine D.ok sc_lwhere (fun vs H Q E h => ?_) (fun cdv f A outer s H vs Q E hr h => ?_)
  · exact pf_len h fun _ => rfl
  replace h := pf3 h
  obtain ⟨v, v1, v2, B, ⟨qs, ks, t⟩, rfl, hB, hv, hv1, hv2, ⟨qk, kk, dp, tk⟩, k⟩ := h
  refine ⟨_, (pss_cons (ps_if (pt_cmpR op_eq (pe_ix ix_tup (pv 2) pe_int (fun _ _ => rfl)) pe_str (nomark _)) (pss_one (ps_ret (pv 1))) pss_nil)
    (pss_cons (ps_if (pt_cmpR op_eq (pe_ix ix_tup (pv 2) pe_int (fun _ _ => rfl)) pe_str (nomark _)) (pss_one (ps_ret (pe_lc (own := [("key", 3)]) (g := gName 3) rfl sc_lwhere.nd (pi_list (pv 1)) (blkOk_by (own := [("key", 3)]) (N := ["questions", "keys", "test", "key", "place", "name", "many", "first"]) (sc := defScope s_lwhere) (by decide +kernel)) (fun _ _ _ _ _ => (pg_name (i := 3) sc_lwhere.nd rfl (Or.inl rfl))) (fun _ _ _ _ _ => pts_one (pt_cmpR (r := rInT K false) (op_inT hr.u65) (pe_ix (r := rIxT K) ix_tup (pv 2) pe_int (fun _ _ => rfl)) (pe_ix (r := rIxT K) ix_tup (pv 3) pe_int (fun _ _ => rfl)) rfl)) (fun _ _ _ _ _ => (pv 3))))) pss_nil)
    (pss_cons (ps_if (pt_cmpR op_eq (pe_ix ix_tup (pv 2) pe_int (fun _ _ => rfl)) pe_str (nomark _)) (pss_cons (ps_set (i := 4) sc_lwhere.nd rfl (Or.inr rfl) (pe_bm PySem.F.plainAttrs_list PySem.F.slot_list_index PySem.F.type_list_index (mt_indexD hr.u65) (pe_lc (own := [("name", 5), ("many", 6)]) (g := gTup K 2 (gCons (gName 5) (gCons (gName 6) gNil))) (tt := tYes) rfl sc_lwhere.nd (pi_tup (pv 0)) (blkOk_by (own := [("name", 5), ("many", 6)]) (N := ["questions", "keys", "test", "key", "place", "name", "many", "first"]) (sc := defScope s_lwhere) (by decide +kernel)) (fun _ _ _ _ _ => (pg_tup rfl (pgs_cons (pg_name (i := 5) sc_lwhere.nd rfl (Or.inl rfl)) (pgs_cons (pg_name (i := 6) sc_lwhere.nd rfl (Or.inl rfl)) pgs_nil)))) (fun _ _ _ _ _ => pts_nil) (fun _ _ _ _ _ => (pv 5))) (pa_cons (pe_ix ix_tup (pv 2) pe_int (fun _ _ => rfl)) pa_nil)))
      (pss_one (ps_ret (pe_lc (own := [("key", 3)]) (g := gName 3) rfl sc_lwhere.nd (pi_list (pv 1)) (blkOk_by (own := [("key", 3)]) (N := ["questions", "keys", "test", "key", "place", "name", "many", "first"]) (sc := defScope s_lwhere) (by decide +kernel)) (fun _ _ _ _ _ => (pg_name (i := 3) sc_lwhere.nd rfl (Or.inl rfl))) (fun _ _ _ _ _ => pts_one (pt_cmpR op_eq (pe_ix (r := rIxT K) ix_tup (pe_ix (r := rIxT K) ix_tup (pv 3) pe_int (fun _ _ => rfl)) (pv 4) (fun _ _ => rfl)) (pe_ix (r := rIxT K) ix_tup (pv 2) pe_int (fun _ _ => rfl)) (nomark _))) (fun _ _ _ _ _ => (pv 3)))))) pss_nil)
    (pss_cons (ps_set (i := 7) sc_lwhere.nd rfl (Or.inr rfl) (pe_cal C_lwhere (hr.mono (by omega)) (by rfl) pass0 (pa_cons (pv 0) (pa_cons (pv 1) (pa_cons (pe_ix ix_tup (pv 2) pe_int (fun _ _ => rfl)) pa_nil)))))
    (pss_cons (ps_if (pt_cmpR op_eq (pe_ix ix_tup (pv 2) pe_int (fun _ _ => rfl)) pe_str (nomark _)) (pss_one (ps_ret (pe_lc (own := [("key", 3)]) (g := gName 3) rfl sc_lwhere.nd (pi_list (pv 1)) (blkOk_by (own := [("key", 3)]) (N := ["questions", "keys", "test", "key", "place", "name", "many", "first"]) (sc := defScope s_lwhere) (by decide +kernel)) (fun _ _ _ _ _ => (pg_name (i := 3) sc_lwhere.nd rfl (Or.inl rfl))) (fun _ _ _ _ _ => pts_one (pt_cmpR (r := rNotInD K) (op_notInD hr.u65) (pv 3) (pv 7) rfl)) (fun _ _ _ _ _ => (pv 3))))) pss_nil)
    (pss_cons (ps_if (pt_cmpR op_eq (pe_ix ix_tup (pv 2) pe_int (fun _ _ => rfl)) pe_str (nomark _)) (pss_one (ps_ret (pe_cal C_lwhere (hr.mono (by omega)) (by rfl) pass0 (pa_cons (pv 0) (pa_cons (pv 7) (pa_cons (pe_ix ix_tup (pv 2) pe_int (fun _ _ => rfl)) pa_nil)))))) pss_nil)
    (pss_one (ps_ret (pe_lc (own := [("key", 3)]) (g := gName 3) rfl sc_lwhere.nd (pi_list (pv 1)) (blkOk_by (own := [("key", 3)]) (N := ["questions", "keys", "test", "key", "place", "name", "many", "first"]) (sc := defScope s_lwhere) (by decide +kernel)) (fun _ _ _ _ _ => (pg_name (i := 3) sc_lwhere.nd rfl (Or.inl rfl))) (fun _ _ _ _ _ => pts_one (PW.pt (pw_or (pt_cmpR (r := rInD K) (op_inD hr.u65) (pv 3) (pv 7) rfl) (pw_or1 (pt_cmpR (r := rInD K) (op_inD hr.u65) (pv 3) (pe_cal C_lwhere (hr.mono (by omega)) (by rfl) pass0 (pa_cons (pv 0) (pa_cons (pe_lst (pa_cons (pv 3) pa_nil)) (pa_cons (pe_ix (r := rIxT K) ix_tup (pv 2) pe_int (fun _ _ => rfl)) pa_nil)))) rfl))))) (fun _ _ _ _ _ => (pv 3))))))))))), ?_⟩
  have hv : dat K (qsD qs) B v := hv
  have hv1 : dat K (.list (ks.map keyD)) B v1 := hv1
  have hv2 : dat K t.enc B v2 := hv2
  have qk : QsOk qs := qk
  have kk : KsOk qs ks := kk
  have dp : t.dp ≤ n + 1 := dp
  have k : ∀ (v : V) (B' H' : Hp), Ext B H B' H' → dat K (.list ((ks.filter fun k => t.holds (names qs) k.1 k.2).map keyD)) B' v → Q v H' := k
  have line := sizeLine_eq
  have few := kk.few
  have q3 : qs.length ≤ 3 := qk.three
  have nms := qk.ok.nm
  have hk0 : ∀ {B : Hp} {te : TE} {σ : L2.St} {ky : Ky}, De te σ B (dat K (keyD ky)) → De (tOp (rIxT K) te (tC (.int 0))) σ B (dat K (lotD ky.1)) := fun h => .op h .int (Rv.ixTD rfl)
  have hk1 : ∀ {B : Hp} {te : TE} {σ : L2.St} {ky : Ky}, De te σ B (dat K (keyD ky)) → De (tOp (rIxT K) te (tC (.int 1))) σ B (dat K (rowD ky.2)) := fun h => .op h .int (Rv.ixTD rfl)
  have word : ∀ {w z : Str} {r : List PyData} {B' : Hp} {b : Bool} {x3 x4 x5 x6 x7 : Option V}, t.enc = .tuple (.str w :: r) → dat K t.enc B' v2 → decide (w = z) = b → Dt (tTest (tOp rEq (tOp (rIxT K) (tVar 2) (tC (.int 0))) (tC (.str z)))) [some v, some v1, some v2, x3, x4, x5, x6, x7] B' b := fun {w z r B' b _ _ _ _ _} e h hb => Dt.eq (.test (K := K) (De.op (r := rEq) (.op (T := dat K (.str w)) (.var (by rw [e] at h; exact h) rfl) .int (Rv.ixTD (i := ((0 : Nat) : Int)) (atI_nat rfl))) .str Rv.eqS)) hb
  have self : ∀ {σ : L2.St} {B : Hp} {ta tb : TE} {t' : Tst} {ks' : List Ky} {E : XK}, De (tVar 0) σ B (dat K (qsD qs)) → De ta σ B (dat K (.list (ks'.map keyD))) → De tb σ B (dat K t'.enc) → KsOk qs ks' → t'.dp ≤ n → t'.ok (names qs) →
      De (tCall (sp_lwhere K n) [] E (tCons (tVar 0) (tCons ta (tCons tb tNil)))) σ B (dat K (.list ((ks'.filter fun k => t'.holds (names qs) k.1 k.2).map keyD))) := fun h0 h1 h2 kk d o =>
    De.call (qs, _, _) (.cons h0 (.cons h1 (.one h2))) ⟨qk, kk, d, o⟩
  have arg1 : ∀ {σ : L2.St} {B : Hp} {a : Tst} {w : Str} {r : List PyData}, t.enc = .tuple (.str w :: a.enc :: r) → De (tVar 2) σ B (dat K t.enc) → De (tOp (rIxT K) (tVar 2) (tC (.int 1))) σ B (dat K a.enc) := fun {σ B a w r} e h => .op (R := dat K (.tuple (.str w :: a.enc :: r))) (by rw [← e]; exact h) .int (Rv.ixTD (i := ((1 : Nat) : Int)) (atI_nat rfl))
  cases t with
  | all =>
    refine s_ifS (word rfl hv2 rfl) hB (fun _ B1 H1 e1 => ?_) fun z => nomatch z
    refine s_ret (.var (Mo.mo e1.bb hv1) rfl) e1.bh fun v B H e h => k v B H (e1.trans e) ?_
    have z : (ks.filter fun k => Tst.holds (names qs) k.1 k.2 .all) = ks := List.filter_eq_self.mpr fun _ _ => rfl
    rw [z]
    exact h
  | blank z =>
    have tk : z ∈ names qs := tk
    refine s_skip (word rfl hv2 (by decide)) hB fun B1 H1 e1 => ?_
    refine s_ifS (word rfl (Mo.mo e1.bb hv2) rfl) e1.bh (fun _ B2 H2 e2 => ?_) fun z => nomatch z
    have e := e1.trans e2
    refine s_ret (De.lcD (K := K) (as := ks) (r := fun k => dat K (keyD k)) (Di.listM (f := keyD) (.var (Mo.mo e.bb hv1) rfl)) (fun k => (Tst.blank z).holds (names qs) k.1 k.2) keyD (by omega) fun ky x Bn Hn hm sb _ hx => ⟨[some v, some v1, some v2, some x, none, none, none, none], fun Q q => q, rfl, ?_, fun _ => .var hx rfl⟩) e2.bh fun v B H e' h => k v B H (e.trans e') h
    refine Dt.eq (.test (K := K) (De.op (r := rInT K false) (.op (T := dat K (.str z)) (.var (Mo.mo (e.bb.trans sb) hv2) rfl) .int (Rv.ixTD rfl)) (hk0 (.var hx rfl)) (Rv.inT (shaped_str (nms z tk)) (shaped_lot (kk.each ky hm).lot)))) ?_
    rw [any_strs]
    rfl
  | is z m =>
    have tz : z ∈ names qs := tk.1
    refine s_skip (word rfl hv2 (by decide)) hB fun B1 H1 e1 => ?_
    refine s_skip (word rfl (Mo.mo e1.bb hv2) (by decide)) e1.bh fun B2 H2 e2 => ?_
    refine s_ifS (word rfl (Mo.mo (e1.trans e2).bb hv2) rfl) e2.bh (fun _ B3 H3 e3 => ?_) fun z => nomatch z
    have e := (e1.trans e2).trans e3
    refine s_set (De.indexN (K := K) (ns := names qs) (De.eq (De.lcA (K := K) (as := qs) (r := fun q => dat K (encQ q)) (Di.tupM (.var (Mo.mo e.bb hv) rfl)) (fun q => .str q.1) (by omega) fun q x Bn Hn _ _ sh hx => ?_) (by unfold names; rw [List.map_map]; rfl)) (.op (T := dat K (.str z)) (.var (Mo.mo e.bb hv2) rfl) .int (Rv.ixTD rfl)) nms tz) e3.bh fun v4 B4 H4 e4 h4 => ?_
    · obtain ⟨y, z, hy, hz, go⟩ := gTup2 sh (dat_pair hx)
      exact ⟨_, fun Q q => go Q q, rfl, .var hy rfl⟩
    have eD := e.trans e4
    refine s_ret (De.lcD (K := K) (as := ks) (r := fun k => dat K (keyD k)) (Di.listM (f := keyD) (.var (Mo.mo eD.bb hv1) rfl)) (fun k => (Tst.is z m).holds (names qs) k.1 k.2) keyD (by omega) fun ky x Bn Hn hm sb _ hx => ⟨[some v, some v1, some v2, some x, some v4, none, none, none], fun Q q => q, rfl, ?_, fun _ => .var hx rfl⟩) e4.bh fun v B H e' h => k v B H (eD.trans e') h
    exact .test (K := K) (De.op (r := rEq) (De.answer (qs := qs) (k := ky) (z := z) (hk1 (.var hx rfl)) (.var (Mo.mo sb h4) rfl) (kk.each ky hm) tz) (.op (T := dat K (.int m)) (.var (Mo.mo (eD.bb.trans sb) hv2) rfl) .int (Rv.ixTD rfl)) Rv.eqI)
  | nt a =>
    have dp : a.dp ≤ n := by simp only [Tst.dp] at dp; omega
    refine s_skip (word rfl hv2 (by decide)) hB fun B1 H1 e1 => ?_
    refine s_skip (word rfl (Mo.mo e1.bb hv2) (by decide)) e1.bh fun B2 H2 e2 => ?_
    refine s_skip (word rfl (Mo.mo (e1.trans e2).bb hv2) (by decide)) e2.bh fun B3 H3 e3 => ?_
    have e := (e1.trans e2).trans e3
    refine s_set (self (t' := a) (.var (Mo.mo e.bb hv) rfl) (.var (Mo.mo e.bb hv1) rfl) (arg1 rfl (.var (Mo.mo e.bb hv2) rfl)) kk dp tk) e3.bh fun v7 B4 H4 e4 h7 => ?_
    have eD := e.trans e4
    refine s_ifS (word rfl (Mo.mo eD.bb hv2) rfl) e4.bh (fun _ B5 H5 e5 => ?_) fun z => nomatch z
    have eD := eD.trans e5
    have h7 := Mo.mo e5.bb h7
    refine s_ret (De.lcD (K := K) (as := ks) (r := fun k => dat K (keyD k)) (Di.listM (f := keyD) (.var (Mo.mo eD.bb hv1) rfl)) (fun k => (Tst.nt a).holds (names qs) k.1 k.2) keyD (by omega) fun ky x Bn Hn hm sb _ hx => ⟨[some v, some v1, some v2, some x, none, none, none, some v7], fun Q q => q, rfl, ?_, fun _ => .var hx rfl⟩) e5.bh fun v B H e' h => k v B H (eD.trans e') h
    refine Dt.eq (.test (K := K) (De.op (r := rNotInD K) (.var hx rfl) (.var (Mo.mo sb h7) rfl) (Rv.notInL (shaped_key (kk.each ky hm).lot) (shaped_keys fun x hx => ((kk.filter _).each x hx).lot)))) ?_
    rw [keys_any, filter_mem hm]
    rfl
  | both a b =>
    have da : a.dp ≤ n := by simp only [Tst.dp] at dp; omega
    have db : b.dp ≤ n := by simp only [Tst.dp] at dp; omega
    refine s_skip (word rfl hv2 (by decide)) hB fun B1 H1 e1 => ?_
    refine s_skip (word rfl (Mo.mo e1.bb hv2) (by decide)) e1.bh fun B2 H2 e2 => ?_
    refine s_skip (word rfl (Mo.mo (e1.trans e2).bb hv2) (by decide)) e2.bh fun B3 H3 e3 => ?_
    have e := (e1.trans e2).trans e3
    refine s_set (self (t' := a) (.var (Mo.mo e.bb hv) rfl) (.var (Mo.mo e.bb hv1) rfl) (arg1 rfl (.var (Mo.mo e.bb hv2) rfl)) kk da tk.1) e3.bh fun v7 B4 H4 e4 h7 => ?_
    have eD := e.trans e4
    refine s_skip (word rfl (Mo.mo eD.bb hv2) (by decide)) e4.bh fun B5 H5 e5 => ?_
    have eD := eD.trans e5
    have h7 := Mo.mo e5.bb h7
    refine s_ifS (word rfl (Mo.mo eD.bb hv2) rfl) e5.bh (fun _ B6 H6 e6 => ?_) fun z => nomatch z
    have eD := eD.trans e6
    have h7 := Mo.mo e6.bb h7
    refine s_ret (De.eq (self (t' := b) (.var (Mo.mo eD.bb hv) rfl) (.var h7 rfl) (.op (T := dat K b.enc) (.var (Mo.mo eD.bb hv2) rfl) .int (Rv.ixTD rfl)) (kk.filter _) db tk.2) ?_) e6.bh fun v B H e' h => k v B H (eD.trans e') h
    rw [List.filter_filter]
    congr 2
    exact List.filter_congr fun x _ => Bool.and_comm _ _
  | either a b =>
    have da : a.dp ≤ n := by simp only [Tst.dp] at dp; omega
    have db : b.dp ≤ n := by simp only [Tst.dp] at dp; omega
    refine s_skip (word rfl hv2 (by decide)) hB fun B1 H1 e1 => ?_
    refine s_skip (word rfl (Mo.mo e1.bb hv2) (by decide)) e1.bh fun B2 H2 e2 => ?_
    refine s_skip (word rfl (Mo.mo (e1.trans e2).bb hv2) (by decide)) e2.bh fun B3 H3 e3 => ?_
    have e := (e1.trans e2).trans e3
    refine s_set (self (t' := a) (.var (Mo.mo e.bb hv) rfl) (.var (Mo.mo e.bb hv1) rfl) (arg1 rfl (.var (Mo.mo e.bb hv2) rfl)) kk da tk.1) e3.bh fun v7 B4 H4 e4 h7 => ?_
    have eD := e.trans e4
    refine s_skip (word rfl (Mo.mo eD.bb hv2) (by decide)) e4.bh fun B5 H5 e5 => ?_
    have eD := eD.trans e5
    have h7 := Mo.mo e5.bb h7
    refine s_skip (word rfl (Mo.mo eD.bb hv2) (by decide)) e5.bh fun B6 H6 e6 => ?_
    have eD := eD.trans e6
    have h7 := Mo.mo e6.bb h7
    refine s_ret (De.lcD (K := K) (as := ks) (r := fun k => dat K (keyD k)) (Di.listM (f := keyD) (.var (Mo.mo eD.bb hv1) rfl)) (fun k => (Tst.either a b).holds (names qs) k.1 k.2) keyD (by omega) fun ky x Bn Hn hm sb _ hx => ⟨[some v, some v1, some v2, some x, none, none, none, some v7], fun Q q => q, rfl, ?_, fun _ => .var hx rfl⟩) e6.bh fun v B H e' h => k v B H (eD.trans e') h
    have sk := shaped_key (kk.each ky hm).lot
    have one : KsOk qs [ky] := ⟨fun y hy => by rw [List.mem_singleton.mp hy]; exact kk.each ky hm, by simp⟩
    refine Dt.or (a := a.holds (names qs) ky.1 ky.2) (b := b.holds (names qs) ky.1 ky.2) (Dt.eq (.test (K := K) (De.op (r := rInD K) (.var hx rfl) (.var (Mo.mo sb h7) rfl) (Rv.inL sk (shaped_keys fun x hx => ((kk.filter _).each x hx).lot)))) (by rw [keys_any, filter_mem hm])) fun _ => Dt.eq (.test (K := K) (De.op (r := rInD K) (.var hx rfl) (self (t' := b) (ks' := [ky]) (.var (Mo.mo (eD.bb.trans sb) hv) rfl) (De.lstD (ds := [keyD ky]) (.cons (.var hx rfl) .nil) (by rw [line]; show 1 ≤ _; decide)) (.op (T := dat K b.enc) (.var (Mo.mo (eD.bb.trans sb) hv2) rfl) .int (Rv.ixTD rfl)) one db tk.2) (Rv.inL sk (shaped_keys fun x hx => ((one.filter _).each x hx).lot)))) (by rw [keys_any, filter_mem List.mem_cons_self])
theorem ok_lwhere (D : Def K mg "_law_where" s_lwhere ["questions", "keys", "test"]) : ∀ n : Nat, Cal P w K mg base CX0 (n + 1) "_law_where" s_lwhere ["questions", "keys", "test"] (sp_lwhere K n)
  | 0 => (none_cal 1 D).weaken fun vs H Q E ⟨B, a, _, _, ⟨_, _, h, _⟩, _⟩ => by
    have := a.2.2.dp_pos
    have h : a.2.2.dp ≤ 0 := h
    omega
  | n + 1 => step_lwhere D (ok_lwhere D n)
end
end K69

set_option Elab.async false
set_option linter.all false
set_option maxRecDepth 100000
set_option maxHeartbeats 4000000
/-! K69g: what a worth is for all keys. -/
namespace K69
open PySem PySem.Spec PyProof.Rows L2 Wb Wv Fm As
section
variable {P : Program} {w : World} {K : PySem.W.Frag} {mg : Str → Option Value} {base : Heap} {C_Form C_Ask C_NoName : Addr}
theorem atI_map' {α : Type} {f : α → PyData} {xs : List α} {i : Nat} {x : α} (h : xs[i]? = some x) : atI (xs.map f) (i : Int) = some (f x) := atI_nat (by rw [List.getElem?_map, h]; rfl)
theorem sc_lworths : FnScope ["questions", "keys", "worth", "key", "place", "name", "many", "held", "one", "other", "at"] ["questions", "keys", "worth"] (defScope s_lworths) := ⟨rfl, rfl, rfl, by decide +kernel, rfl, by decide +kernel, by decide +kernel⟩
theorem step_lworths {n : Nat} (D : Def K mg "_law_worths" s_lworths ["questions", "keys", "worth"]) (C_lwhere : Cal P w K mg base CX0 5 "_law_where" s_lwhere ["questions", "keys", "test"] (sp_lwhere K 4)) (C_lworths : Cal P w K mg base CX0 (n + 6) "_law_worths" s_lworths ["questions", "keys", "worth"] (sp_lworths K n)) (n_range : mg "range" = none) (n_len : mg "len" = none) : Cal P w K mg base CX0 (n + 7) "_law_worths" s_lworths ["questions", "keys", "worth"] (sp_lworths K (n + 1)) := by
  refine D.ok sc_lworths (fun vs H Q E h => ?_) (fun cdv f A outer s H vs Q E hr h => ?_)
  · exact pf_len h fun _ => rfl
  replace h := pf3 h
  obtain ⟨v, v1, v2, B, ⟨qs, ks, t⟩, rfl, hB, hv, hv1, hv2, ⟨qk, kk, dp, d4, tk⟩, k⟩ := h
  refine ⟨_, (pss_cons (ps_if (pt_cmpR op_eq (pe_ix ix_tup (pv 2) pe_int (fun _ _ => rfl)) pe_str (nomark _)) (pss_one (ps_ret (pe_lc (own := [("key", 3)]) (g := gName 3) (tt := tYes) rfl sc_lworths.nd (pi_list (pv 1)) (blkOk_by (own := [("key", 3)]) (N := ["questions", "keys", "worth", "key", "place", "name", "many", "held", "one", "other", "at"]) (sc := defScope s_lworths) (by decide +kernel)) (fun _ _ _ _ _ => (pg_name (i := 3) sc_lworths.nd rfl (Or.inl rfl))) (fun _ _ _ _ _ => pts_nil) (fun _ _ _ _ _ => (pe_ix (r := rIxT K) ix_tup (pv 2) pe_int (fun _ _ => rfl)))))) pss_nil)
    (pss_cons (ps_if (pt_cmpR op_eq (pe_ix ix_tup (pv 2) pe_int (fun _ _ => rfl)) pe_str (nomark _)) (pss_cons (ps_set (i := 4) sc_lworths.nd rfl (Or.inr rfl) (pe_bm PySem.F.plainAttrs_list PySem.F.slot_list_index PySem.F.type_list_index (mt_indexD hr.u65) (pe_lc (own := [("name", 5), ("many", 6)]) (g := gTup K 2 (gCons (gName 5) (gCons (gName 6) gNil))) (tt := tYes) rfl sc_lworths.nd (pi_tup (pv 0)) (blkOk_by (own := [("name", 5), ("many", 6)]) (N := ["questions", "keys", "worth", "key", "place", "name", "many", "held", "one", "other", "at"]) (sc := defScope s_lworths) (by decide +kernel)) (fun _ _ _ _ _ => (pg_tup rfl (pgs_cons (pg_name (i := 5) sc_lworths.nd rfl (Or.inl rfl)) (pgs_cons (pg_name (i := 6) sc_lworths.nd rfl (Or.inl rfl)) pgs_nil)))) (fun _ _ _ _ _ => pts_nil) (fun _ _ _ _ _ => (pv 5))) (pa_cons (pe_ix ix_tup (pv 2) pe_int (fun _ _ => rfl)) pa_nil)))
      (pss_one (ps_ret (pe_lc (own := [("key", 3)]) (g := gName 3) (tt := tYes) rfl sc_lworths.nd (pi_list (pv 1)) (blkOk_by (own := [("key", 3)]) (N := ["questions", "keys", "worth", "key", "place", "name", "many", "held", "one", "other", "at"]) (sc := defScope s_lworths) (by decide +kernel)) (fun _ _ _ _ _ => (pg_name (i := 3) sc_lworths.nd rfl (Or.inl rfl))) (fun _ _ _ _ _ => pts_nil) (fun _ _ _ _ _ => (pe_ix (r := rIxT K) ix_tup (pe_ix (r := rIxT K) ix_tup (pv 3) pe_int (fun _ _ => rfl)) (pv 4) (fun _ _ => rfl))))))) pss_nil)
    (pss_cons (ps_if (pt_cmpR op_eq (pe_ix ix_tup (pv 2) pe_int (fun _ _ => rfl)) pe_str (nomark _)) (pss_cons (ps_set (i := 7) sc_lworths.nd rfl (Or.inr rfl) (pe_cal C_lwhere (hr.mono (by omega)) (by rfl) pass0 (pa_cons (pv 0) (pa_cons (pv 1) (pa_cons (pe_ix ix_tup (pv 2) pe_int (fun _ _ => rfl)) pa_nil)))))
      (pss_one (ps_ret (pe_lc (own := [("key", 3)]) (g := gName 3) (tt := tYes) rfl sc_lworths.nd (pi_list (pv 1)) (blkOk_by (own := [("key", 3)]) (N := ["questions", "keys", "worth", "key", "place", "name", "many", "held", "one", "other", "at"]) (sc := defScope s_lworths) (by decide +kernel)) (fun _ _ _ _ _ => (pg_name (i := 3) sc_lworths.nd rfl (Or.inl rfl))) (fun _ _ _ _ _ => pts_nil) (fun _ _ _ _ _ => (pe_ifExp (pt_cmpR (r := rInD K) (op_inD hr.u65) (pv 3) (pv 7) rfl) pe_int pe_int)))))) pss_nil)
    (pss_cons (ps_asg (pe_tup (pa_cons (pe_cal C_lworths (hr.mono (by omega)) (by rfl) pass0 (pa_cons (pv 0) (pa_cons (pv 1) (pa_cons (pe_ix ix_tup (pv 2) pe_int (fun _ _ => rfl)) pa_nil)))) (pa_cons (pe_cal C_lworths (hr.mono (by omega)) (by rfl) pass0 (pa_cons (pv 0) (pa_cons (pv 1) (pa_cons (pe_ix ix_tup (pv 2) pe_int (fun _ _ => rfl)) pa_nil)))) pa_nil))) (pg_tup rfl (pgs_cons (pg_name (i := 8) sc_lworths.nd rfl (Or.inr rfl)) (pgs_cons (pg_name (i := 9) sc_lworths.nd rfl (Or.inr rfl)) pgs_nil))))
    (pss_one (ps_ret (pe_lc (own := [("at", 10)]) (g := gName 10) (tt := tYes) rfl sc_lworths.nd (pi_range1 rfl n_range (pa_cons (pe_callB call_len (by rfl) n_len (by decide +kernel) (pa_cons (pv 1) pa_nil)) pa_nil)) (blkOk_by (own := [("at", 10)]) (N := ["questions", "keys", "worth", "key", "place", "name", "many", "held", "one", "other", "at"]) (sc := defScope s_lworths) (by decide +kernel)) (fun _ _ _ _ _ => (pg_name (i := 10) sc_lworths.nd rfl (Or.inl rfl))) (fun _ _ _ _ _ => pts_nil) (fun _ _ _ _ _ => (pe_ifExp (pt_cmpR op_eq (pe_ix (r := rIxT K) ix_tup (pv 2) pe_int (fun _ _ => rfl)) pe_str (nomark _)) (pe_op op_add (pe_ix (r := rIxL K) ix_list (pv 8) (pv 10) (fun _ _ => rfl)) (pe_ix (r := rIxL K) ix_list (pv 9) (pv 10) (fun _ _ => rfl))) (pe_op op_mulW (pe_ix (r := rIxL K) ix_list (pv 8) (pv 10) (fun _ _ => rfl)) (pe_ix (r := rIxL K) ix_list (pv 9) (pv 10) (fun _ _ => rfl)))))))))))), ?_⟩
  have hv : dat K (qsD qs) B v := hv
  have hv1 : dat K (.list (ks.map keyD)) B v1 := hv1
  have hv2 : dat K t.enc B v2 := hv2
  have qk : QsOk qs := qk
  have kk : KsOk qs ks := kk
  have dp : t.dp ≤ n + 1 := dp
  have d4 : t.dp ≤ 4 := d4
  have k : ∀ (v : V) (B' H' : Hp), Ext B H B' H' → dat K (.list (ks.map fun k => .int (t.val (names qs) k.1 k.2))) B' v → Q v H' := k
  have line := sizeLine_eq
  have few := kk.few
  have q3 : qs.length ≤ 3 := qk.three
  have nms := qk.ok.nm
  have hk1 : ∀ {B : Hp} {te : TE} {σ : L2.St} {ky : Ky}, De te σ B (dat K (keyD ky)) → De (tOp (rIxT K) te (tC (.int 1))) σ B (dat K (rowD ky.2)) := fun h => .op h .int (Rv.ixTD rfl)
  have word : ∀ {w z : Str} {r : List PyData} {B' : Hp} {b : Bool} {x3 x4 x5 x6 x7 x8 x9 x10 : Option V}, t.enc = .tuple (.str w :: r) → dat K t.enc B' v2 → decide (w = z) = b → Dt (tTest (tOp rEq (tOp (rIxT K) (tVar 2) (tC (.int 0))) (tC (.str z)))) [some v, some v1, some v2, x3, x4, x5, x6, x7, x8, x9, x10] B' b := fun {w z r B' b _ _ _ _ _ _ _ _} e h hb => Dt.eq (.test (K := K) (De.op (r := rEq) (.op (T := dat K (.str w)) (.var (by rw [e] at h; exact h) rfl) .int (Rv.ixTD (i := ((0 : Nat) : Int)) (atI_nat rfl))) .str Rv.eqS)) hb
  have self : ∀ {σ : L2.St} {B : Hp} {tb : TE} {t' : Wth} {E : XK}, De (tVar 0) σ B (dat K (qsD qs)) → De (tVar 1) σ B (dat K (.list (ks.map keyD))) → De tb σ B (dat K t'.enc) → t'.dp ≤ n → t'.dp ≤ 4 → t'.ok (names qs) →
      De (tCall (sp_lworths K n) [] E (tCons (tVar 0) (tCons (tVar 1) (tCons tb tNil)))) σ B (dat K (.list (ks.map fun k => .int (t'.val (names qs) k.1 k.2)))) := fun h0 h1 h2 d d4 o =>
    De.call (qs, ks, _) (.cons h0 (.cons h1 (.one h2))) ⟨qk, kk, d, d4, o⟩
  have two : ∀ {a b : Wth} {w : Str}, t.enc = .tuple [.str w, a.enc, b.enc] → ∀ {σ : L2.St} {B : Hp}, De (tVar 2) σ B (dat K t.enc) → De (tOp (rIxT K) (tVar 2) (tC (.int 1))) σ B (dat K a.enc) ∧ De (tOp (rIxT K) (tVar 2) (tC (.int 2))) σ B (dat K b.enc) := fun {a b w} e {σ B} h => by
    rw [e] at h
    exact ⟨.op h .int (Rv.ixTD rfl), .op h .int (Rv.ixTD rfl)⟩
  have lt500 : ∀ {a : Wth} {ky : Ky}, ky ∈ ks → a.ok (names qs) → a.dp ≤ 4 → (a.val (names qs) ky.1 ky.2).natAbs < 2 ^ 500 := fun {a ky} hm ha h4 => Nat.lt_of_lt_of_le (a.val_lt (kk.each ky hm).sml ha) (Nat.pow_le_pow_right (by decide) (by
    have := Nat.pow_le_pow_right (show 0 < 2 by decide) h4
    omega))
  cases t with
  | number m =>
    refine s_ifS (word rfl hv2 rfl) hB (fun _ B1 H1 e1 => ?_) fun z => nomatch z
    exact s_ret (De.lcA (K := K) (as := ks) (r := fun k => dat K (keyD k)) (Di.listM (f := keyD) (.var (Mo.mo e1.bb hv1) rfl)) (fun _ => .int m) (by omega) fun ky x Bn Hn hm sb _ hx => ⟨_, fun Q q => q, rfl, .op (.var (Mo.mo (e1.bb.trans sb) hv2) rfl) .int (Rv.ixTD rfl)⟩) e1.bh fun v B H e h => k v B H (e1.trans e) h
  | answer z =>
    have tk : z ∈ names qs := tk
    refine s_skip (word rfl hv2 (by decide)) hB fun B1 H1 e1 => ?_
    refine s_ifS (word rfl (Mo.mo e1.bb hv2) rfl) e1.bh (fun _ B2 H2 e2 => ?_) fun z => nomatch z
    have e := e1.trans e2
    refine s_set (De.indexN (K := K) (ns := names qs) (De.eq (De.lcA (K := K) (as := qs) (r := fun q => dat K (encQ q)) (Di.tupM (.var (Mo.mo e.bb hv) rfl)) (fun q => .str q.1) (by omega) fun q x Bn Hn _ _ sh hx => ?_) (by unfold names; rw [List.map_map]; rfl)) (.op (T := dat K (.str z)) (.var (Mo.mo e.bb hv2) rfl) .int (Rv.ixTD rfl)) nms tk) e2.bh fun v4 B4 H4 e4 h4 => ?_
    · obtain ⟨y, z, hy, hz, go⟩ := gTup2 sh (dat_pair hx)
      exact ⟨_, fun Q q => go Q q, rfl, .var hy rfl⟩
    have eD := e.trans e4
    exact s_ret (De.lcA (K := K) (as := ks) (r := fun k => dat K (keyD k)) (Di.listM (f := keyD) (.var (Mo.mo eD.bb hv1) rfl)) (fun ky => .int ((Wth.answer z).val (names qs) ky.1 ky.2)) (by omega) fun ky x Bn Hn hm sb _ hx => ⟨_, fun Q q => q, rfl, De.answer (qs := qs) (k := ky) (z := z) (hk1 (.var hx rfl)) (.var (Mo.mo sb h4) rfl) (kk.each ky hm) tk⟩) e4.bh fun v B H e' h => k v B H (eD.trans e') h
  | ifT a =>
    have da : a.dp ≤ 4 := by simp only [Wth.dp] at d4; omega
    refine s_skip (word rfl hv2 (by decide)) hB fun B1 H1 e1 => ?_
    refine s_skip (word rfl (Mo.mo e1.bb hv2) (by decide)) e1.bh fun B2 H2 e2 => ?_
    refine s_ifS (word rfl (Mo.mo (e1.trans e2).bb hv2) rfl) e2.bh (fun _ B3 H3 e3 => ?_) fun z => nomatch z
    have e := (e1.trans e2).trans e3
    refine s_set (De.call (qs, ks, a) (.cons (.var (Mo.mo e.bb hv) rfl) (.cons (.var (Mo.mo e.bb hv1) rfl) (.one (.op (.var (Mo.mo e.bb hv2) rfl) .int (Rv.ixTD rfl))))) ⟨qk, kk, da, tk⟩) e3.bh fun v7 B4 H4 e4 h7 => ?_
    have eD := e.trans e4
    refine s_ret (De.lcA (K := K) (as := ks) (r := fun k => dat K (keyD k)) (Di.listM (f := keyD) (.var (Mo.mo eD.bb hv1) rfl)) (fun ky => .int ((Wth.ifT a).val (names qs) ky.1 ky.2)) (by omega) fun ky x Bn Hn hm sb _ hx => ⟨[some v, some v1, some v2, some x, none, none, none, some v7, none, none, none], fun Q q => q, rfl, ?_⟩) e4.bh fun v B H e' h => k v B H (eD.trans e') h
    refine De.eq (De.iteD (K := K) (b := a.holds (names qs) ky.1 ky.2) (d := .int 1) (e := .int 0) (Dt.eq (.test (K := K) (De.op (r := rInD K) (.var hx rfl) (.var (Mo.mo sb h7) rfl) (Rv.inL (shaped_key (kk.each ky hm).lot) (shaped_keys fun x hx => ((kk.filter _).each x hx).lot)))) (by rw [keys_any, filter_mem hm])) (fun _ => .int) fun _ => .int) ?_
    show (if _ then PyData.int 1 else PyData.int 0) = PyData.int (if a.holds (names qs) ky.1 ky.2 then 1 else 0)
    split <;> rfl
  | plus a b =>
    simp only [Wth.dp] at dp d4
    refine s_skip (word rfl hv2 (by decide)) hB fun B1 H1 e1 => ?_
    refine s_skip (word rfl (Mo.mo e1.bb hv2) (by decide)) e1.bh fun B2 H2 e2 => ?_
    refine s_skip (word rfl (Mo.mo (e1.trans e2).bb hv2) (by decide)) e2.bh fun B3 H3 e3 => ?_
    have e := (e1.trans e2).trans e3
    have g2 := two (a := a) (b := b) (w := "plus") rfl (σ := [some v, some v1, some v2, none, none, none, none, none, none, none, none]) (.var (Mo.mo e.bb hv2) rfl)
    refine s_rawG ((De.tup (K := K) (.cons (self (.var (Mo.mo e.bb hv) rfl) (.var (Mo.mo e.bb hv1) rfl) g2.1 (by omega) (by omega) tk.1) (.one (self (.var (Mo.mo e.bb hv) rfl) (.var (Mo.mo e.bb hv1) rfl) g2.2 (by omega) (by omega) tk.2))) (by rw [line]; show 2 ≤ _; decide)) B3 H3 (Same.refl _) e3.bh _ fun u B4 H4 e4 hu => ?_)
    obtain ⟨x8, x9, h8, h9, go⟩ := gTup2 e4.bh hu
    refine go _ ?_
    have eD := e.trans e4
    refine s_ret (De.eq (De.lcA (K := K) (as := List.range ks.length) (r := fun i : Nat => dat K (.int (i : Int))) (Di.rng (De.eq (De.lenL (.var (Mo.mo eD.bb hv1) rfl)) (by rw [List.length_map])) (by omega)) (fun i => ((ks.map fun k => PyData.int ((Wth.plus a b).val (names qs) k.1 k.2)).getD i .none)) (by rw [List.length_range]; omega) fun i x Bn Hn hm sb _ hx => ⟨[some v, some v1, some v2, none, none, none, none, none, some x8, some x9, some x], fun Q q => q, rfl, ?_⟩) ?_) e4.bh fun v B H e' h => k v B H (eD.trans e') h
    · have il : i < ks.length := List.mem_range.mp hm
      have hi : ks[i]? = some ks[i] := List.getElem?_eq_getElem il
      have e1 : (ks.map fun k => PyData.int ((Wth.plus a b).val (names qs) k.1 k.2)).getD i .none = .int (a.val (names qs) ks[i].1 ks[i].2 + b.val (names qs) ks[i].1 ks[i].2) := by
        rw [List.getD_eq_getElem?_getD, List.getElem?_map, hi]
        rfl
      rw [e1]
      exact De.ite (word rfl (Mo.mo (eD.bb.trans sb) hv2) rfl) (fun _ => De.op (De.op (.var (Mo.mo sb h8) rfl) (.var hx rfl) (Rv.ixLD (atI_map' hi))) (De.op (.var (Mo.mo sb h9) rfl) (.var hx rfl) (Rv.ixLD (atI_map' hi))) Rv.I0) fun z => nomatch z
    · congr 1
      apply List.ext_getElem
      · rw [List.length_map, List.length_map, List.length_range]
      · intro i h1 h2
        rw [List.getElem_map, List.getElem_range, List.getD_eq_getElem?_getD, List.getElem?_eq_getElem h2]
        rfl
  | times a b =>
    simp only [Wth.dp] at dp d4
    refine s_skip (word rfl hv2 (by decide)) hB fun B1 H1 e1 => ?_
    refine s_skip (word rfl (Mo.mo e1.bb hv2) (by decide)) e1.bh fun B2 H2 e2 => ?_
    refine s_skip (word rfl (Mo.mo (e1.trans e2).bb hv2) (by decide)) e2.bh fun B3 H3 e3 => ?_
    have e := (e1.trans e2).trans e3
    have g2 := two (a := a) (b := b) (w := "times") rfl (σ := [some v, some v1, some v2, none, none, none, none, none, none, none, none]) (.var (Mo.mo e.bb hv2) rfl)
    refine s_rawG ((De.tup (K := K) (.cons (self (.var (Mo.mo e.bb hv) rfl) (.var (Mo.mo e.bb hv1) rfl) g2.1 (by omega) (by omega) tk.1) (.one (self (.var (Mo.mo e.bb hv) rfl) (.var (Mo.mo e.bb hv1) rfl) g2.2 (by omega) (by omega) tk.2))) (by rw [line]; show 2 ≤ _; decide)) B3 H3 (Same.refl _) e3.bh _ fun u B4 H4 e4 hu => ?_)
    obtain ⟨x8, x9, h8, h9, go⟩ := gTup2 e4.bh hu
    refine go _ ?_
    have eD := e.trans e4
    refine s_ret (De.eq (De.lcA (K := K) (as := List.range ks.length) (r := fun i : Nat => dat K (.int (i : Int))) (Di.rng (De.eq (De.lenL (.var (Mo.mo eD.bb hv1) rfl)) (by rw [List.length_map])) (by omega)) (fun i => ((ks.map fun k => PyData.int ((Wth.times a b).val (names qs) k.1 k.2)).getD i .none)) (by rw [List.length_range]; omega) fun i x Bn Hn hm sb _ hx => ⟨[some v, some v1, some v2, none, none, none, none, none, some x8, some x9, some x], fun Q q => q, rfl, ?_⟩) ?_) e4.bh fun v B H e' h => k v B H (eD.trans e') h
    · have il : i < ks.length := List.mem_range.mp hm
      have hi : ks[i]? = some ks[i] := List.getElem?_eq_getElem il
      have mi := List.getElem_mem il
      have e1 : (ks.map fun k => PyData.int ((Wth.times a b).val (names qs) k.1 k.2)).getD i .none = .int (a.val (names qs) ks[i].1 ks[i].2 * b.val (names qs) ks[i].1 ks[i].2) := by
        rw [List.getD_eq_getElem?_getD, List.getElem?_map, hi]
        rfl
      rw [e1]
      exact De.ite (b := false) (word rfl (Mo.mo (eD.bb.trans sb) hv2) (by decide)) (fun z => nomatch z) fun _ => De.op (De.op (.var (Mo.mo sb h8) rfl) (.var hx rfl) (Rv.ixLD (atI_map' hi))) (De.op (.var (Mo.mo sb h9) rfl) (.var hx rfl) (Rv.ixLD (atI_map' hi))) (Rv.I (wide_mul (lt500 mi tk.1 (by omega)) (lt500 mi tk.2 (by omega)) (by decide) (by decide) (by decide)))
    · congr 1
      apply List.ext_getElem
      · rw [List.length_map, List.length_map, List.length_range]
      · intro i h1 h2
        rw [List.getElem_map, List.getElem_range, List.getD_eq_getElem?_getD, List.getElem?_eq_getElem h2]
        rfl
theorem ok_lworths (D : Def K mg "_law_worths" s_lworths ["questions", "keys", "worth"]) (C_lwhere : Cal P w K mg base CX0 5 "_law_where" s_lwhere ["questions", "keys", "test"] (sp_lwhere K 4)) (n_range : mg "range" = none) (n_len : mg "len" = none) : ∀ n : Nat, Cal P w K mg base CX0 (n + 6) "_law_worths" s_lworths ["questions", "keys", "worth"] (sp_lworths K n)
  | 0 => (none_cal 6 D).weaken fun vs H Q E ⟨B, a, _, _, ⟨_, _, h, _⟩, _⟩ => by
    have := a.2.2.dp_pos
    have h : a.2.2.dp ≤ 0 := h
    omega
  | n + 1 => step_lworths D C_lwhere (ok_lworths D C_lwhere n_range n_len n) n_range n_len
end
end K69

set_option Elab.async false
set_option linter.all false
set_option maxRecDepth 100000
set_option maxHeartbeats 4000000
/-! K69h: the law itself. -/
namespace K69
open PySem PySem.Spec PyProof.Rows L2 Wb Wv Fm As
theorem ask_tb {qs : Qs} {w : Wth} {t : Tst} (qk : QOk qs) (ok : AOk qs w t) : Shw (.tuple [w.enc, t.enc]) := by
  have a := (tb_W qk.nm w ok.wk).more ok.w4 (wt4 ok.w4)
  have b := (tb_T qk.nm t ok.tk).more ok.t4 (wt4 ok.t4)
  exact ((TbAll.cons a (.cons b (TbAll.nil.more (Nat.zero_le _) (Nat.le_refl _)))).tuple).shw (by decide) (by decide)
theorem shw_bool (b : Bool) : Shw (.bool b) := (tb_bool b).shw
theorem val_shw {qs : Qs} {ky : Ky} {w : Wth} (kk : KOk qs ky) (ok : w.ok (names qs)) (d : w.dp ≤ 4) : Shw (.int (w.val (names qs) ky.1 ky.2)) := by
  refine (tb_int ?_).shw
  refine Nat.lt_of_lt_of_le (w.val_lt kk.sml ok) (Nat.pow_le_pow_right (by decide) ?_)
  have := Nat.pow_le_pow_right (show 0 < 2 by decide) d
  omega
theorem kw4s {R R1 R2 R3 : Rel} {B : Hp} {vs : List V} (h : AllR [R2, R3, R1, R] B vs) : AllR [R, R1, R2, R3] B (kwV [3, 2, 0, 1] vs) := by
  obtain ⟨x2, r2, rfl, h2, x3, r3, rfl, h3, x1, r1, rfl, h1, x0, r0, rfl, h0, hr⟩ := h
  have hr : r0 = [] := hr
  subst hr
  exact ⟨x0, _, rfl, h0, x1, _, rfl, h1, x2, _, rfl, h2, x3, _, rfl, h3, rfl⟩
theorem Dw_go {ta : TE} {σ : L2.St} {d c : Addr} {B : Hp} {S : Rel} {H : Hp} {Q : V → Hp → Prop} (h : Dw ta σ d c B S) (L : Dl B H d c) (k : ∀ v B1 H1, ExtD d c B H B1 H1 → S B1 v → Q v H1) : ta σ H Q := h B H (Same.refl _) L Q fun v B1 H1 e hv => k v B1 H1 e hv
theorem s_parE {ta : TA} {R S : Rel} {σ : L2.St} {B H : Hp} {D : Ends} {i j : Nat} (h : Da ta σ B [R, S]) (hB : Same B H) (k : ∀ u v B' H', Ext B H B' H' → R B' u → S B' v → D.nx ((σ.set i (some u)).set j (some v)) H') : tPar i j ta D σ H := h B H (Same.refl _) hB _ fun vs B' H' e hv => by
  obtain ⟨a, r, rfl, h1, b, r', rfl, h2, h3⟩ := hv
  have h3 : r' = [] := h3
  subst h3
  exact ⟨a, b, rfl, k a b B' H' e h1 h2⟩
section
variable {P : Program} {w : World} {K : PySem.W.Frag} {mg : Str → Option Value} {base : Heap} {C_Form C_Ask C_NoName : Addr}
theorem kw_isPlain : Kw "is_plain" s_isPlain ["ask"] ["ask"] [0] := ⟨rfl, fun _ _ _ _ _ _ _ ws hl => match ws, hl with | [_], _ => .of_eq rfl⟩
theorem kw_isGiven_3201 : Kw "is_given" s_isGiven ["form", "ask", "lot", "truth"] ["lot", "truth", "ask", "form"] [3, 2, 0, 1] := ⟨rfl, fun _ _ _ _ _ _ _ ws hl => match ws, hl with | [_, _, _, _], _ => .of_eq rfl⟩
theorem kw_worthAt_3201 : Kw "worth_at" s_worthAt ["form", "ask", "lot", "truth"] ["lot", "truth", "ask", "form"] [3, 2, 0, 1] := ⟨rfl, fun _ _ _ _ _ _ _ ws hl => match ws, hl with | [_, _, _, _], _ => .of_eq rfl⟩
theorem sc_law : FnScope ["script", "deal", "turn", "questions", "form", "keys", "worth", "test", "ask", "held", "worths", "at", "lot", "truth"] ["script"] (defScope s_law) := ⟨rfl, rfl, rfl, by decide +kernel, rfl, by decide +kernel, by decide +kernel⟩
theorem ok_law (D : Def K mg "law" s_law ["script"]) (C_deal : Cal P w K mg base CX0 1 "_law_deal" s_deal ["script", "base"] (spDeal K)) (n_range : mg "range" = none) (C_lquestions : Cal P w K mg base CX0 4 "_law_questions" s_lquestions ["deal", "most"] (sp_lquestions K)) (K_Form : CalC P w K mg base "Form" C_Form ["questions"]) (C_lkeys : Cal P w K mg base CX0 3 "_law_keys" s_lkeys ["questions"] (sp_lkeys K)) (C_lworth : Cal P w K mg base CX0 12 "_law_worth" s_lworth ["deal", "questions", "depth"] (sp_lworth K 4)) (C_ltest : Cal P w K mg base CX0 7 "_law_test" s_ltest ["deal", "questions", "depth"] (sp_ltest K 4)) (C_any : Cal P w K mg base CX0 1 "_law_any" s_any ["deal", "bound"] spAny) (C_plainer : Cal P w K mg base CX0 5 "_law_plainer" s_plainer ["thing"] (sp_plainer K 4)) (K_Ask : CalC P w K mg base "Ask" C_Ask ["worth", "given"]) (C_isPlain : Cal P w K mg base CX0 6 "is_plain" s_isPlain ["ask"] (sp_isPlain K C_Ask)) (n_repr : mg "repr" = none) (C_heads : Cal P w K mg base CX0 5 "_law_heads" s_heads ["thing"] (sp_heads K 4)) (C_lwhere : Cal P w K mg base CX0 5 "_law_where" s_lwhere ["questions", "keys", "test"] (sp_lwhere K 4)) (C_lworths : Cal P w K mg base CX0 10 "_law_worths" s_lworths ["questions", "keys", "worth"] (sp_lworths K 4)) (n_len : mg "len" = none) (C_isGiven : Cal P w K mg base CX0 8 "is_given" s_isGiven ["form", "ask", "lot", "truth"] (sp_isGiven K C_Form C_Ask)) (C_worthAt : Cal P w K mg base CX0 13 "worth_at" s_worthAt ["form", "ask", "lot", "truth"] (sp_worthAt K C_Form C_Ask)) : CalG P w K mg base CX0 14 "law" s_law ["script"] (Wb.spLaw K) := by
  refine D.okG sc_law (fun vs H Q E h => ?_) (fun cdv f A outer s H vs Q E gd hr h => ?_)
  · obtain ⟨a, ns, rfl, _⟩ := h
    rfl
  obtain ⟨a, ns, rfl, hs, few, k⟩ := h
  refine ⟨_, (pss_cons (ps_set (i := 1) sc_law.nd rfl (Or.inl rfl) (pe_cal C_deal (hr.mono (by decide)) (by rfl) pass0 (pa_cons (pv 0) (pa_cons pe_int pa_nil))))
    (pss_cons (ps_for PassesOwn.leaving rfl (pi_range1 rfl n_range (pa_cons pe_int pa_nil)) (pg_name (i := 2) sc_law.nd rfl (Or.inl rfl)) (pss_cons (ps_set (i := 3) sc_law.nd rfl (Or.inl rfl) (pe_cal C_lquestions (hr.mono (by decide)) (by rfl) pass0 (pa_cons (pv 1) (pa_cons pe_int pa_nil))))
      (pss_cons (ps_par (i := 4) (j := 5) rfl sc_law.nd rfl rfl (by decide) rfl rfl (pa_cons (pe_calC K_Form hr (by decide) (by rfl) (pa_cons (pv 3) pa_nil)) (pa_cons (pe_cal C_lkeys (hr.mono (by decide)) (by rfl) pass0 (pa_cons (pv 3) pa_nil)) pa_nil)) (by rfl))
      (pss_cons (ps_par (i := 6) (j := 7) rfl sc_law.nd rfl rfl (by decide) rfl rfl (pa_cons (pe_cal C_lworth (hr.mono (by decide)) (by rfl) pass0 (pa_cons (pv 1) (pa_cons (pv 3) (pa_cons pe_int pa_nil)))) (pa_cons (pe_cal C_ltest (hr.mono (by decide)) (by rfl) pass0 (pa_cons (pv 1) (pa_cons (pv 3) (pa_cons pe_int pa_nil)))) pa_nil)) (by rfl))
      (pss_cons (ps_if (pt_cmpR op_eq (pe_cal C_any (hr.mono (by decide)) (by rfl) pass0 (pa_cons (pv 1) (pa_cons pe_int pa_nil))) pe_int (nomark _)) (pss_one (ps_par (i := 6) (j := 7) rfl sc_law.nd rfl rfl (by decide) rfl rfl (pa_cons (pe_cal C_plainer (hr.mono (by decide)) (by rfl) pass0 (pa_cons (pv 6) pa_nil)) (pa_cons (pe_cal C_plainer (hr.mono (by decide)) (by rfl) pass0 (pa_cons (pv 7) pa_nil)) pa_nil)) (by rfl))) pss_nil)
      (pss_cons (ps_set (i := 8) sc_law.nd rfl (Or.inl rfl) (pe_calC K_Ask hr (by decide) (by rfl) (pa_cons (pv 6) (pa_cons (pv 7) pa_nil))))
      (pss_cons (ps_if (pt_cmpR op_ne (pe_callB (call_show gd hr.units) (by rfl) n_repr (by decide +kernel) (pa_cons (pe_calK C_isPlain (hr.mono (by decide)) (by rfl) pass0 kw_isPlain (pk_cons (pv 8) pk_nil)) pa_nil)) (pe_callB (call_show gd hr.units) (by rfl) n_repr (by decide +kernel) (pa_cons (pe_cmpR (op_notInD hr.u65) pe_str (pe_op op_catS (pe_cal C_heads (hr.mono (by decide)) (by rfl) pass0 (pa_cons (pv 6) pa_nil)) (pe_cal C_heads (hr.mono (by decide)) (by rfl) pass0 (pa_cons (pv 7) pa_nil))) rfl) pa_nil)) (nomark _)) (pss_one (ps_ret pe_bl)) pss_nil)
      (pss_cons (ps_par (i := 9) (j := 10) rfl sc_law.nd rfl rfl (by decide) rfl rfl (pa_cons (pe_cal C_lwhere (hr.mono (by decide)) (by rfl) pass0 (pa_cons (pv 3) (pa_cons (pv 5) (pa_cons (pv 7) pa_nil)))) (pa_cons (pe_cal C_lworths (hr.mono (by decide)) (by rfl) pass0 (pa_cons (pv 3) (pa_cons (pv 5) (pa_cons (pv 6) pa_nil)))) pa_nil)) (by rfl))
      (pss_cons (ps_for PassesOwn.leaving rfl (pi_range1 rfl n_range (pa_cons (pe_callB call_len (by rfl) n_len (by decide +kernel) (pa_cons (pv 5) pa_nil)) pa_nil)) (pg_name (i := 11) sc_law.nd rfl (Or.inl rfl)) (pss_cons (ps_asg (pe_ix ix_list (pv 5) (pv 11) (fun _ _ => rfl)) (pg_tup rfl (pgs_cons (pg_name (i := 12) sc_law.nd rfl (Or.inl rfl)) (pgs_cons (pg_name (i := 13) sc_law.nd rfl (Or.inl rfl)) pgs_nil))))
        (pss_cons (ps_if (pt_cmpR op_ne (pe_callB (call_show gd hr.units) (by rfl) n_repr (by decide +kernel) (pa_cons (pe_calK C_isGiven (hr.mono (by decide)) (by rfl) pass0 kw_isGiven_3201 (pk_cons (pv 12) (pk_cons (pv 13) (pk_cons (pv 8) (pk_cons (pv 4) pk_nil))))) pa_nil)) (pe_callB (call_show gd hr.units) (by rfl) n_repr (by decide +kernel) (pa_cons (pe_cmpR (op_inD hr.u65) (pe_ix ix_list (pv 5) (pv 11) (fun _ _ => rfl)) (pv 9) rfl) pa_nil)) (nomark _)) (pss_one (ps_ret pe_bl)) pss_nil)
        (pss_one (ps_if (pt_cmpR op_ne (pe_callB (call_show gd hr.units) (by rfl) n_repr (by decide +kernel) (pa_cons (pe_calK C_worthAt (hr.mono (by decide)) (by rfl) pass0 kw_worthAt_3201 (pk_cons (pv 12) (pk_cons (pv 13) (pk_cons (pv 8) (pk_cons (pv 4) pk_nil))))) pa_nil)) (pe_callB (call_show gd hr.units) (by rfl) n_repr (by decide +kernel) (pa_cons (pe_ix ix_list (pv 10) (pv 11) (fun _ _ => rfl)) pa_nil)) (nomark _)) (pss_one (ps_ret pe_bl)) pss_nil)))))
      (pss_one (ps_if (pt_cmpR op_ne (pe_callB (call_show gd hr.units) (by rfl) n_repr (by decide +kernel) (pa_cons (pe_tup (pa_cons (pe_fld (pv 8) rfl) (pa_cons (pe_fld (pv 8) rfl) pa_nil))) pa_nil)) (pe_callB (call_show gd hr.units) (by rfl) n_repr (by decide +kernel) (pa_cons (pe_tup (pa_cons (pv 6) (pa_cons (pv 7) pa_nil))) pa_nil)) (nomark _)) (pss_one (ps_ret pe_bl)) pss_nil)))))))))))
    (pss_one (ps_ret pe_bl)))), ?_⟩
  have line := sizeLine_eq
  refine ⟨_, rfl, a, ns, 69, rfl, hs, few, by decide, by decide, fun d c H1 _ _ D1 _ => ?_⟩
  clear hs few
  have L : Dl (off H1 d c) H1 d c := ⟨D1, Same.refl _⟩
  generalize off H1 d c = B1 at L
  refine s_forD L (.refl L) (Di.rng (K := K) (n := 3) .int (by decide)) (fun i σ B H => ∃ v2 v3 v4 v5 v6 v7 v8 v9 v10 v11 v12 v13, σ = [some (.ref a), some (.ref d), v2, v3, v4, v5, v6, v7, v8, v9, v10, v11, v12, v13]) (fun B H e => ⟨_, _, _, _, _, _, _, _, _, _, _, _, rfl⟩) ?_ ?_
  · rintro B2 i R x σ' Bc Hc Bn Hn s2 hR eB sB ⟨v2, v3, v4, v5, v6, v7, v8, v9, v10, v11, v12, v13, rfl⟩ eN hx
    have eD := eB.trans L eN
    clear hx
    refine s_w eD.dl (Dw.def1 () rfl (.one .int) trivial) fun u3 B3 H3 e3 h3 => ?_
    obtain ⟨_, ⟨qs, rfl, qk⟩, h3⟩ := h3
    have eD3 := eD.trans L e3
    have ok := qk.ok
    refine s_par (R := formR K C_Form qs) (S := datP K fun x => ∃ ks, x = .list (ks.map keyD) ∧ KsOk qs ks) (.cons (De.make (fs := ["questions"]) (Rs := [dat K (qsD qs)]) (.cons (.var h3 rfl) .nil) (by rfl)) (.cons (De.call qs (.one (.var h3 rfl)) qk) .nil)) e3.bh fun u4 u5 B4 H4 e4 h4 h5 => ?_
    obtain ⟨_, ⟨ks, rfl, kk⟩, h5⟩ := h5
    have eD4 := eD3.trans L (.of eD3.dl e4)
    have h3 := Mo.mo e4.bb h3
    refine s_parR ?_
    refine Dw_go (B := B4) (S := datP K (wthP (names qs) 2)) (Dw.def1 (qs, (2 : Int)) rfl (.cons (.var h3 rfl) (.one .int)) ⟨qk, (by show (0 : Int) ≤ 2; decide), (by show (2 : Int) < 4; decide), (by show (2 : Int) < 4; decide)⟩) eD4.dl fun u6 B5 H5 e5 h6 => ?_
    refine Dw_go (B := B5) (S := datP K (tstP (names qs) 2)) (Dw.def1 (qs, (2 : Int)) rfl (.cons (.var (Mo.mo e5.bb h3) rfl) (.one .int)) ⟨qk, (by show (0 : Int) ≤ 2; decide), (by show (2 : Int) < 4; decide)⟩) e5.dl fun u7 B6 H6 e6 h7 => ?_
    obtain ⟨_, ⟨w0, rfl, wk, wd⟩, h6⟩ := h6
    obtain ⟨_, ⟨t0, rfl, tk, td⟩, h7⟩ := h7
    have wk : w0.ok (names qs) := wk
    have tk : t0.ok (names qs) := tk
    have wd : (w0.dp : Int) ≤ 2 + 2 := wd
    have td : (t0.dp : Int) ≤ 2 + 1 := td
    have w4 : w0.dp ≤ 4 := by omega
    have t4 : t0.dp ≤ 4 := by omega
    have h6 := Mo.mo e6.bb h6
    have e56 := e5.trans eD4.dl e6
    have eD6 := eD4.trans L e56
    have h3 := Mo.mo e56.bb h3
    have h4 := Mo.mo e56.bb h4
    have h5 := Mo.mo e56.bb h5
    have sC : Same B2 B6 := ((((sB.trans eN.bb).trans e3.bb).trans e4.bb).trans e56.bb)
    change tSeq _ _ _ [some (.ref a), some (.ref d), some x, some u3, some u4, some u5, some u6, some u7, v8, v9, v10, v11, v12, v13] H6
    refine seqI (t1 := tIfS _ _ _) (fun σ' J => ∃ (B' : Hp) (w' : Wth) (t' : Tst) (x6 x7 : V), σ' = [some (.ref a), some (.ref d), some x, some u3, some u4, some u5, some x6, some x7, v8, v9, v10, v11, v12, v13] ∧ ExtD d c B6 H6 B' J ∧ AOk qs w' t' ∧ dat K w'.enc B' x6 ∧ dat K t'.enc B' x7) ?_ ?_
    · rintro σ' J ⟨B7, w', t', x6, x7, rfl, e7, ak, h6, h7⟩
      have eD7 := eD6.trans L e7
      have h3 := Mo.mo e7.bb h3
      have h4 := Mo.mo e7.bb h4
      have h5 := Mo.mo e7.bb h5
      have pw := phr_W w' 4 ak.w4
      have pt := phr_T t' 4 ak.t4
      refine s_set (De.make (fs := ["worth", "given"]) (Rs := [dat K w'.enc, dat K t'.enc]) (.cons (.var h6 rfl) (.cons (.var h7 rfl) .nil)) (by rfl)) e7.bh fun u8 B8 H8 e8 h8 => ?_
      have h8 : askR K C_Ask w' t' B8 u8 := h8
      have h3 := Mo.mo e8.bb h3
      have h4 := Mo.mo e8.bb h4
      have h5 := Mo.mo e8.bb h5
      have h6 := Mo.mo e8.bb h6
      have h7 := Mo.mo e8.bb h7
      have lw := heads_len 4 _ pw
      have lt := heads_len 4 _ pt
      have nmz : ∀ z ∈ headsD 4 w'.enc ++ headsD 4 t'.enc, Nm z := fun z hz => by
        rcases List.mem_append.mp hz with h | h
        · exact heads_nm 4 _ pw z h
        · exact heads_nm 4 _ pt z h
      refine s_skip (Dt.reprs (K := K) (d := .bool (!hasB 4 w'.enc && !hasB 4 t'.enc)) (De.callK (w', t') (.cons (.var h8 rfl) .nil) rfl (fun _ _ => kw1) ⟨ak.w4, ak.t4⟩) (De.eq (De.op (r := rNotInD K) .str (De.op (r := rCatS K) (De.call w'.enc (.one (.var h6 rfl)) ⟨pw, Nat.le_refl _⟩) (De.call t'.enc (.one (.var h7 rfl)) ⟨pt, Nat.le_refl _⟩) (Rv.catS (by rw [List.length_map, List.length_map]; omega))) (Rv.notInL (shaped_str ⟨by decide +kernel, by decide +kernel⟩) (by rw [← List.map_append]; exact shaped_strsL nmz))) ?_) (shw_bool _)) e8.bh fun B9 H9 e9 => ?_
      · rw [← List.map_append, any_strs, ← heads_has 4 _ pw, ← heads_has 4 _ pt]
        congr 1
        by_cases p : Str.ofString "blank" ∈ headsD 4 w'.enc <;> by_cases q : Str.ofString "blank" ∈ headsD 4 t'.enc <;> simp [p, q]
      have h3 := Mo.mo e9.bb h3
      have h4 := Mo.mo e9.bb h4
      have h5 := Mo.mo e9.bb h5
      have h6 := Mo.mo e9.bb h6
      have h7 := Mo.mo e9.bb h7
      have h8 := Mo.mo e9.bb h8
      refine s_par (R := dat K (.list ((ks.filter fun k => t'.holds (names qs) k.1 k.2).map keyD))) (S := dat K (.list (ks.map fun k => .int (w'.val (names qs) k.1 k.2)))) (.cons (De.call (qs, ks, t') (.cons (.var h3 rfl) (.cons (.var h5 rfl) (.one (.var h7 rfl)))) ⟨qk, kk, ak.t4, ak.tk⟩) (.one (De.call (qs, ks, w') (.cons (.var h3 rfl) (.cons (.var h5 rfl) (.one (.var h6 rfl)))) ⟨qk, kk, ak.w4, ak.w4, ak.wk⟩))) e9.bh fun u9 u10 Ba Ha ea h9 h10 => ?_
      have eDa := eD7.trans L (.of eD7.dl ((e8.trans e9).trans ea))
      have h3 := Mo.mo ea.bb h3
      have h4 := Mo.mo ea.bb h4
      have h5 := Mo.mo ea.bb h5
      have h6 := Mo.mo ea.bb h6
      have h7 := Mo.mo ea.bb h7
      have h8 := Mo.mo ea.bb h8
      have fewk := kk.few
      refine s_forS (Di.rng (K := K) (n := ks.length) (De.eq (De.lenL (.var h5 rfl)) (by rw [List.length_map])) (by omega)) ea.bh (fun i σ B => ∃ v11 v12 v13, σ = [some (.ref a), some (.ref d), some x, some u3, some u4, some u5, some x6, some x7, some u8, some u9, some u10, v11, v12, v13]) (fun B' s => ⟨_, _, _, rfl⟩) ?_ ?_
      · rintro Bb Hb eb i R y σ' Bp Bq Hq hR ⟨v11, v12, v13, rfl⟩ s e hy
        rw [List.getElem?_map] at hR
        obtain ⟨j, hj, rfl⟩ := Option.map_eq_some_iff.mp hR
        have il : j < ks.length := by
          obtain ⟨q1, q2⟩ := List.getElem?_eq_some_iff.mp hj
          rw [List.getElem_range] at q2
          rw [List.length_range] at q1
          omega
        have hi : ks[j]? = some ks[j] := List.getElem?_eq_getElem il
        have mi := List.getElem_mem il
        have kj := kk.each _ mi
        generalize ks[j] = ky at hi mi kj
        have sb := eb.bb.trans e.bb
        have h4 := Mo.mo sb h4
        have h5 := Mo.mo sb h5
        have h8 := Mo.mo sb h8
        have h9 := Mo.mo sb h9
        have h10 := Mo.mo sb h10
        have item : ∀ {B : Hp} {x12 x13 : Option V}, dat K (.list (ks.map keyD)) B u5 → dat K (.int (j : Int)) B y → De (tOp (rIxL K) (tVar 5) (tVar 11)) [some (.ref a), some (.ref d), some x, some u3, some u4, some u5, some x6, some x7, some u8, some u9, some u10, some y, x12, x13] B (dat K (keyD ky)) := fun h g => .op (.var h rfl) (.var g rfl) (Rv.ixLD (atI_map' hi))
        refine s_rawG (item h5 hy Bq Hq (Same.refl _) e.bh _ fun u Bd Hd ed hu => ?_)
        obtain ⟨y12, y13, h12, h13, go⟩ := gTup2 ed.bh (dat_pair hu)
        refine go _ ?_
        have h4 := Mo.mo ed.bb h4
        have h5 := Mo.mo ed.bb h5
        have h8 := Mo.mo ed.bb h8
        have h9 := Mo.mo ed.bb h9
        have h10 := Mo.mo ed.bb h10
        have hy := Mo.mo ed.bb hy
        refine s_skip (Dt.reprs (K := K) (d := .bool (t'.holds (names qs) ky.1 ky.2)) (De.callK (qs, (w', t'), ky) (.cons (.var h12 rfl) (.cons (.var h13 rfl) (.cons (.var h8 rfl) (.cons (.var h4 rfl) .nil)))) rfl (fun _ _ => kw4s) ⟨ok, ak, kj⟩) (De.eq (De.op (r := rInD K) (item h5 hy) (.var h9 rfl) (Rv.inL (shaped_key kj.lot) (shaped_keys fun x hx => ((kk.filter _).each x hx).lot))) (by rw [keys_any, filter_mem mi])) (shw_bool _)) ed.bh fun Be He ee => ?_
        have h4 := Mo.mo ee.bb h4
        have h8 := Mo.mo ee.bb h8
        have h10 := Mo.mo ee.bb h10
        have h12 := Mo.mo ee.bb h12
        have h13 := Mo.mo ee.bb h13
        have hy := Mo.mo ee.bb hy
        refine s_if (Dt.reprs (K := K) (d := .int (w'.val (names qs) ky.1 ky.2)) (De.callK (qs, (w', t'), ky) (.cons (.var h12 rfl) (.cons (.var h13 rfl) (.cons (.var h8 rfl) (.cons (.var h4 rfl) .nil)))) rfl (fun _ _ => kw4s) ⟨ok, ak, kj⟩) (De.op (r := rIxL K) (.var h10 rfl) (.var hy rfl) (Rv.ixLD (atI_map' hi))) (val_shw kj ak.wk ak.w4)) ee.bh (fun z => nomatch z) fun _ Bf Hf ef => ?_
        exact ⟨Bf, ((e.trans ed).trans ee).trans ef, _, _, _, rfl⟩
      · rintro σ' Bb Hb eb ⟨v11, v12, v13, rfl⟩
        have h6 := Mo.mo eb.bb h6
        have h7 := Mo.mo eb.bb h7
        have h8 := Mo.mo eb.bb h8
        have eDb := eDa.trans L (.of eDa.dl eb)
        refine s_if (Dt.reprs (K := K) (d := .tuple [w'.enc, t'.enc]) (De.tupD (.cons (fldW K_Ask (.var h8 rfl)) (.cons (fldT K_Ask (.var h8 rfl)) .nil)) (by rw [line]; show 2 ≤ _; decide)) (De.tupD (.cons (.var h6 rfl) (.cons (.var h7 rfl) .nil)) (by rw [line]; show 2 ≤ _; decide)) (ask_tb ok ak)) eb.bh (fun z => nomatch z) fun _ Bf Hf ef => ?_
        have eDf := eDb.trans L (.of eDb.dl ef)
        exact ⟨Bf, eDf, (((((((sC.trans e7.bb).trans e8.bb).trans e9.bb).trans ea.bb).trans eb.bb).trans ef.bb)), _, _, _, _, _, _, _, _, _, _, _, _, rfl⟩
    · intro Z hZ
      refine s_ifWE eD6.dl (Dtw.eq (K := K) (Dw.any (K := K) rfl .int (by decide) (by decide)) Dw.int) (fun B7 H7 e7 => ?_) fun B7 H7 e7 => ?_
      · have h6 := Mo.mo e7.bb h6
        have h7 := Mo.mo e7.bb h7
        refine s_parE (R := dat K w0.plain.enc) (S := dat K t0.plain.enc) (.cons (De.eq (De.call (args := fun d => [dat K d]) (res := fun d => dat K (plainD 4 d)) w0.enc (.one (.var h6 rfl)) (phr_W w0 4 w4)) (plain_W w0 4 w4)) (.cons (De.eq (De.call (args := fun d => [dat K d]) (res := fun d => dat K (plainD 4 d)) t0.enc (.one (.var h7 rfl)) (phr_T t0 4 t4)) (plain_T t0 4 t4)) .nil)) e7.bh fun x6 x7 B8 H8 e8 g6 g7 => ?_
        obtain ⟨a1, a2⟩ := plain_okW w0 wk
        obtain ⟨b1, b2⟩ := plain_ok t0 tk
        exact hZ _ _ ⟨B8, w0.plain, t0.plain, x6, x7, rfl, e7.trans eD6.dl (.of e7.dl e8), ⟨by omega, by omega, a1, b1⟩, g6, g7⟩
      · exact hZ _ _ ⟨B7, w0, t0, u6, u7, rfl, e7, ⟨w4, t4, wk, tk⟩, Mo.mo e7.bb h6, Mo.mo e7.bb h7⟩
  · rintro σ' B' H' e' _ ⟨v2, v3, v4, v5, v6, v7, v8, v9, v10, v11, v12, v13, rfl⟩
    exact k H'
end
end K69

set_option Elab.async false
set_option linter.all false
set_option maxRecDepth 100000
set_option maxHeartbeats 4000000
namespace K69
open PySem PySem.Spec PyProof.Rows L2 Wb Wv Fm As
theorem ini_NoName {P : Program} {w : World} {K : PySem.W.Frag} {mg : Str → Option Value} {base : Heap} {C fI : Addr} {fd : FuncData} (F : Fun K "__init__" "NoName.__init__" (inClass (topS 1) 0) fI fd) (T : ErrC K C) (no : PySem.W.findIn K (.ref C) "name" = some none) : FnOk P w K mg base CX0 1 fI fd ["self", "name"] (spIni C "name") := by
  refine F.ok (N := ["self", "name"]) ⟨rfl, rfl, rfl, by decide +kernel, rfl, by decide +kernel, by decide +kernel⟩ (fun vs H Q E h => ?_) (fun cdv A outer s H vs Q E hr h => ?_)
  · obtain ⟨a, v, rfl, _⟩ := h
    rfl
  · obtain ⟨a, v, rfl, ha, q⟩ := h
    refine ⟨_, pss_one (ps_ini (pv 0) (pv 1)), ?_⟩
    exact ⟨_, rfl, _, rfl, a, C, rfl, T, no, ha, q⟩
theorem inic_Form {P : Program} {w : World} {K : PySem.W.Frag} {mg : Str → Option Value} {base : Heap} {C fI : Addr} {fd : FuncData} (F : Fun K "__init__" "Form.__init__" (inClass (topS 3) 0) fI fd) (c : Cls K C) (na0 : NoAttr K C "questions") : FnOk P w K mg base CX0 1 fI fd ["self", "questions"] (spIns C ["questions"]) := by
  refine F.ok (N := ["self", "questions"]) ⟨rfl, rfl, rfl, by decide +kernel, rfl, by decide +kernel, by decide +kernel⟩ (fun vs H Q E h => ?_) (fun cdv A outer s H vs Q E hr h => ?_)
  · obtain ⟨x, dx, us, rfl, hl, _⟩ := h
    rw [List.length_cons, hl]
    rfl
  · obtain ⟨x, dx, us, rfl, hl, ha, q⟩ := h
    match us, hl with
    | [u0], _ =>
      refine ⟨_, (pss_one (ps_fld (pv 0) (pv 1) (by rfl))), ?_⟩
      refine ⟨_, rfl, _, rfl, x, C, dx, _, rfl, ha, c, na0, by simp [putF], q⟩
theorem inic_Ask {P : Program} {w : World} {K : PySem.W.Frag} {mg : Str → Option Value} {base : Heap} {C fI : Addr} {fd : FuncData} (F : Fun K "__init__" "Ask.__init__" (inClass (topS 6) 0) fI fd) (c : Cls K C) (na0 : NoAttr K C "worth") (na1 : NoAttr K C "given") : FnOk P w K mg base CX0 1 fI fd ["self", "worth", "given"] (spIns C ["worth", "given"]) := by
  refine F.ok (N := ["self", "worth", "given"]) ⟨rfl, rfl, rfl, by decide +kernel, rfl, by decide +kernel, by decide +kernel⟩ (fun vs H Q E h => ?_) (fun cdv A outer s H vs Q E hr h => ?_)
  · obtain ⟨x, dx, us, rfl, hl, _⟩ := h
    rw [List.length_cons, hl]
    rfl
  · obtain ⟨x, dx, us, rfl, hl, ha, q⟩ := h
    match us, hl with
    | [u0, u1], _ =>
      refine ⟨_, (pss_cons (ps_fld (pv 0) (pv 1) (by rfl)) (pss_one (ps_fld (pv 0) (pv 2) (by rfl)))), ?_⟩
      refine ⟨_, rfl, _, rfl, x, C, dx, _, rfl, ha, c, na0, by simp [putF], ⟨_, rfl, _, rfl, x, C, dx, _, rfl, upd_same, c, na1, by simp [putF], (by show Q V.non (upd (upd H x _) x _); rw [upd_upd]; exact q)⟩⟩
end K69
namespace K69
open PySem PySem.Spec PyProof.Rows L2 Wb Wv Fm As
set_option maxHeartbeats 4000000 in
theorem all_mk {l : PySem.W.OpenLaw} {w : World} {K : PySem.W.Frag} {h : Heap} {mg : Str → Option Value} {fa C_NoName f_NoName C_Form f_Form C_Ask f_Ask g_placeOf g_holds g_worthOf g_isGiven g_worthAt g_asksBlanks g_isPlain g_deal g_any g_of g_lnames g_lquestions g_lrows g_ltruths g_lwithin g_llots g_ltest g_lworth g_plainer g_lkeys g_lwhere g_lworths g_heads g_law : Addr} 
    (X : K.In h) (G : h.Ns mainGlobals mg) (hfa : mg "law" = some (.ref fa))
    (aC_NoName : PySem.W.nsIn K mainGlobals "NoName" = some (some (.ref C_NoName)))
    (hn : PySem.W.specialIn K (.builtin "object.__class__") "__get__" = some (some (.builtin "getset_descriptor.__get__")))
    (ht : PySem.W.takesIn K (.builtin "object.__class__") = some true)
    (e_NoName : EF K C_NoName topK "LookupError.__new__")
    (a_NoName : PySem.W.findIn K (.ref C_NoName) "__init__" = some (some (.ref f_NoName)))
    (t_NoName : PySem.W.typeIn K (.ref f_NoName) = some (.type "function"))
    (no_NoName : PySem.W.findIn K (.ref C_NoName) "name" = some none)
    (l_NoName : FnF K "__init__" "NoName.__init__" (inClass (topS 1) 0) f_NoName)
    (aC_Form : PySem.W.nsIn K mainGlobals "Form" = some (some (.ref C_Form)))
    (pg_Form : PySem.W.plainGet K C_Form Str.empty = true)
    (hd_Form : PySem.W.hasDictIn K C_Form = true)
    (po_Form : PySem.W.plainOver K C_Form = true)
    (sa_Form : PySem.W.findIn K (.ref C_Form) "__setattr__" = some (some (.builtin "object.__setattr__")))
    (mk_Form : PySem.W.makesIn K C_Form = true)
    (kc_Form : PySem.W.keepIn K (.ref C_Form) = true)
    (a_Form : PySem.W.findIn K (.ref C_Form) "__init__" = some (some (.ref f_Form)))
    (fn_Form : PySem.W.isFn K (.ref f_Form) = true)
    (na0_Form : PySem.W.findIn K (.ref C_Form) "questions" = some none)
    (l_Form : FnF K "__init__" "Form.__init__" (inClass (topS 3) 0) f_Form)
    (aC_Ask : PySem.W.nsIn K mainGlobals "Ask" = some (some (.ref C_Ask)))
    (pg_Ask : PySem.W.plainGet K C_Ask Str.empty = true)
    (hd_Ask : PySem.W.hasDictIn K C_Ask = true)
    (po_Ask : PySem.W.plainOver K C_Ask = true)
    (sa_Ask : PySem.W.findIn K (.ref C_Ask) "__setattr__" = some (some (.builtin "object.__setattr__")))
    (mk_Ask : PySem.W.makesIn K C_Ask = true)
    (kc_Ask : PySem.W.keepIn K (.ref C_Ask) = true)
    (a_Ask : PySem.W.findIn K (.ref C_Ask) "__init__" = some (some (.ref f_Ask)))
    (fn_Ask : PySem.W.isFn K (.ref f_Ask) = true)
    (na0_Ask : PySem.W.findIn K (.ref C_Ask) "worth" = some none)
    (na1_Ask : PySem.W.findIn K (.ref C_Ask) "given" = some none)
    (l_Ask : FnF K "__init__" "Ask.__init__" (inClass (topS 6) 0) f_Ask)
    (z_placeOf : PySem.W.nsIn K mainGlobals "place_of" = some (some (.ref g_placeOf)))
    (y_placeOf : FnF K "place_of" "place_of" s_placeOf g_placeOf)
    (z_holds : PySem.W.nsIn K mainGlobals "holds" = some (some (.ref g_holds)))
    (y_holds : FnF K "holds" "holds" s_holds g_holds)
    (z_worthOf : PySem.W.nsIn K mainGlobals "worth_of" = some (some (.ref g_worthOf)))
    (y_worthOf : FnF K "worth_of" "worth_of" s_worthOf g_worthOf)
    (z_isGiven : PySem.W.nsIn K mainGlobals "is_given" = some (some (.ref g_isGiven)))
    (y_isGiven : FnF K "is_given" "is_given" s_isGiven g_isGiven)
    (z_worthAt : PySem.W.nsIn K mainGlobals "worth_at" = some (some (.ref g_worthAt)))
    (y_worthAt : FnF K "worth_at" "worth_at" s_worthAt g_worthAt)
    (z_asksBlanks : PySem.W.nsIn K mainGlobals "asks_blanks" = some (some (.ref g_asksBlanks)))
    (y_asksBlanks : FnF K "asks_blanks" "asks_blanks" s_asksBlanks g_asksBlanks)
    (z_isPlain : PySem.W.nsIn K mainGlobals "is_plain" = some (some (.ref g_isPlain)))
    (y_isPlain : FnF K "is_plain" "is_plain" s_isPlain g_isPlain)
    (z_deal : PySem.W.nsIn K mainGlobals "_law_deal" = some (some (.ref g_deal)))
    (y_deal : FnF K "_law_deal" "_law_deal" s_deal g_deal)
    (z_any : PySem.W.nsIn K mainGlobals "_law_any" = some (some (.ref g_any)))
    (y_any : FnF K "_law_any" "_law_any" s_any g_any)
    (z_of : PySem.W.nsIn K mainGlobals "_law_of" = some (some (.ref g_of)))
    (y_of : FnF K "_law_of" "_law_of" s_of g_of)
    (z_lnames : PySem.W.nsIn K mainGlobals "_law_names" = some (some (.ref g_lnames)))
    (y_lnames : FnF K "_law_names" "_law_names" s_lnames g_lnames)
    (z_lquestions : PySem.W.nsIn K mainGlobals "_law_questions" = some (some (.ref g_lquestions)))
    (y_lquestions : FnF K "_law_questions" "_law_questions" s_lquestions g_lquestions)
    (z_lrows : PySem.W.nsIn K mainGlobals "_law_rows" = some (some (.ref g_lrows)))
    (y_lrows : FnF K "_law_rows" "_law_rows" s_lrows g_lrows)
    (z_ltruths : PySem.W.nsIn K mainGlobals "_law_truths" = some (some (.ref g_ltruths)))
    (y_ltruths : FnF K "_law_truths" "_law_truths" s_ltruths g_ltruths)
    (z_lwithin : PySem.W.nsIn K mainGlobals "_law_within" = some (some (.ref g_lwithin)))
    (y_lwithin : FnF K "_law_within" "_law_within" s_lwithin g_lwithin)
    (z_llots : PySem.W.nsIn K mainGlobals "_law_lots" = some (some (.ref g_llots)))
    (y_llots : FnF K "_law_lots" "_law_lots" s_llots g_llots)
    (z_ltest : PySem.W.nsIn K mainGlobals "_law_test" = some (some (.ref g_ltest)))
    (y_ltest : FnF K "_law_test" "_law_test" s_ltest g_ltest)
    (z_lworth : PySem.W.nsIn K mainGlobals "_law_worth" = some (some (.ref g_lworth)))
    (y_lworth : FnF K "_law_worth" "_law_worth" s_lworth g_lworth)
    (z_plainer : PySem.W.nsIn K mainGlobals "_law_plainer" = some (some (.ref g_plainer)))
    (y_plainer : FnF K "_law_plainer" "_law_plainer" s_plainer g_plainer)
    (z_lkeys : PySem.W.nsIn K mainGlobals "_law_keys" = some (some (.ref g_lkeys)))
    (y_lkeys : FnF K "_law_keys" "_law_keys" s_lkeys g_lkeys)
    (z_lwhere : PySem.W.nsIn K mainGlobals "_law_where" = some (some (.ref g_lwhere)))
    (y_lwhere : FnF K "_law_where" "_law_where" s_lwhere g_lwhere)
    (z_lworths : PySem.W.nsIn K mainGlobals "_law_worths" = some (some (.ref g_lworths)))
    (y_lworths : FnF K "_law_worths" "_law_worths" s_lworths g_lworths)
    (z_heads : PySem.W.nsIn K mainGlobals "_law_heads" = some (some (.ref g_heads)))
    (y_heads : FnF K "_law_heads" "_law_heads" s_heads g_heads)
    (z_law : PySem.W.nsIn K mainGlobals "law" = some (some (.ref g_law)))
    (y_law : FnF K "law" "law" s_law g_law)
    (o_enumerate : PySem.W.nsIn K mainGlobals "enumerate" = some none)
    (o_int : PySem.W.nsIn K mainGlobals "int" = some none)
    (o_tuple : PySem.W.nsIn K mainGlobals "tuple" = some none)
    (o_isinstance : PySem.W.nsIn K mainGlobals "isinstance" = some none)
    (o_any : PySem.W.nsIn K mainGlobals "any" = some none)
    (o_list : PySem.W.nsIn K mainGlobals "list" = some none)
    (o_len : PySem.W.nsIn K mainGlobals "len" = some none)
    (o_sorted : PySem.W.nsIn K mainGlobals "sorted" = some none)
    (o_range : PySem.W.nsIn K mainGlobals "range" = some none)
    (o_repr : PySem.W.nsIn K mainGlobals "repr" = some none)
    (o_abs : PySem.W.nsIn K mainGlobals "abs" = some none)
    : ∀ base : Heap, K.In base → base.Ns mainGlobals mg → ∃ fd : FuncData, (∀ (s : Shared) (v : Value), BindsTo s fd ⟨[v], []⟩ [("script", v)]) ∧ FnG l.prog w K mg base CX0 14 fa fd ["script"] (Wb.spLaw K) := by
  have T_NoName : ErrC K C_NoName := e_NoName.err PySem.F.excBase_LookupError PySem.F.storeKeyError ⟨by decide, by decide, by decide⟩ rfl hn ht
  obtain ⟨_, _, _, _, _, _, F_NoName⟩ := l_NoName.fn
  have b_NoName := F_NoName.binds (ps := ["self", "name"]) fun _ _ _ _ _ _ us hl => match us, hl with | [_, _], _ => rfl
  obtain ⟨_, _, _, _, _, _, F_Form⟩ := l_Form.fn
  have b_Form := F_Form.binds (ps := ["self", "questions"]) fun _ _ _ _ _ _ us hl => match us, hl with | [_, _], _ => rfl
  have cls_Form : Cls K C_Form := ⟨pg_Form, hd_Form, po_Form, sa_Form⟩
  obtain ⟨_, _, _, _, _, _, F_Ask⟩ := l_Ask.fn
  have b_Ask := F_Ask.binds (ps := ["self", "worth", "given"]) fun _ _ _ _ _ _ us hl => match us, hl with | [_, _, _], _ => rfl
  have cls_Ask : Cls K C_Ask := ⟨pg_Ask, hd_Ask, po_Ask, sa_Ask⟩
  have D_placeOf : Def K mg "place_of" s_placeOf ["form", "name"] := FnF.def_ X G z_placeOf y_placeOf (fun _ _ _ _ _ _ us hl => match us, hl with | [_, _], _ => rfl)
  have D_holds : Def K mg "holds" s_holds ["form", "test", "lot", "truth"] := FnF.def_ X G z_holds y_holds (fun _ _ _ _ _ _ us hl => match us, hl with | [_, _, _, _], _ => rfl)
  have D_worthOf : Def K mg "worth_of" s_worthOf ["form", "worth", "lot", "truth"] := FnF.def_ X G z_worthOf y_worthOf (fun _ _ _ _ _ _ us hl => match us, hl with | [_, _, _, _], _ => rfl)
  have D_isGiven : Def K mg "is_given" s_isGiven ["form", "ask", "lot", "truth"] := FnF.def_ X G z_isGiven y_isGiven (fun _ _ _ _ _ _ us hl => match us, hl with | [_, _, _, _], _ => rfl)
  have D_worthAt : Def K mg "worth_at" s_worthAt ["form", "ask", "lot", "truth"] := FnF.def_ X G z_worthAt y_worthAt (fun _ _ _ _ _ _ us hl => match us, hl with | [_, _, _, _], _ => rfl)
  have D_asksBlanks : Def K mg "asks_blanks" s_asksBlanks ["phrase"] := FnF.def_ X G z_asksBlanks y_asksBlanks (fun _ _ _ _ _ _ us hl => match us, hl with | [_], _ => rfl)
  have D_isPlain : Def K mg "is_plain" s_isPlain ["ask"] := FnF.def_ X G z_isPlain y_isPlain (fun _ _ _ _ _ _ us hl => match us, hl with | [_], _ => rfl)
  have D_deal : Def K mg "_law_deal" s_deal ["script", "base"] := FnF.def_ X G z_deal y_deal (fun _ _ _ _ _ _ us hl => match us, hl with | [_, _], _ => rfl)
  have D_any : Def K mg "_law_any" s_any ["deal", "bound"] := FnF.def_ X G z_any y_any (fun _ _ _ _ _ _ us hl => match us, hl with | [_, _], _ => rfl)
  have D_of : Def K mg "_law_of" s_of ["deal", "some"] := FnF.def_ X G z_of y_of (fun _ _ _ _ _ _ us hl => match us, hl with | [_, _], _ => rfl)
  have D_lnames : Def K mg "_law_names" s_lnames ["deal", "many"] := FnF.def_ X G z_lnames y_lnames (fun _ _ _ _ _ _ us hl => match us, hl with | [_, _], _ => rfl)
  have D_lquestions : Def K mg "_law_questions" s_lquestions ["deal", "most"] := FnF.def_ X G z_lquestions y_lquestions (fun _ _ _ _ _ _ us hl => match us, hl with | [_, _], _ => rfl)
  have D_lrows : Def K mg "_law_rows" s_lrows ["sizes"] := FnF.def_ X G z_lrows y_lrows (fun _ _ _ _ _ _ us hl => match us, hl with | [_], _ => rfl)
  have D_ltruths : Def K mg "_law_truths" s_ltruths ["questions"] := FnF.def_ X G z_ltruths y_ltruths (fun _ _ _ _ _ _ us hl => match us, hl with | [_], _ => rfl)
  have D_lwithin : Def K mg "_law_within" s_lwithin ["lot"] := FnF.def_ X G z_lwithin y_lwithin (fun _ _ _ _ _ _ us hl => match us, hl with | [_], _ => rfl)
  have D_llots : Def K mg "_law_lots" s_llots ["questions"] := FnF.def_ X G z_llots y_llots (fun _ _ _ _ _ _ us hl => match us, hl with | [_], _ => rfl)
  have D_ltest : Def K mg "_law_test" s_ltest ["deal", "questions", "depth"] := FnF.def_ X G z_ltest y_ltest (fun _ _ _ _ _ _ us hl => match us, hl with | [_, _, _], _ => rfl)
  have D_lworth : Def K mg "_law_worth" s_lworth ["deal", "questions", "depth"] := FnF.def_ X G z_lworth y_lworth (fun _ _ _ _ _ _ us hl => match us, hl with | [_, _, _], _ => rfl)
  have D_plainer : Def K mg "_law_plainer" s_plainer ["thing"] := FnF.def_ X G z_plainer y_plainer (fun _ _ _ _ _ _ us hl => match us, hl with | [_], _ => rfl)
  have D_lkeys : Def K mg "_law_keys" s_lkeys ["questions"] := FnF.def_ X G z_lkeys y_lkeys (fun _ _ _ _ _ _ us hl => match us, hl with | [_], _ => rfl)
  have D_lwhere : Def K mg "_law_where" s_lwhere ["questions", "keys", "test"] := FnF.def_ X G z_lwhere y_lwhere (fun _ _ _ _ _ _ us hl => match us, hl with | [_, _, _], _ => rfl)
  have D_lworths : Def K mg "_law_worths" s_lworths ["questions", "keys", "worth"] := FnF.def_ X G z_lworths y_lworths (fun _ _ _ _ _ _ us hl => match us, hl with | [_, _, _], _ => rfl)
  have D_heads : Def K mg "_law_heads" s_heads ["thing"] := FnF.def_ X G z_heads y_heads (fun _ _ _ _ _ _ us hl => match us, hl with | [_], _ => rfl)
  have D_law : Def K mg "law" s_law ["script"] := FnF.def_ X G z_law y_law (fun _ _ _ _ _ _ us hl => match us, hl with | [_], _ => rfl)
  have n_enumerate := PySem.W.mg_none_of X G o_enumerate
  have n_int := PySem.W.mg_none_of X G o_int
  have n_tuple := PySem.W.mg_none_of X G o_tuple
  have n_isinstance := PySem.W.mg_none_of X G o_isinstance
  have n_any := PySem.W.mg_none_of X G o_any
  have n_list := PySem.W.mg_none_of X G o_list
  have n_len := PySem.W.mg_none_of X G o_len
  have n_sorted := PySem.W.mg_none_of X G o_sorted
  have n_range := PySem.W.mg_none_of X G o_range
  have n_repr := PySem.W.mg_none_of X G o_repr
  have n_abs := PySem.W.mg_none_of X G o_abs
  intro base _ _
  have Z_NoName : Err l.prog w K mg base "NoName" "name" C_NoName topK := ⟨T_NoName, PySem.W.mg_of X G aC_NoName, e_NoName.chain, no_NoName, f_NoName, _, a_NoName, t_NoName, ini_NoName F_NoName T_NoName no_NoName, b_NoName⟩
  have nas_Form : ∀ f ∈ [("questions" : Str)], NoAttr K C_Form f := fun f hf => by
    simp only [List.mem_cons, List.not_mem_nil, or_false] at hf
    rcases hf with rfl
    · exact na0_Form
  have K_Form : CalC l.prog w K mg base "Form" C_Form ["questions"] := ⟨cls_Form, PySem.W.mg_of X G aC_Form, nas_Form, f_Form, _, ⟨mk_Form, a_Form, fn_Form, kc_Form⟩, inic_Form F_Form cls_Form na0_Form, b_Form⟩
  have nas_Ask : ∀ f ∈ [("worth" : Str), "given"], NoAttr K C_Ask f := fun f hf => by
    simp only [List.mem_cons, List.not_mem_nil, or_false] at hf
    rcases hf with rfl | rfl
    · exact na0_Ask
    · exact na1_Ask
  have K_Ask : CalC l.prog w K mg base "Ask" C_Ask ["worth", "given"] := ⟨cls_Ask, PySem.W.mg_of X G aC_Ask, nas_Ask, f_Ask, _, ⟨mk_Ask, a_Ask, fn_Ask, kc_Ask⟩, inic_Ask F_Ask cls_Ask na0_Ask na1_Ask, b_Ask⟩
  have C_placeOf := ok_placeOf (P := l.prog) (w := w) (base := base) D_placeOf n_enumerate Z_NoName K_Form
  have C_holds := ok_holds (P := l.prog) (w := w) (base := base) D_holds C_placeOf 4
  have C_worthOf := ok_worthOf (P := l.prog) (w := w) (base := base) D_worthOf C_placeOf C_holds n_int 4
  have C_isGiven := ok_isGiven (P := l.prog) (w := w) (base := base) D_isGiven C_holds K_Ask
  have C_worthAt := ok_worthAt (P := l.prog) (w := w) (base := base) D_worthAt C_worthOf K_Ask
  have C_asksBlanks := ok_asksBlanks (P := l.prog) (w := w) (base := base) D_asksBlanks n_tuple n_isinstance n_any 4
  have C_isPlain := ok_isPlain (P := l.prog) (w := w) (base := base) D_isPlain C_asksBlanks K_Ask
  have C_deal := ok_deal (P := l.prog) (w := w) (base := base) D_deal n_int n_abs
  have C_any := ok_any (P := l.prog) (w := w) (base := base) D_any n_int
  have C_of := ok_of (P := l.prog) (w := w) (base := base) D_of C_any n_len
  have C_lnames := ok_lnames (P := l.prog) (w := w) (base := base) D_lnames n_list n_len C_any n_sorted n_range C_of
  have C_lquestions := ok_lquestions (P := l.prog) (w := w) (base := base) D_lquestions C_lnames C_any n_len n_tuple
  have C_lrows := ok_lrows (P := l.prog) (w := w) (base := base) D_lrows n_range
  have C_ltruths := ok_ltruths (P := l.prog) (w := w) (base := base) D_ltruths C_lrows
  have C_lwithin := ok_lwithin (P := l.prog) (w := w) (base := base) D_lwithin n_sorted
  have C_llots := ok_llots (P := l.prog) (w := w) (base := base) D_llots C_lwithin n_tuple
  have C_ltest := ok_ltest (P := l.prog) (w := w) (base := base) D_ltest C_of C_any 4
  have C_lworth := ok_lworth (P := l.prog) (w := w) (base := base) D_lworth C_of C_any C_ltest 4
  have C_plainer := ok_plainer (P := l.prog) (w := w) (base := base) D_plainer n_tuple n_isinstance 4
  have C_lkeys := ok_lkeys (P := l.prog) (w := w) (base := base) D_lkeys C_llots C_ltruths
  have C_lwhere := ok_lwhere (P := l.prog) (w := w) (base := base) D_lwhere 4
  have C_lworths := ok_lworths (P := l.prog) (w := w) (base := base) D_lworths C_lwhere n_range n_len 4
  have C_heads := ok_heads (P := l.prog) (w := w) (base := base) D_heads n_tuple n_isinstance 4
  have C_law := ok_law (P := l.prog) (w := w) (base := base) D_law C_deal n_range C_lquestions K_Form C_lkeys C_lworth C_ltest C_any C_plainer K_Ask C_isPlain n_repr C_heads C_lwhere C_lworths n_len C_isGiven C_worthAt
  exact C_law.law hfa (fun _ _ _ _ _ _ s u => .of_eq rfl)
end K69
open PySem PySem.W PyProof.Rows in
set_option maxRecDepth 100000 in
set_option maxHeartbeats 0 in
theorem PySem.Challenge.cw_whyblank_k69_whole_tests_and_worths_holds : PySem.Challenge.rw_whyblank_k69_whole_tests_and_worths.Holds := by
  w_on; o_law; k_head; (case hw => w_witness2)
  k_fill
  refine Wb.walk2 (l := PySem.Challenge.rw_whyblank_k69_whole_tests_and_worths) (k := 14) ⟨rfl, by decide, by decide⟩ rfl rfl (fun w h Y => PySem.W.kIn_of Y) ?F
  case F =>
    intro w mg fa h KX G hmg
    refine' K69.all_mk KX G hmg ?aC_NoName ?hn ?ht (Wb.EF.mk (Wb.ClsRow.mk2 ?r_NoName) ?sa_NoName ?ga_NoName ?gg_NoName ?ex_NoName ?ty_NoName ?hd_NoName ?kp_NoName ?hc_NoName ?hm_NoName) ?a_NoName ?t_NoName ?no_NoName (Wb.FnF.mk2 ?li_NoName ?ui_NoName ?vi_NoName) ?aC_Form ?pg_Form ?hd_Form ?po_Form ?sa_Form ?mk_Form ?kc_Form ?a_Form ?fn_Form ?na0_Form (Wb.FnF.mk2 ?li_Form ?ui_Form ?vi_Form) ?aC_Ask ?pg_Ask ?hd_Ask ?po_Ask ?sa_Ask ?mk_Ask ?kc_Ask ?a_Ask ?fn_Ask ?na0_Ask ?na1_Ask (Wb.FnF.mk2 ?li_Ask ?ui_Ask ?vi_Ask) ?z_placeOf (Wb.FnF.mk2 ?l_placeOf ?u_placeOf ?v_placeOf) ?z_holds (Wb.FnF.mk2 ?l_holds ?u_holds ?v_holds) ?z_worthOf (Wb.FnF.mk2 ?l_worthOf ?u_worthOf ?v_worthOf) ?z_isGiven (Wb.FnF.mk2 ?l_isGiven ?u_isGiven ?v_isGiven) ?z_worthAt (Wb.FnF.mk2 ?l_worthAt ?u_worthAt ?v_worthAt) ?z_asksBlanks (Wb.FnF.mk2 ?l_asksBlanks ?u_asksBlanks ?v_asksBlanks) ?z_isPlain (Wb.FnF.mk2 ?l_isPlain ?u_isPlain ?v_isPlain) ?z_deal (Wb.FnF.mk2 ?l_deal ?u_deal ?v_deal) ?z_any (Wb.FnF.mk2 ?l_any ?u_any ?v_any) ?z_of (Wb.FnF.mk2 ?l_of ?u_of ?v_of) ?z_lnames (Wb.FnF.mk2 ?l_lnames ?u_lnames ?v_lnames) ?z_lquestions (Wb.FnF.mk2 ?l_lquestions ?u_lquestions ?v_lquestions) ?z_lrows (Wb.FnF.mk2 ?l_lrows ?u_lrows ?v_lrows) ?z_ltruths (Wb.FnF.mk2 ?l_ltruths ?u_ltruths ?v_ltruths) ?z_lwithin (Wb.FnF.mk2 ?l_lwithin ?u_lwithin ?v_lwithin) ?z_llots (Wb.FnF.mk2 ?l_llots ?u_llots ?v_llots) ?z_ltest (Wb.FnF.mk2 ?l_ltest ?u_ltest ?v_ltest) ?z_lworth (Wb.FnF.mk2 ?l_lworth ?u_lworth ?v_lworth) ?z_plainer (Wb.FnF.mk2 ?l_plainer ?u_plainer ?v_plainer) ?z_lkeys (Wb.FnF.mk2 ?l_lkeys ?u_lkeys ?v_lkeys) ?z_lwhere (Wb.FnF.mk2 ?l_lwhere ?u_lwhere ?v_lwhere) ?z_lworths (Wb.FnF.mk2 ?l_lworths ?u_lworths ?v_lworths) ?z_heads (Wb.FnF.mk2 ?l_heads ?u_heads ?v_heads) ?z_law (Wb.FnF.mk2 ?l_law ?u_law ?v_law) ?o_enumerate ?o_int ?o_tuple ?o_isinstance ?o_any ?o_list ?o_len ?o_sorted ?o_range ?o_repr ?o_abs
    (case aC_NoName => k_is)
    (case hn => k_is)
    (case ht => k_is)
    (case r_NoName => k_is)
    (case sa_NoName => k_is)
    (case ga_NoName => k_is)
    (case gg_NoName => k_is)
    (case ex_NoName => k_is)
    (case ty_NoName => k_is)
    (case hd_NoName => k_is)
    (case kp_NoName => k_is)
    (case hc_NoName => k_is)
    (case hm_NoName => k_is)
    (case a_NoName => k_is)
    (case t_NoName => k_is)
    (case no_NoName => k_is)
    (case li_NoName => k_is)
    (case ui_NoName => k_is)
    (case vi_NoName => k_is)
    (case aC_Form => k_is)
    (case pg_Form => k_is)
    (case hd_Form => k_is)
    (case po_Form => k_is)
    (case sa_Form => k_is)
    (case mk_Form => k_is)
    (case kc_Form => k_is)
    (case a_Form => k_is)
    (case fn_Form => k_is)
    (case na0_Form => k_is)
    (case li_Form => k_is)
    (case ui_Form => k_is)
    (case vi_Form => k_is)
    (case aC_Ask => k_is)
    (case pg_Ask => k_is)
    (case hd_Ask => k_is)
    (case po_Ask => k_is)
    (case sa_Ask => k_is)
    (case mk_Ask => k_is)
    (case kc_Ask => k_is)
    (case a_Ask => k_is)
    (case fn_Ask => k_is)
    (case na0_Ask => k_is)
    (case na1_Ask => k_is)
    (case li_Ask => k_is)
    (case ui_Ask => k_is)
    (case vi_Ask => k_is)
    (case z_placeOf => k_is)
    (case l_placeOf => k_is)
    (case u_placeOf => k_is)
    (case v_placeOf => k_is)
    (case z_holds => k_is)
    (case l_holds => k_is)
    (case u_holds => k_is)
    (case v_holds => k_is)
    (case z_worthOf => k_is)
    (case l_worthOf => k_is)
    (case u_worthOf => k_is)
    (case v_worthOf => k_is)
    (case z_isGiven => k_is)
    (case l_isGiven => k_is)
    (case u_isGiven => k_is)
    (case v_isGiven => k_is)
    (case z_worthAt => k_is)
    (case l_worthAt => k_is)
    (case u_worthAt => k_is)
    (case v_worthAt => k_is)
    (case z_asksBlanks => k_is)
    (case l_asksBlanks => k_is)
    (case u_asksBlanks => k_is)
    (case v_asksBlanks => k_is)
    (case z_isPlain => k_is)
    (case l_isPlain => k_is)
    (case u_isPlain => k_is)
    (case v_isPlain => k_is)
    (case z_deal => k_is)
    (case l_deal => k_is)
    (case u_deal => k_is)
    (case v_deal => k_is)
    (case z_any => k_is)
    (case l_any => k_is)
    (case u_any => k_is)
    (case v_any => k_is)
    (case z_of => k_is)
    (case l_of => k_is)
    (case u_of => k_is)
    (case v_of => k_is)
    (case z_lnames => k_is)
    (case l_lnames => k_is)
    (case u_lnames => k_is)
    (case v_lnames => k_is)
    (case z_lquestions => k_is)
    (case l_lquestions => k_is)
    (case u_lquestions => k_is)
    (case v_lquestions => k_is)
    (case z_lrows => k_is)
    (case l_lrows => k_is)
    (case u_lrows => k_is)
    (case v_lrows => k_is)
    (case z_ltruths => k_is)
    (case l_ltruths => k_is)
    (case u_ltruths => k_is)
    (case v_ltruths => k_is)
    (case z_lwithin => k_is)
    (case l_lwithin => k_is)
    (case u_lwithin => k_is)
    (case v_lwithin => k_is)
    (case z_llots => k_is)
    (case l_llots => k_is)
    (case u_llots => k_is)
    (case v_llots => k_is)
    (case z_ltest => k_is)
    (case l_ltest => k_is)
    (case u_ltest => k_is)
    (case v_ltest => k_is)
    (case z_lworth => k_is)
    (case l_lworth => k_is)
    (case u_lworth => k_is)
    (case v_lworth => k_is)
    (case z_plainer => k_is)
    (case l_plainer => k_is)
    (case u_plainer => k_is)
    (case v_plainer => k_is)
    (case z_lkeys => k_is)
    (case l_lkeys => k_is)
    (case u_lkeys => k_is)
    (case v_lkeys => k_is)
    (case z_lwhere => k_is)
    (case l_lwhere => k_is)
    (case u_lwhere => k_is)
    (case v_lwhere => k_is)
    (case z_lworths => k_is)
    (case l_lworths => k_is)
    (case u_lworths => k_is)
    (case v_lworths => k_is)
    (case z_heads => k_is)
    (case l_heads => k_is)
    (case u_heads => k_is)
    (case v_heads => k_is)
    (case z_law => k_is)
    (case l_law => k_is)
    (case u_law => k_is)
    (case v_law => k_is)
    (case o_enumerate => k_is)
    (case o_int => k_is)
    (case o_tuple => k_is)
    (case o_isinstance => k_is)
    (case o_any => k_is)
    (case o_list => k_is)
    (case o_len => k_is)
    (case o_sorted => k_is)
    (case o_range => k_is)
    (case o_repr => k_is)
    (case o_abs => k_is)
