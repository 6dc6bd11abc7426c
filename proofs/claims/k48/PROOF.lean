import PyProof.Rows.All
import Wide.All
import OpenK.AllK
import Wide.FinOn
import HandS.ForMost
import HandS.TupSets
import HandS.IsInst
import HandS.Conv
import HandS.NoneIn
import HandS.Zip
import HandS.Deep
import HandS.Walk
import HandS.Codes
import HandS.Strs
import HandS.SetFor
import HandS.DictComp
import KE.GoesMore
import HandS.Wide
import HandS.Style
import HandS.SortKw
import HandS.SortRule
import HandS.TupAny
import HandS.Star
import HandS.TupLe
import HandS.SortInts
import PySem.Challenge.RW_tellrounds_k48_joined_needs
set_option Elab.async false
set_option linter.all false
set_option maxRecDepth 100000
set_option maxHeartbeats 4000000
/-! ### A0. Own base: defs that are called where no repr runs; repr of data; the built-in names -/
namespace Tr
open PySem PySem.Spec PyProof.Rows L2

/-- a def's promise, asked only where no repr is under way -/
structure FnG (P : Program) (w : World) (K : PySem.W.Frag) (mg : Str → Option Value) (base : Heap) (CX : CXT) (k : Nat) (f : Addr) (fd : FuncData) (ps : List Str) (sp : Sp) : Prop where
  ln : ∀ vs H Q E, sp vs H Q E → vs.length = ps.length
  go : ∀ (A : Around), A.guards = some [] → ∀ (outer : List Env) (s : Shared) (H : Hp) (args : Args) (us : List Value) (vs : List V) (Q : VK) (E : XK), Room k A →
    Env0 P w K mg base A outer s H → BindsTo s fd args (ps.zip us) → Vals vs us → sp vs H Q E → codeAny (model P w) A (.call (.ref f) args) (CR CX outer P w H s Q E) s
section
variable {P : Program} {w : World} {K : PySem.W.Frag} {mg : Str → Option Value} {base : Heap} {CX : CXT} {k j : Nat} {f : Addr} {fd : FuncData} {ps : List Str} {sp sp' : Sp}
theorem FnG.up (F : FnG P w K mg base CX j f fd ps sp) (h : j ≤ k) : FnG P w K mg base CX k f fd ps sp :=
  ⟨F.ln, fun A hg o s H ar us vs Q E r => F.go A hg o s H ar us vs Q E (r.mono h)⟩
theorem FnG.of (F : FnOk P w K mg base CX k f fd ps sp) : FnG P w K mg base CX k f fd ps sp := ⟨F.len, fun A _ => F.run A⟩
theorem deeper_g {A : Around} {env : Env} (h : A.guards = some []) : (A.deeper env).guards = some [] := by
  first
    | exact h
    | (simp [Around.deeper]; exact h)
end

section
variable {X : Cx} {CX : CXT} {k : Nat} {f : Addr} {fd : FuncData} {ps : List Str} {sp : Sp} {dvs : List V} {ds : List Value} {E : XK} {x : Str} {p pos : Pos} {e : Expr} {es : List Expr} {t : TA}
theorem runG {pins : List (Addr × Obj)} {σ : L2.St} {H : Hp} {s : Shared} {Q : VK} {us : List Value} {vs : List V} (F : FnG X.prog X.w X.K X.mg X.base CX k f fd ps sp) (gg : X.A.guards = some []) (hr : Room k X.A)
    (hb : Binds X.K fd ps ds) (hd : Vals dvs ds) (hx : Passes CX X E) (I : Inv X pins σ H s) (r : Vals vs us) (h : sp (vs ++ dvs) H Q E) :
    wpAny (model X.prog X.w) X.A (call (.ref f) us) (EP X pins σ Q) X.xe s := by
  have both : Vals (vs ++ dvs) (us ++ ds) := Vals.append r hd
  have many : (us ++ ds).length = ps.length := both.length ▸ F.ln _ _ _ _ h
  have ran := F.go X.A gg X.stack s H ⟨us, []⟩ (us ++ ds) (vs ++ dvs) Q E hr (Inv.env0 I) (hb s us I.kIn many) both h
  refine wpAny_call (codeAny_mono ran ?_)
  rintro (_ | _ | _ | u | e) s' got
  all_goals first
    | exact Inv.after I got
    | exact (False.elim got)
    | exact hx pins σ H s _ s' I got
theorem pe_callG (F : FnG X.prog X.w X.K X.mg X.base CX k f fd ps sp) (gg : X.A.guards = some []) (hr : Room k X.A) (hg : Gl X x) (hm : X.mg x = some (.ref f)) (hk : PySem.W.keepIn X.K (.ref f) = true)
    (hb : Binds X.K fd ps ds) (hd : Vals dvs ds) (hx : Passes CX X E) (ha : PA X (e :: es) t) (hdb : (x == ("__debug__" : Str)) = false := by decide)
    (he : starEach (e :: es) X.env = (false, eval e X.env) :: starEach es X.env := by rfl) (hpl : (backTo pos (starEach es X.env)).any (·.1) = false := by rfl) :
    PE X (.Call (.Name x p) (e :: es) [] pos) (tCall sp dvs E t) :=
  ⟨fun pins s σ H Q I h => wpAny_Call_Name_kw (ld_glob I hg hm (PySem.W.callWith_K (h₀ := X.base) I.ok.mod.kin hk
    (thn (ha.run pos pins s σ H _ I h) fun us s1 ⟨vs, H1, I1, r, q⟩ => ⟨I1.kIn, runG F gg hr hb hd hx I1 r q⟩) he hpl) hdb)⟩
theorem pe_callG0 (F : FnG X.prog X.w X.K X.mg X.base CX k f fd ps sp) (gg : X.A.guards = some []) (hr : Room k X.A) (hg : Gl X x) (hm : X.mg x = some (.ref f)) (hk : PySem.W.keepIn X.K (.ref f) = true)
    (hb : Binds X.K fd ps ds) (hd : Vals dvs ds) (hx : Passes CX X E) (hdb : (x == ("__debug__" : Str)) = false := by decide) : PE X (.Call (.Name x p) [] [] pos) (tCall sp dvs E tNil) :=
  ⟨fun pins s σ H Q I h => wpAny_Call_Name_kw (ld_glob I hg hm (PySem.W.callWith_K0 I.kIn hk (runG (us := []) F gg hr hb hd hx I .nil h)) hdb)⟩
end

section
variable {P : Program} {w : World} {K : PySem.W.Frag} {mg : Str → Option Value} {base : Heap}
/-- a def of the text keeps its promise if its body does -/
theorem fnG {x qual : Str} {st : Stmt} {f : Addr} {fd : FuncData} {N ps : List Str} {k : Nat} {sp : Sp} (F : Fun K x qual st f fd) (S : FnScope N ps (defScope st)) (ln : ∀ vs H Q E, sp vs H Q E → vs.length = ps.length)
    (bd : ∀ (cdv : Value) (A : Around) (outer : List Env) (s : Shared) (H : Hp) (vs : List V) (Q : VK) (E : XK), Room k (A.deeper (envOfC qual (defScope st) s.heap.objs.size f cdv)) → (A.deeper (envOfC qual (defScope st) s.heap.objs.size f cdv)).guards = some [] →
      sp vs H Q E → ∃ t, PSs (cxOf CX0 P w K mg base N qual (defScope st) f cdv A outer s H E).nox (defBody st) t ∧ t { nx := fun _ H' => Q .non H', rt := Q } (start N vs) H) : FnG P w K mg base CX0 (k + 1) f fd ps sp := by
  obtain ⟨oc, od, kV, doc, pm, an, cdv, ct, osl, hfd, look, isC⟩ := F.ex
  subst hfd
  refine ⟨ln, ?_⟩
  intro A gA outer s H args us vs Q E room e0 bnd rel pr
  have inK : K.In s.heap := e0.mod.kin.keeps fun b o z => (e0.bs b o z).1
  have noL : s.heap.NoLimit := e0.mod.nolimit.keeps fun b o z => (e0.bs b o z).1
  have kinds : ∀ y ∈ ps.zip us, (defScope st).names.lookup y.1 = some .local ∨ ((defScope st).names.lookup y.1 = some .cell ∧ ((cellsFrom (s.heap.objs.size + 1) (defScope st).names []).lookup y.1).isSome = true) := by
    rintro ⟨n, v⟩ hy
    exact (S.par n (List.of_mem_zip hy).1).imp id fun q => ⟨q, PySem.W.cellsFrom_some _ _ _ (.inl q)⟩
  refine codeAny_call_function room.depth (inK _ _ look) rfl S.co S.gen rfl (PySem.W.codeRec_of inK isC) (bnd _ _ _ _ (wpAny_newFunctionEnv_cells S.kind kinds ?_))
  rintro env rfl s1 x1
  refine ⟨noL.keeps x1.toInCall.keep, codeAny_func ?_⟩
  obtain ⟨t, body, want⟩ := bd cdv A outer s H vs Q E (Room.deeper room _) (deeper_g gA) pr
  have inv0 := inv_start (E := E) (CX := CX0) (qual := qual) (cd := cdv) S room.hd e0 (ln _ _ _ _ pr) rel x1
  have ran := (body.nox).run [] s1 (start N vs) H _ inv0 want
  refine wpAny_mono ran ?_ (fun _ _ z => z)
  rintro (_ | _ | _ | u) s' got
  · obtain ⟨σ', H', J, q⟩ := got
    exact ⟨.non, H', J.os, J.bare, J.base, J.hok, rfl, q⟩
  · obtain ⟨_, _, _, q⟩ := got
    exact q.elim
  · obtain ⟨_, _, _, q⟩ := got
    exact q.elim
  · obtain ⟨v, σ', H', J, rv, q⟩ := got
    exact ⟨v, H', J.os, J.bare, J.base, J.hok, rv, q⟩

/-- a def by its name: where it stands, what it promises -/
def Cal (P : Program) (w : World) (K : PySem.W.Frag) (mg : Str → Option Value) (base : Heap) (x : Str) (ps : List Str) (k : Nat) (sp : Sp) : Prop :=
  ∃ (f : Addr) (fd : FuncData), FnG P w K mg base CX0 k f fd ps sp ∧ mg x = some (.ref f) ∧ PySem.W.keepIn K (.ref f) = true ∧ Binds K fd ps []
end

/-- the built-in names that the text uses -/
structure Bt (mg : Str → Option Value) : Prop where
  len : mg "len" = none
  list : mg "list" = none
  tuple : mg "tuple" = none
  int : mg "int" = none
  bool : mg "bool" = none
  str : mg "str" = none
  range : mg "range" = none
  min : mg "min" = none
  max : mg "max" = none
  sorted : mg "sorted" = none
  sum : mg "sum" = none
  all : mg "all" = none
  zip : mg "zip" = none
  enumerate : mg "enumerate" = none
  isinstance : mg "isinstance" = none
  repr : mg "repr" = none
  set : mg "set" = none
theorem bb_len : bootBuiltins "len" = some (.builtin "len") := by decide +kernel
theorem bb_list : bootBuiltins "list" = some (.type "list") := by decide +kernel
theorem bb_tuple : bootBuiltins "tuple" = some (.type "tuple") := by decide +kernel
theorem bb_int : bootBuiltins "int" = some (.type "int") := by decide +kernel
theorem bb_bool : bootBuiltins "bool" = some (.type "bool") := by decide +kernel
theorem bb_str : bootBuiltins "str" = some (.type "str") := by decide +kernel
theorem bb_min : bootBuiltins "min" = some (.builtin "min") := by decide +kernel
theorem bb_max : bootBuiltins "max" = some (.builtin "max") := by decide +kernel
theorem bb_sorted : bootBuiltins "sorted" = some (.builtin "sorted") := by decide +kernel
theorem bb_sum : bootBuiltins "sum" = some (.builtin "sum") := by decide +kernel
theorem bb_all : bootBuiltins "all" = some (.builtin "all") := by decide +kernel
theorem bb_isinstance : bootBuiltins "isinstance" = some (.builtin "isinstance") := by decide +kernel
theorem bb_set : bootBuiltins "set" = some (.type "set") := by decide +kernel
theorem bb_repr : bootBuiltins "repr" = some (.builtin "repr") := by decide +kernel

/-- rules whose readings name the written part: within a comprehension it is named by hand -/
def qLen (K : PySem.W.Frag) : List V → Hp → VK → Prop := fun vs H Q => ∃ p ys, vs = [.ref p] ∧ (SqL K H p ys ∨ SqT K H p ys) ∧ Q (.int ys.length) H
def qListOf (K : PySem.W.Frag) : List V → Hp → VK → Prop := fun vs H Q => ∃ p ys, vs = [.ref p] ∧ (SqL K H p ys ∨ SqT K H p ys) ∧ ∀ l, H l = none → Q (.ref l) (upd H l (.lst ys))
def qTupOf (K : PySem.W.Frag) : List V → Hp → VK → Prop := fun vs H Q => ∃ p ys, vs = [.ref p] ∧ ((SqL K H p ys ∧ ∀ l, H l = none → Q (.ref l) (upd H l (.tup ys))) ∨ (SqT K H p ys ∧ Q (.ref p) H))
theorem q_len {X : Cx} : CallR X (.builtin "len") (qLen X.K) := call_len_seq
theorem q_list {X : Cx} : CallR X (.type "list") (qListOf X.K) := call_list_of
theorem q_tuple {X : Cx} : CallR X (.type "tuple") (qTupOf X.K) := call_tuple_of

/-- repr of a list or tuple of data -/
def rReprD (K : PySem.W.Frag) : List V → Hp → VK → Prop := fun xs H Q => ∃ x d, xs = [x] ∧ Dp K H x d ∧ isDisplay d = true ∧ d.showable = true ∧ d.hasDict = false ∧ d.depth ≤ 60 ∧ d.shown.length ≤ sizeLine ∧ Q (.str d.shown) H
theorem call_reprD {X : Cx} (gg : X.A.guards = some []) (hu : X.A.units + 64 < cLine) : CallR X (.builtin "repr") (rReprD X.K) := by
  rintro pins s σ H xs us Q I r ⟨x, d, rfl, hd, disp, show1, nd, dep, sz, q⟩
  obtain ⟨u, rfl, ru⟩ := vals1 r
  obtain ⟨as, rd⟩ := Dp.reads I d x u hd ru
  obtain ⟨a, rfl⟩ := isRef_of_reads rd disp
  exact repr_of_reads' rd show1 (PyData.noDict_hsm nd) gg (by omega) (fun _ _ z => z) (fun h' u tk old => ⟨.str d.shown, H, I.kept (t' := tk) old, ⟨u, rfl⟩, q⟩) sz
end Tr

/-! ### A1. The end of a law whose def is called where no repr runs -/
namespace Tr
open PySem PySem.Spec PyProof.Rows L2
section
variable {P : Program} {w : World} {K : PySem.W.Frag} {mg mb : Str → Option Value} {k : Nat} {fa a : Addr} {fd : FuncData} {x : Str} {sp : Sp} {s1 : Shared} {vs : List Value} {ns : List Int}
def EndsTrue (s1 : Shared) (r : Result) (s' : Shared) : Prop := r = .ok (.ret (.bool true)) ∧ OldK s1.heap s'.heap ∧ s'.os = s1.os ∧ AllBare s'.gens
/-- from one abstract heap that tracks the script alone, or nothing -/
theorem law_from {H : Hp} (KX : K.In s1.heap) (g1 : s1.heap.Ns mainGlobals mg) (g2 : s1.heap.Ns builtinsNs mb) (g3 : ∀ x : Str, x ≠ "__name__" → mb x = bootBuiltins x) (g4 : s1.heap.NoLimit) (g5 : s1.gens = #[])
    (g6 : s1.heap.get? a = some { cls := .type "list", data := .seq vs.toArray }) (hr : Room k callerA)
    (F : ∀ base : Heap, K.In base → base.Ns mainGlobals mg → FnG P w K mg base CX0 k fa fd [x] sp) (bnd : ∀ (s : Shared) (u : Value), BindsTo s fd ⟨[u], []⟩ [(x, u)])
    (pr : sp [.ref a] H (fun v _ => v = .bl true) fun _ _ _ => False) (only : Only H) (ok : HOk P w H s1.heap) (alone : ∀ b, H b ≠ none → b = a) (notK : H a ≠ none → K.lookup a = none) :
    codeAny (model P w) callerA (.call (.ref fa) ⟨[.ref a], []⟩) (EndsTrue s1) s1 := by
  have dictFree : ∀ {b : Addr} {o : Obj} {es : Array DictEntry} {ep : Nat}, s1.heap.get? b = some o → o.data = .dict es ep → H b = none := by
    intro b o es ep e d
    refine Classical.byContradiction fun q => ?_
    have hb := alone b q
    rw [hb, g6] at e
    have eo := Option.some.inj e
    rw [← eo] at d
    exact nomatch d
  have nsB : ∀ {b : Addr} {m : Str → Option Value}, s1.heap.Ns b m → (hidT s1.heap H).Ns b m := by
    rintro b m ⟨o, es, ep, e, d, more⟩
    exact ⟨o, es, ep, hidT_get e (dictFree e d), d, more⟩
  have inB : K.In (hidT s1.heap H) := by
    intro b o e
    refine hidT_get (KX b o e) (Classical.byContradiction fun q => ?_)
    have hb := alone b q
    have none_at := notK (hb ▸ q)
    rw [hb, none_at] at e
    cases e
  obtain ⟨mc, c1, c2⟩ := g4
  have md : Mod K mg (hidT s1.heap H) := { kin := inB, glob := nsB g1, blt := ⟨mb, nsB g2, g3⟩, nolimit := ⟨mc, nsB c1, c2⟩ }
  have e0 : Env0 P w K mg (hidT s1.heap H) callerA [] s1 H :=
    { frames := rfl, mod := md, bs := fun b o e => of_hidT e, bsz := Nat.le_of_eq (hidT_size _ _), funs := trivial, frf := fun b hb => absurd hb List.not_mem_nil, hok := ok, bare := .of_eq g5 }
  have ran := (F _ inB (nsB g1)).go callerA rfl [] s1 H ⟨[.ref a], []⟩ [.ref a] [.ref a] _ _ hr e0 (bnd s1 (.ref a)) (.cons rfl .nil) pr
  refine codeAny_mono ran ?_
  rintro (e | fl) s' got
  · exact False.elim got
  rcases fl with _ | _ | _ | u
  all_goals try exact False.elim got
  obtain ⟨v, H', os, bare, un, ok', rv, vt⟩ := got
  have vt' : v = .bl true := vt
  subst vt'
  have ut : u = Value.bool true := rv
  subst ut
  refine ⟨rfl, OldK.of_keep fun b o e => ?_, os, bare⟩
  have kept : H b = none → s'.heap.get? b = some o := fun q => un.keep b o e q List.not_mem_nil List.not_mem_nil
  rcases only b with q | ⟨ob, xs, q⟩
  · exact kept q
  · have was := (ok b _ q).1
    have now := (ok' b _ (un.frzs b ob _ q)).1
    rw [was] at e
    exact now.trans e
/-- the law's def at the heap behind the top -/
theorem law_goG (KX : K.In s1.heap) (g1 : s1.heap.Ns mainGlobals mg) (g2 : s1.heap.Ns builtinsNs mb) (g3 : ∀ x : Str, x ≠ "__name__" → mb x = bootBuiltins x) (g4 : s1.heap.NoLimit) (g5 : s1.gens = #[])
    (g6 : s1.heap.get? a = some { cls := .type "list", data := .seq vs.toArray }) (areInts : IntsAre vs ns) (short : ns.length ≤ sizeLine) (hr : Room k callerA)
    (F : ∀ base : Heap, K.In base → base.Ns mainGlobals mg → FnG P w K mg base CX0 k fa fd [x] sp) (bnd : ∀ (s : Shared) (u : Value), BindsTo s fd ⟨[u], []⟩ [(x, u)])
    (pr : ∀ H : Hp, Only H → SqL K H a (ns.map V.int) → sp [.ref a] H (fun v _ => v = .bl true) fun _ _ _ => False) :
    codeAny (model P w) callerA (.call (.ref fa) ⟨[.ref a], []⟩) (EndsTrue s1) s1 := by
  have rv := vals_ints areInts
  cases inK : K.lookup a with
  | some o =>
    have same := KX a o inK
    rw [g6] at same
    have eo := Option.some.inj same
    subst eo
    let H0 : Hp := fun _ => none
    have sq : SqL K H0 a (ns.map V.int) := .inr ⟨_, vs.toArray, _, inK, rfl, rfl, rfl, by rw [List.size_toArray, areInts.length]; exact short, by simpa using rv⟩
    exact law_from (H := H0) KX g1 g2 g3 g4 g5 g6 hr F bnd (pr H0 (fun _ => .inl rfl) sq) (fun _ => .inl rfl) (fun b u z => nomatch (show (none : Option HO) = some u from z)) (fun b z => (z rfl).elim) fun z => (z rfl).elim
  | none =>
    let scr : Obj := { cls := .type "list", data := .seq vs.toArray }
    let H1 : Hp := fun b => if b = a then some (.frz scr (.lst (ns.map V.int))) else none
    have at_a : H1 a = some (.frz scr (.lst (ns.map V.int))) := if_pos rfl
    have other : ∀ b, b ≠ a → H1 b = none := fun b h => if_neg h
    have only : Only H1 := fun b => (Decidable.em (b = a)).elim (fun h => .inr ⟨scr, ns.map V.int, h ▸ at_a⟩) fun h => .inl (other b h)
    refine law_from (H := H1) KX g1 g2 g3 g4 g5 g6 hr F bnd (pr H1 only (.inl (.inr ⟨scr, at_a⟩))) only (fun b u z => ?_) (fun b z => Decidable.byContradiction fun h => z (other b h)) fun _ => inK
    by_cases h : b = a
    · subst h
      rw [at_a] at z
      have eu := Option.some.inj z
      subst eu
      exact ⟨g6, by rw [List.length_map]; exact short, vs, 0, rv, g6⟩
    · rw [other b h] at z
      cases z
end
/-- what k_head leaves, from the law's promise -/
theorem walkG {l : PySem.W.OpenLaw} {n k : Nat} {q : Program} {loose : List Str} {XP : (Str → Option Value) → Heap → Prop} {YP : World → Heap → Prop} {d : DefRec} {K : Params → PySem.W.Frag} {sp : PySem.W.Frag → Sp} {x : Str}
    (most : l.most = some n) (n2 : n ≤ sizeLine) (nodef : d.params.defaults = []) (hr : Room k callerA) (inY : ∀ (w : World) (h : Heap), YP w h → (K w.params).In h)
    (F : ∀ (w : World) (mg : Str → Option Value) (fa : Addr) (h : Heap), (K w.params).In h → h.Ns mainGlobals mg → mg d.name = some (.ref fa) →
      ∃ fd : FuncData, (∀ (s : Shared) (u : Value), BindsTo s fd ⟨[u], []⟩ [(x, u)]) ∧ ∀ base : Heap, (K w.params).In base → base.Ns mainGlobals mg → FnG l.prog w (K w.params) mg base CX0 k fa fd [x] (sp (K w.params)))
    (pr : ∀ (K : PySem.W.Frag) (H : Hp) (a : Addr) (ns : List Int), ns.length ≤ n → Only H → SqL K H a (ns.map V.int) → sp K [.ref a] H (fun v _ => v = .bl true) fun _ _ _ => False) :
    PySem.W.WalkO q loose XP YP l.row.toRowW d [] (fun f vs => PySem.call f vs) := by
  refine Att.attach_call most nodef ?_
  intro w s0 s1 mg mb fa o pm cd doc a vs ns G Y ho hd hcd named hobj areInts len bare
  obtain ⟨fd, bnd, all⟩ := F w mg fa _ (inY w _ Y) G.T.g named
  exact law_goG (inY w _ Y) G.T.g G.T.b G.T.builtins G.T.nolimit bare hobj areInts (Nat.le_trans len n2) hr all bnd fun H only sq => pr _ H a ns len only sq
end Tr

/-! ### A2. What draws change; the draw itself -/
namespace Tr
open PySem PySem.Spec PyProof.Rows L2

/-- all but the objects at d and r stands -/
def Kp (d r : Addr) (H H' : Hp) : Prop := ∀ b o, H b = some o → b ≠ d → b ≠ r → H' b = some o
theorem Kp.refl (d r : Addr) (H : Hp) : Kp d r H H := fun _ _ h _ _ => h
theorem Kp.trans {d r : Addr} {H H1 H2 : Hp} (a : Kp d r H H1) (b : Kp d r H1 H2) : Kp d r H H2 := fun x o h n1 n2 => b x o (a x o h n1 n2) n1 n2
theorem Kp.of {d r : Addr} {H H' : Hp} (s : Same H H') : Kp d r H H' := fun b o h _ _ => s b o h
theorem same_new {H : Hp} {p : Addr} {o : HO} (h : H p = none) : Same H (upd H p o) := fun b u q => (upd_ne (ne_of_none q h)).trans q
theorem new_ne {H H' : Hp} {p b : Addr} {o : HO} (s : Same H H') (h : H b = some o) (n : H' p = none) : b ≠ p := ne_of_none (s b o h) n

/-- the drawn list at d: its cells at c, the turn n, its rests at r -/
structure Dr (H : Hp) (d c r : Addr) (n : Nat) : Prop where
  hd : H d = some (.lst [.ref c, .int n, .ref r])
  hc : ∃ cs rs : List Int, H c = some (.lst (cs.map V.int)) ∧ H r = some (.lst (rs.map V.int)) ∧ rs.length = cs.length ∧ 0 < cs.length ∧ cs.length ≤ 63
  cr : c ≠ r
/-- .. with at most N turns -/
def Dn (d c r : Addr) (N : Nat) (H : Hp) : Prop := ∃ n, n ≤ N ∧ Dr H d c r n
theorem map_int_ne {l : List Int} {c r : Addr} {n : Int} : (HO.lst (l.map V.int)) ≠ .lst [.ref c, .int n, .ref r] := by
  intro h
  have h2 : l.map V.int = [.ref c, .int n, .ref r] := by injection h
  cases l with
  | nil => cases h2
  | cons a b =>
    have h3 : V.int a = V.ref c := (List.cons.inj h2).1
    cases h3
theorem Dr.cd {H : Hp} {d c r : Addr} {n : Nat} (x : Dr H d c r n) : c ≠ d := by
  obtain ⟨cs, rs, h, _⟩ := x.hc
  exact ne_of h x.hd map_int_ne
theorem Dr.rd {H : Hp} {d c r : Addr} {n : Nat} (x : Dr H d c r n) : r ≠ d := by
  obtain ⟨cs, rs, _, h, _⟩ := x.hc
  exact ne_of h x.hd map_int_ne
theorem Dr.same {H H' : Hp} {d c r : Addr} {n : Nat} (x : Dr H d c r n) (s : Same H H') : Dr H' d c r n := by
  obtain ⟨cs, rs, h1, h2, h3⟩ := x.hc
  exact ⟨s _ _ x.hd, ⟨cs, rs, s _ _ h1, s _ _ h2, h3⟩, x.cr⟩
theorem Dn.same {H H' : Hp} {d c r : Addr} {N : Nat} (x : Dn d c r N H) (s : Same H H') : Dn d c r N H' := let ⟨n, h, q⟩ := x; ⟨n, h, q.same s⟩
theorem Dn.mono {H : Hp} {d c r : Addr} {N M : Nat} (x : Dn d c r N H) (h : N ≤ M) : Dn d c r M H := let ⟨n, e, q⟩ := x; ⟨n, Nat.le_trans e h, q⟩
theorem Dn.new {H : Hp} {d c r p : Addr} {N : Nat} {o : HO} (x : Dn d c r N H) (h : H p = none) : Dn d c r N (upd H p o) := x.same (same_new h)
/-- what is a tuple, or stands behind the drawn list, is none of it -/
theorem Dn.tup_ne {H : Hp} {d c r b : Addr} {N : Nat} {xs : List V} (x : Dn d c r N H) (h : H b = some (.tup xs)) : b ≠ d ∧ b ≠ r := by
  obtain ⟨n, _, q⟩ := x
  obtain ⟨cs, rs, _, h2, _⟩ := q.hc
  exact ⟨ne_of h q.hd (by intro z; cases z), ne_of h h2 (by intro z; cases z)⟩
theorem Dn.new_ne {H : Hp} {d c r p : Addr} {N : Nat} (x : Dn d c r N H) (h : H p = none) : p ≠ d ∧ p ≠ r ∧ p ≠ c := by
  obtain ⟨n, _, q⟩ := x
  obtain ⟨cs, rs, h1, h2, _⟩ := q.hc
  exact ⟨(ne_of_none q.hd h).symm, (ne_of_none h2 h).symm, (ne_of_none h1 h).symm⟩
/-- tuples stay -/
theorem Kp.tup {d c r b : Addr} {N : Nat} {H H' : Hp} {xs : List V} (k : Kp d r H H') (x : Dn d c r N H) (h : H b = some (.tup xs)) : H' b = some (.tup xs) := k b _ h (x.tup_ne h).1 (x.tup_ne h).2
/-- a list that is written by the caller: it is not of the drawn ones -/
theorem Dn.upd {H : Hp} {d c r p : Addr} {N : Nat} {o : HO} (x : Dn d c r N H) (h : p ≠ d ∧ p ≠ r ∧ p ≠ c) : Dn d c r N (upd H p o) := by
  obtain ⟨n, e, q⟩ := x
  obtain ⟨cs, rs, h1, h2, h3⟩ := q.hc
  exact ⟨n, e, ⟨(upd_ne h.1.symm).trans q.hd, ⟨cs, rs, (upd_ne h.2.2.symm).trans h1, (upd_ne h.2.1.symm).trans h2, h3⟩, q.cr⟩⟩

def TT : Nat := 2 ^ 24
/-- _law_next -/
def sp_law_next : Sp := fun vs H Q _ => ∃ (d c r : Addr) (N : Nat) (m : Int), vs = [.ref d, .int m] ∧ Dn d c r N H ∧ N < TT ∧ 0 < m ∧ m < 1000000000000000000000000000000000000000000000000 ∧
  ∀ (H' : Hp) (k : Int), 0 ≤ k → k < m → Dn d c r (N + 1) H' → Kp d r H H' → Q (.int k) H'
/-- _law_draws -/
def sp_law_draws (K : PySem.W.Frag) : Sp := fun vs H Q _ => ∃ (a : Addr) (ns : List Int), vs = [.ref a] ∧ SqL K H a (ns.map V.int) ∧ ns.length ≤ 63 ∧
  ∀ (H' : Hp) (d c r : Addr), Dn d c r 0 H' → Same H H' → Q (.ref d) H'

theorem fmod_bounds {a b : Int} (h : 0 < b) : 0 ≤ a.fmod b ∧ a.fmod b < b := ⟨Int.fmod_nonneg_of_pos a h, Int.fmod_lt_of_pos a h⟩
theorem sq_bounds {n : Int} (h0 : 0 ≤ n) (h1 : n < 16777216) : 0 ≤ 7001 * n * n ∧ 7001 * n * n ≤ 7001 * 281474976710656 := by
  have a : n * n ≤ 16777216 * 16777216 := Int.mul_le_mul (by omega) (by omega) h0 (by decide)
  have b : 0 ≤ n * n := Int.mul_nonneg h0 h0
  rw [Int.mul_assoc]
  constructor <;> omega
theorem nat64 {x : Int} (h0 : 0 ≤ x) (h1 : x < 18446744073709551616) : x.natAbs < 2 ^ 64 := by omega
theorem nz_a : (2147483629 : Int) ≠ 0 := by decide
theorem nz_b : (2147483587 : Int) ≠ 0 := by decide
theorem nz_c : (2147483563 : Int) ≠ 0 := by decide
theorem nz_d : (4611686018427387847 : Int) ≠ 0 := by decide
theorem mul_lo {n : Int} (h : 0 ≤ n) : -(2 ^ 64) < 7001 * n := by omega
theorem mul_hi {n : Int} (h : n < 16777216) : 7001 * n < 2 ^ 64 := by omega
theorem mid_mul {x : Int} (h : 0 ≤ x ∧ x < 2147483563) : -(2 ^ 64) < x ∧ x < 2 ^ 64 := by omega
theorem len_of_map {l : List Int} {n : Nat} (h : l.length = n) : (l.map V.int).length = n := (List.length_map _).trans h
theorem get_int {l : List Int} {i : Nat} (h : i < l.length) : (l.map V.int)[i]? = some (.int l[i]) := by
  rw [List.getElem?_map, List.getElem?_eq_getElem h] <;> rfl
/-- a place that is a rest by the length -/
theorem at_mod {l : List Int} {i : Int} (h0 : 0 ≤ i) (h1 : i < (l.length : Int)) : ∃ (j : Nat) (z : Int), i = (j : Int) ∧ j < l.length ∧ l[j]? = some z ∧ atI (l.map V.int) i = some (.int z) := by
  obtain ⟨j, rfl⟩ := Int.eq_ofNat_of_zero_le h0
  have hj : j < l.length := by omega
  exact ⟨j, l[j], rfl, hj, List.getElem?_eq_getElem hj, atI_nat (get_int hj)⟩
end Tr

/-! ### A3. Edges and trees as they lie in the heap -/
namespace Tr
open PySem PySem.Spec PyProof.Rows L2
/-- 0, 1, .., n - 1 -/
def rI (n : Nat) : List Int := (List.range n).map Int.ofNat
theorem rI_len (n : Nat) : (rI n).length = n := by unfold rI; rw [List.length_map, List.length_range]
theorem mem_rI {n : Nat} {z : Int} : z ∈ rI n ↔ 0 ≤ z ∧ z < (n : Int) := by
  unfold rI
  rw [List.mem_map]
  constructor
  · rintro ⟨i, hi, rfl⟩
    have := List.mem_range.mp hi
    exact ⟨Int.natCast_nonneg i, by show (i : Int) < n; omega⟩
  · rintro ⟨h0, h1⟩
    exact ⟨z.toNat, List.mem_range.mpr (by omega), by show ((z.toNat : Nat) : Int) = z; omega⟩
theorem rI_nodup (n : Nat) : (rI n).Nodup := List.pairwise_map.mpr (List.Pairwise.imp (fun h e => h (Int.ofNat.inj e)) List.nodup_range)
abbrev Ed := Int × Int × Int
def edV (e : Ed) : List Int := [e.1, e.2.1, e.2.2]
def edO (e : Ed) : Option HO := some (.tup ((edV e).map V.int))
/-- the tuples at as are the edges es -/
def EdsAt (H : Hp) (as : List Addr) (es : List Ed) : Prop := as.map H = es.map edO
theorem EdsAt.length {H : Hp} {as : List Addr} {es : List Ed} (h : EdsAt H as es) : as.length = es.length := by
  have := congrArg List.length h
  rwa [List.length_map, List.length_map] at this
theorem EdsAt.get {H : Hp} {as : List Addr} {es : List Ed} (h : EdsAt H as es) {i : Nat} {e : Ed} (g : es[i]? = some e) : ∃ a, as[i]? = some a ∧ H a = edO e := by
  have q : (as.map H)[i]? = (es.map edO)[i]? := by rw [h]
  rw [List.getElem?_map, List.getElem?_map, g] at q
  obtain ⟨a, ha, hh⟩ := Option.map_eq_some_iff.mp q
  exact ⟨a, ha, hh⟩
theorem EdsAt.get' {H : Hp} {as : List Addr} {es : List Ed} (h : EdsAt H as es) {i : Nat} {a : Addr} (g : as[i]? = some a) : ∃ e, es[i]? = some e ∧ H a = edO e := by
  have q : (as.map H)[i]? = (es.map edO)[i]? := by rw [h]
  rw [List.getElem?_map, List.getElem?_map, g] at q
  obtain ⟨e, he, hh⟩ := Option.map_eq_some_iff.mp q.symm
  exact ⟨e, he, hh.symm⟩
theorem EdsAt.mem {H : Hp} {as : List Addr} {es : List Ed} (h : EdsAt H as es) {a : Addr} (g : a ∈ as) : ∃ e ∈ es, H a = edO e := by
  have q : H a ∈ as.map H := List.mem_map_of_mem g
  rw [h] at q
  obtain ⟨e, he, hh⟩ := List.mem_map.mp q
  exact ⟨e, he, hh.symm⟩
theorem EdsAt.keep {H H' : Hp} {as : List Addr} {es : List Ed} (h : EdsAt H as es) (k : ∀ a xs, H a = some (.tup xs) → H' a = some (.tup xs)) : EdsAt H' as es := by
  have q : as.map H' = as.map H := List.map_congr_left fun a ha => by
    obtain ⟨e, _, he⟩ := h.mem ha
    rw [he]
    exact k a _ he
  exact q.trans h
theorem EdsAt.snoc {H : Hp} {as : List Addr} {es : List Ed} {a : Addr} {e : Ed} (h : EdsAt H as es) (g : H a = edO e) : EdsAt H (as ++ [a]) (es ++ [e]) := by
  unfold EdsAt
  rw [List.map_append, List.map_append, h]
  exact congrArg _ (congrArg (fun x => [x]) g)
theorem eds_nil {H : Hp} : EdsAt H [] [] := rfl
/-- another order -/
theorem perm_pull {α β : Type} (f : α → β) : ∀ {ys : List β} {xs : List β}, ys.Perm xs → ∀ as : List α, xs = as.map f → ∃ bs : List α, ys = bs.map f ∧ bs.Perm as := by
  intro ys xs h
  induction h with
  | nil =>
    intro as e
    cases as with
    | nil => exact ⟨[], rfl, List.Perm.nil⟩
    | cons a r => cases e
  | cons x _ ih =>
    intro as e
    cases as with
    | nil => cases e
    | cons a r =>
      rw [List.map_cons] at e
      obtain ⟨bs, e2, p⟩ := ih r (List.cons.inj e).2
      exact ⟨a :: bs, by rw [List.map_cons, ← e2, (List.cons.inj e).1], p.cons a⟩
  | swap x y l =>
    intro as e
    cases as with
    | nil => cases e
    | cons a r =>
      cases r with
      | nil =>
        have := (List.cons.inj e).2
        cases this
      | cons b r =>
        rw [List.map_cons, List.map_cons] at e
        have e1 := List.cons.inj e
        have e2 := List.cons.inj e1.2
        exact ⟨b :: a :: r, by rw [List.map_cons, List.map_cons, e1.1, e2.1, e2.2], List.Perm.swap a b r⟩
  | trans _ _ ih1 ih2 =>
    intro as e
    obtain ⟨bs, e1, p1⟩ := ih2 as e
    obtain ⟨cs, e2, p2⟩ := ih1 bs e1
    exact ⟨cs, e2, p2.trans p1⟩
theorem EdsAt.perm {H : Hp} {as bs : List Addr} {es : List Ed} (h : EdsAt H as es) (p : bs.Perm as) : ∃ fs : List Ed, EdsAt H bs fs ∧ fs.Perm es := by
  obtain ⟨fs, e, q⟩ := perm_pull edO (p.map H) es h
  exact ⟨fs, e, q⟩
/-- the tree (n, es) at t -/
def TrAt (H : Hp) (t : Addr) (n : Nat) (es : List Ed) : Prop := ∃ (q : Addr) (as : List Addr), H t = some (.tup [.int n, .ref q]) ∧ H q = some (.tup (as.map V.ref)) ∧ EdsAt H as es
theorem TrAt.keep {H H' : Hp} {t : Addr} {n : Nat} {es : List Ed} (h : TrAt H t n es) (k : ∀ a xs, H a = some (.tup xs) → H' a = some (.tup xs)) : TrAt H' t n es := by
  obtain ⟨q, as, h1, h2, h3⟩ := h
  exact ⟨q, as, k _ _ h1, k _ _ h2, h3.keep k⟩
theorem TrAt.same {H H' : Hp} {t : Addr} {n : Nat} {es : List Ed} (h : TrAt H t n es) (s : Same H H') : TrAt H' t n es := h.keep fun a xs e => s a _ e
theorem TrAt.kp {H H' : Hp} {d c r t : Addr} {N n : Nat} {es : List Ed} (h : TrAt H t n es) (D : Dn d c r N H) (k : Kp d r H H') : TrAt H' t n es := h.keep fun a xs e => k.tup D e
/-- as data -/
def edD (e : Ed) : PyData := .tuple [.int e.1, .int e.2.1, .int e.2.2]
def trD (n : Nat) (es : List Ed) : PyData := .tuple [.int n, .tuple (es.map edD)]
theorem edO_dp {K : PySem.W.Frag} {H : Hp} {a : Addr} {e : Ed} (h : H a = edO e) : Dp K H (.ref a) (edD e) :=
  .tup (SqT.of h) (.cons (.int _) (.cons (.int _) (.cons (.int _) .nil)))
theorem EdsAt.dp {K : PySem.W.Frag} {H : Hp} : ∀ {as : List Addr} {es : List Ed}, EdsAt H as es → DpAll K H (as.map V.ref) (es.map edD)
  | [], [], _ => .nil
  | [], _ :: _, h => by cases h
  | _ :: _, [], h => by cases h
  | a :: as, e :: es, h => by
    have h' : H a :: as.map H = edO e :: es.map edO := h
    exact .cons (edO_dp (List.cons.inj h').1) (EdsAt.dp (List.cons.inj h').2)
theorem TrAt.dp {K : PySem.W.Frag} {H : Hp} {t : Addr} {n : Nat} {es : List Ed} (h : TrAt H t n es) : Dp K H (.ref t) (trD n es) := by
  obtain ⟨q, as, h1, h2, h3⟩ := h
  exact .tup (SqT.of h1) (.cons (.int _) (.cons (.tup (SqT.of h2) h3.dp) .nil))
/-- the order of sorted -/
def BB : Int := 1000000001
def edLe (e f : Ed) : Prop := TS.code BB (edV e) ≤ TS.code BB (edV f)
def mnI (a b : Int) : Int := if b < a then b else a
def mxI (a b : Int) : Int := if b > a then b else a
def nrm (e : Ed) : Ed := (mnI e.1 e.2.1, mxI e.1 e.2.1, e.2.2)
def EdIn (e : Ed) : Prop := (0 ≤ e.1 ∧ e.1 < BB) ∧ (0 ≤ e.2.1 ∧ e.2.1 < BB) ∧ (0 ≤ e.2.2 ∧ e.2.2 < BB)
theorem nrm_in {e : Ed} (h : EdIn e) : EdIn (nrm e) := by
  obtain ⟨h1, h2, h3⟩ := h
  refine ⟨?_, ?_, h3⟩
  · show 0 ≤ mnI _ _ ∧ mnI _ _ < BB
    unfold mnI
    split <;> assumption
  · show 0 ≤ mxI _ _ ∧ mxI _ _ < BB
    unfold mxI
    split <;> assumption
theorem bd_of {e : Ed} (h : EdIn e) : TS.Bd BB (edV e) := by
  obtain ⟨h1, h2, h3⟩ := h
  intro m hm
  have hm' : m = e.1 ∨ m = e.2.1 ∨ m = e.2.2 := by simpa [edV] using hm
  rcases hm' with rfl | rfl | rfl <;> assumption
theorem eds_sorted {K : PySem.W.Frag} {H : Hp} : ∀ {as : List Addr} {es : List Ed}, EdsAt H as es →
    (as.map V.ref).Pairwise (fun x y => ∀ n m, TupI K H x n → TupI K H y m → TS.code BB n ≤ TS.code BB m) → es.Pairwise edLe
  | [], [], _, _ => List.Pairwise.nil
  | [], _ :: _, h, _ => by cases h
  | _ :: _, [], h, _ => by cases h
  | a :: as, e :: es, h, p => by
    have h' : H a :: as.map H = edO e :: es.map edO := h
    have p' := List.pairwise_cons.mp (show (V.ref a :: as.map V.ref).Pairwise _ from p)
    have tl : EdsAt H as es := (List.cons.inj h').2
    refine List.pairwise_cons.mpr ⟨fun f hf => ?_, eds_sorted tl p'.2⟩
    obtain ⟨j, hj⟩ := List.mem_iff_getElem?.mp hf
    obtain ⟨b, hb, hbo⟩ := tl.get hj
    exact p'.1 (.ref b) (List.mem_map_of_mem (List.mem_of_getElem? hb)) (edV e) (edV f) ⟨a, rfl, SqT.of (List.cons.inj h').1⟩ ⟨b, rfl, SqT.of hbo⟩
end Tr

/-! ### A4. Trees grown leaf by leaf -/
namespace Tr
open PySem PySem.Spec PyProof.Rows L2
/-- vs joined by es: one vertex, then leaf by leaf -/
inductive Grow : List Int → List Ed → Prop
  | one (v : Int) : Grow [v] []
  | leaf {vs : List Int} {es : List Ed} (x y d : Int) : Grow vs es → y ∈ vs → x ∉ vs → 1 ≤ d → d ≤ 1000000000 → Grow (vs ++ [x]) (es ++ [nrm (x, y, d)])
structure IsTree (n : Nat) (es : List Ed) : Prop where
  pos : 1 ≤ n
  grow : ∃ vs fs, Grow vs fs ∧ vs.Perm (rI n) ∧ es.Perm fs
  sorted : es.Pairwise edLe
theorem Grow.len {vs : List Int} {es : List Ed} (g : Grow vs es) : es.length + 1 = vs.length := by
  induction g with
  | one v => rfl
  | leaf x y d g hy hx h1 h2 ih => rw [List.length_append, List.length_append, ← ih]; rfl
theorem IsTree.len {n : Nat} {es : List Ed} (t : IsTree n es) : es.length + 1 = n := by
  obtain ⟨vs, fs, g, p, q⟩ := t.grow
  rw [q.length_eq, g.len, p.length_eq, rI_len]
theorem nrm_fst {x y d : Int} : nrm (x, y, d) = if y < x then (y, x, d) else (x, (if x < y then y else x), d) := by
  unfold nrm mnI mxI
  by_cases h : y < x
  · simp only [if_pos h, show ¬ y > x by omega, if_false]
  · by_cases h2 : x < y
    · simp only [if_neg h, show y > x from h2, if_true]
    · simp only [if_neg h, show ¬ y > x by omega, if_false]
/-- each edge joins two vertices, the smaller one first -/
theorem Grow.edge {vs : List Int} {es : List Ed} (g : Grow vs es) : ∀ e ∈ es, e.1 ∈ vs ∧ e.2.1 ∈ vs ∧ e.1 < e.2.1 ∧ 1 ≤ e.2.2 ∧ e.2.2 ≤ 1000000000 := by
  induction g with
  | one v => intro e he; cases he
  | @leaf vs es x y d g hy hx h1 h2 ih =>
    intro e he
    rcases List.mem_append.mp he with he | he
    · obtain ⟨a, b, c⟩ := ih e he
      exact ⟨List.mem_append_left _ a, List.mem_append_left _ b, c⟩
    · have e1 : e = nrm (x, y, d) := by simpa using he
      have hne : x ≠ y := fun z => hx (z ▸ hy)
      have hx' : x ∈ vs ++ [x] := by simp
      have hy' : y ∈ vs ++ [x] := List.mem_append_left _ hy
      rw [e1, nrm_fst]
      by_cases h : y < x
      · rw [if_pos h]; exact ⟨hy', hx', h, h1, h2⟩
      · have h3 : x < y := by omega
        rw [if_neg h, if_pos h3]; exact ⟨hx', hy', h3, h1, h2⟩
theorem IsTree.edge {n : Nat} {es : List Ed} (t : IsTree n es) : ∀ e ∈ es, 0 ≤ e.1 ∧ e.1 < e.2.1 ∧ e.2.1 < (n : Int) ∧ 1 ≤ e.2.2 ∧ e.2.2 ≤ 1000000000 := by
  obtain ⟨vs, fs, g, p, q⟩ := t.grow
  intro e he
  obtain ⟨a, b, c, d1, d2⟩ := g.edge e (q.mem_iff.mp he)
  have ha := mem_rI.mp (p.mem_iff.mp a)
  have hb := mem_rI.mp (p.mem_iff.mp b)
  exact ⟨ha.1, c, hb.2, d1, d2⟩
end Tr

/-! ### A5. Data that stands while tuples stand; equality of data, walks over two tuples -/
namespace Tr
open PySem PySem.Spec PyProof.Rows L2
theorem same_tup {K : PySem.W.Frag} {H H' : Hp} {a : Addr} {xs : List V} (e : Same H H') (h : SqT K H a xs) : SqT K H' a xs :=
  h.imp (fun q => q.imp (e _ _) fun ⟨o, z⟩ => ⟨o, e _ _ z⟩) id
mutual
theorem dp_same {K : PySem.W.Frag} {H H' : Hp} (s : Same H H') : ∀ {v : V} {d : PyData}, Dp K H v d → Dp K H' v d
  | _, _, .non => .non
  | _, _, .bl b => .bl b
  | _, _, .int i => .int i
  | _, _, .str x => .str x
  | _, _, .lst h q => .lst (s.seq h) (dps_same s q)
  | _, _, .tup h q => .tup (same_tup s h) (dps_same s q)
theorem dps_same {K : PySem.W.Frag} {H H' : Hp} (s : Same H H') : ∀ {vs : List V} {ds : List PyData}, DpAll K H vs ds → DpAll K H' vs ds
  | _, _, .nil => .nil
  | _, _, .cons h q => .cons (dp_same s h) (dps_same s q)
end
theorem dps_len {K : PySem.W.Frag} {H : Hp} : ∀ {vs : List V} {ds : List PyData}, DpAll K H vs ds → vs.length = ds.length
  | _, _, .nil => rfl
  | _, _, .cons _ q => congrArg Nat.succ (dps_len q)
theorem dps_get {K : PySem.W.Frag} {H : Hp} : ∀ {vs : List V} {ds : List PyData} {i : Nat} {d : PyData} {v : V}, DpAll K H vs ds → vs[i]? = some v → ds[i]? = some d → Dp K H v d
  | _, _, _, _, _, .nil, h, _ => by simp at h
  | _, _, 0, _, _, .cons h _, e1, e2 => by
    have z1 := Option.some.inj (show some _ = some _ from e1)
    have z2 := Option.some.inj (show some _ = some _ from e2)
    rw [← z1, ← z2]
    exact h
  | _, _, i + 1, _, _, .cons _ q, e1, e2 => dps_get (i := i) q (by simpa using e1) (by simpa using e2)
theorem tyx_tup {K : PySem.W.Frag} {H : Hp} {a : Addr} {xs : List V} (h : SqT K H a xs) : TyX K H (.ref a) (.type "tuple") := by
  rcases h with (h | ⟨o, h⟩) | ⟨o, its, n, h, c, _⟩
  · exact .base (.tup h)
  · exact .fTuple h
  · exact .kTuple h c
/-- numbers, texts, None, and tuples of such, less than n deep -/
def okd : Nat → PyData → Bool
  | 0, _ => false
  | n + 1, d => match d with
    | .none => true
    | .bool _ => true
    | .int _ => true
    | .str _ => true
    | .tuple ds => decide (ds.length ≤ 1000) && ds.all (okd n)
    | _ => false
theorem walk_zipT {K : PySem.W.Frag} {a b : Addr} {xs ys : List V} (hn : xs.length = ys.length) : Walk (RZ.ItzT K a b) xs.length (fun H => SqT K H a xs ∧ SqT K H b ys) (YPair (fun i => xs[i]?) (fun i => ys[i]?)) := by
  refine ⟨fun i H hi q => ⟨xs, ys, xs[i], ys[i], q.1, q.2, List.getElem?_eq_getElem hi, List.getElem?_eq_getElem (by omega)⟩, fun H q => ⟨xs, ys, q.1, q.2, .inl (Nat.le_refl _)⟩, fun i H v H' hi q y => ?_⟩
  obtain ⟨T, x, z, h1, h2, h3, h4, h5⟩ := y
  exact ⟨T, x, z, h1, h2, h3, h4 _ q.1, h5 _ q.2⟩
theorem isi {K : PySem.W.Frag} {H : Hp} {x : V} {T t : String} {b : Bool} {Q : VK} (ty : TyX K H x (.type t)) (k : kitB t T = some b) (q : Q (.bl b) H) : rIsi K [x, .ty T] H Q := ⟨x, .ty T, _, _, b, rfl, .ty T, ty, kit_ty k, q⟩
theorem iteD {c A B : Prop} [Decidable c] (hc : c) (h : A) : if (decide c) = true then A else B := by
  rw [decide_eq_true hc]
  exact iteT h
theorem q_dec {c : Prop} [Decidable c] {Q : VK} {H : Hp} (hc : c) (h : Q (.bl true) H) : Q (.bl (decide c)) H := by
  rw [decide_eq_true hc]
  exact h
theorem all_true {bs : List Bool} (h : ∀ b ∈ bs, b = true) : bs.all id = true := List.all_eq_true.mpr h
end Tr

/-! ### A6. Neighbours -/
namespace Tr
open PySem PySem.Spec PyProof.Rows L2
/-- the other ends of the edges of v, in the edges' order -/
def nbE (v : Int) (e : Ed) : List Int := (if e.1 = v then [e.2.1] else []) ++ (if e.2.1 = v then [e.1] else [])
def nbrs (es : List Ed) (v : Int) : List Int := es.flatMap (nbE v)
def upE (v : Int) (e : Ed) : Bool := decide (e.1 = v)
def dnE (v : Int) (e : Ed) : Bool := decide (e.2.1 = v)
def nbrs2 (es : List Ed) (v : Int) : List Int := (es.filter (upE v)).map (·.2.1) ++ (es.filter (dnE v)).map (·.1)
theorem nbrs_perm (v : Int) : ∀ es : List Ed, (nbrs es v).Perm (nbrs2 es v)
  | [] => List.Perm.refl _
  | e :: es => by
    have ih := nbrs_perm v es
    unfold nbrs nbrs2 at *
    rw [List.flatMap_cons]
    unfold nbE upE dnE at *
    by_cases h1 : e.1 = v <;> by_cases h2 : e.2.1 = v
    · rw [if_pos h1, if_pos h2, List.filter_cons_of_pos (by simpa using h1), List.filter_cons_of_pos (by simpa using h2)]
      show (e.2.1 :: e.1 :: List.flatMap _ es).Perm (e.2.1 :: (_ ++ (e.1 :: _)))
      exact (((ih.cons e.1).trans List.perm_middle.symm)).cons e.2.1
    · rw [if_pos h1, if_neg h2, List.filter_cons_of_pos (by simpa using h1), List.filter_cons_of_neg (by simpa using h2)]
      exact ih.cons e.2.1
    · rw [if_neg h1, if_pos h2, List.filter_cons_of_neg (by simpa using h1), List.filter_cons_of_pos (by simpa using h2)]
      exact (ih.cons e.1).trans List.perm_middle.symm
    · rw [if_neg h1, if_neg h2, List.filter_cons_of_neg (by simpa using h1), List.filter_cons_of_neg (by simpa using h2)]
      exact ih
theorem nbE_len (v : Int) (e : Ed) : (nbE v e).length ≤ 2 := by
  unfold nbE
  split <;> split <;> simp
theorem sum_le2 {f : Ed → Nat} (h : ∀ e, f e ≤ 2) : ∀ {l : List Ed}, (l.map f).sum ≤ 2 * l.length
  | [] => Nat.le_refl 0
  | e :: l => by
    have := h e
    have := sum_le2 h (l := l)
    rw [List.map_cons, List.sum_cons, List.length_cons]
    omega
/-- two ordered lists with the same numbers are one -/
theorem sorted_eq : ∀ {a b : List Int}, a.Perm b → a.Pairwise (· ≤ ·) → b.Pairwise (· ≤ ·) → a = b
  | [], b, p, _, _ => (List.Perm.eq_nil p.symm).symm
  | x :: a, [], p, _, _ => by
    have := p.length_eq
    simp at this
  | x :: a, y :: b, p, h1, h2 => by
    have h1' := List.pairwise_cons.mp h1
    have h2' := List.pairwise_cons.mp h2
    have mx : x ∈ y :: b := p.mem_iff.mp List.mem_cons_self
    have my : y ∈ x :: a := p.mem_iff.mpr List.mem_cons_self
    have e : x = y := by
      rcases List.mem_cons.mp mx with z | z
      · exact z
      · rcases List.mem_cons.mp my with w | w
        · exact w.symm
        · have := h1'.1 y w
          have := h2'.1 x z
          omega
    subst e
    rw [sorted_eq (List.Perm.cons_inv p) h1'.2 h2'.2]
end Tr

/-! ### A7. What repr and == ask of data: tuples of numbers -/
namespace Tr
open PySem PySem.Spec PyProof.Rows L2
mutual
def numD : PyData → Bool
  | .none => true
  | .bool _ => true
  | .int i => decide (i.natAbs.log2 < 1920)
  | .tuple xs => numA xs
  | _ => false
def numA : List PyData → Bool
  | [] => true
  | x :: xs => numD x && numA xs
end
mutual
def nodes : PyData → Nat
  | .tuple xs => 1 + nodesA xs
  | _ => 1
def nodesA : List PyData → Nat
  | [] => 0
  | x :: xs => nodes x + nodesA xs
end
theorem tup_len (ts : List Str) : (tupleText ts).length ≤ piled ts + 3 := by
  have e1 : (Str.ofString "(").length = 1 := by decide
  have e2 : (Str.ofString ",)").length = 2 := by decide
  have e3 : (Str.ofString ")").length = 1 := by decide
  have j : (Str.join ", " ts).length ≤ piled ts := by
    cases ts with
    | nil => decide
    | cons x r =>
      have := join_length_add (x :: r) (by simp)
      omega
  unfold tupleText
  rw [Str.length_append, Str.length_append, e1]
  split
  · rw [e2]; omega
  · rw [e3]; omega
mutual
theorem shown_le : ∀ d : PyData, numD d = true → d.shown.length + 5 ≤ 1935 * nodes d
  | .none, _ => by
    have e : (Str.ofString "None").length = 4 := by decide
    show (Str.ofString "None").length + 5 ≤ 1935 * 1
    omega
  | .bool b, _ => by
    have e : (Str.ofString "True").length = 4 := by decide
    have e' : (Str.ofString "False").length = 5 := by decide
    cases b
    · show (Str.ofString "False").length + 5 ≤ 1935 * 1
      omega
    · show (Str.ofString "True").length + 5 ≤ 1935 * 1
      omega
  | .int i, h => by
    have := int_text_len_1921 (i := i) (of_decide_eq_true h)
    show (Str.ofString (toString i)).length + 5 ≤ 1935 * 1
    omega
  | .tuple xs, h => by
    have := shownA_le xs h
    have t := tup_len (PyData.shownAll xs)
    show (tupleText (PyData.shownAll xs)).length + 5 ≤ 1935 * (1 + nodesA xs)
    omega
  | .str _, h => by cases h
  | .list _, h => by cases h
  | .dict _, h => by cases h
theorem shownA_le : ∀ xs : List PyData, numA xs = true → piled (PyData.shownAll xs) ≤ 1935 * nodesA xs
  | [], _ => Nat.le_refl 0
  | x :: xs, h => by
    have h' : numD x = true ∧ numA xs = true := by
      have : (numD x && numA xs) = true := h
      rwa [Bool.and_eq_true] at this
    have a := shown_le x h'.1
    have b := shownA_le xs h'.2
    show piled (x.shown :: PyData.shownAll xs) ≤ 1935 * (nodes x + nodesA xs)
    rw [piled_cons]
    omega
end
mutual
theorem num_facts : ∀ d : PyData, numD d = true → d.showable = true ∧ d.hasDict = false ∧ d.canLay0 = true
  | .none, _ => ⟨rfl, rfl, rfl⟩
  | .bool _, _ => ⟨rfl, rfl, rfl⟩
  | .int i, h => ⟨h, rfl, rfl⟩
  | .tuple xs, h => numA_facts xs h
  | .str _, h => by cases h
  | .list _, h => by cases h
  | .dict _, h => by cases h
theorem numA_facts : ∀ xs : List PyData, numA xs = true → PyData.showableAll xs = true ∧ PyData.hasDictAll xs = false ∧ PyData.canLayAll0 xs = true
  | [], _ => ⟨rfl, rfl, rfl⟩
  | x :: xs, h => by
    have h' : numD x = true ∧ numA xs = true := by
      have : (numD x && numA xs) = true := h
      rwa [Bool.and_eq_true] at this
    obtain ⟨a1, a2, a3⟩ := num_facts x h'.1
    obtain ⟨b1, b2, b3⟩ := numA_facts xs h'.2
    exact ⟨by show (x.showable && PyData.showableAll xs) = true; rw [a1, b1]; rfl, by show (x.hasDict || PyData.hasDictAll xs) = false; rw [a2, b2]; rfl, by show (x.canLay0 && PyData.canLayAll0 xs) = true; rw [a3, b3]; rfl⟩
end
theorem numA_map {α : Type} {f : α → PyData} : ∀ {l : List α}, (∀ x ∈ l, numD (f x) = true) → numA (l.map f) = true
  | [], _ => rfl
  | a :: l, h => by
    show (numD (f a) && numA (l.map f)) = true
    rw [h a List.mem_cons_self, numA_map fun x hx => h x (List.mem_cons_of_mem _ hx)]
    rfl
theorem nodesA_map {α : Type} {f : α → PyData} {k : Nat} : ∀ {l : List α}, (∀ x ∈ l, nodes (f x) ≤ k) → nodesA (l.map f) ≤ k * l.length
  | [], _ => Nat.le_refl 0
  | a :: l, h => by
    have := h a List.mem_cons_self
    have := nodesA_map (l := l) fun x hx => h x (List.mem_cons_of_mem _ hx)
    show nodes (f a) + nodesA (l.map f) ≤ k * (l.length + 1)
    rw [Nat.mul_add]
    omega
theorem depthA_map {α : Type} {f : α → PyData} {k : Nat} : ∀ {l : List α}, (∀ x ∈ l, (f x).depth ≤ k) → PyData.depthAll (l.map f) ≤ k
  | [], _ => Nat.zero_le _
  | a :: l, h => Nat.max_le.mpr ⟨h a List.mem_cons_self, depthA_map fun x hx => h x (List.mem_cons_of_mem _ hx)⟩
/-- a number that may be shown -/
theorem log_small {i : Int} (h0 : 0 ≤ i) (h1 : i < 2 ^ 64) : i.natAbs.log2 < 1920 := by
  have h : i.natAbs < 2 ^ 64 := by omega
  by_cases z : i.natAbs = 0
  · rw [z]; decide
  · have := (Nat.log2_lt z).mpr h
    omega
def EdSh (e : Ed) : Prop := (0 ≤ e.1 ∧ e.1 < 2 ^ 64) ∧ (0 ≤ e.2.1 ∧ e.2.1 < 2 ^ 64) ∧ (0 ≤ e.2.2 ∧ e.2.2 < 2 ^ 64)
theorem edD_num {e : Ed} (h : EdSh e) : numD (edD e) = true := by
  show (decide (e.1.natAbs.log2 < 1920) && (decide (e.2.1.natAbs.log2 < 1920) && (decide (e.2.2.natAbs.log2 < 1920) && true))) = true
  rw [decide_eq_true (log_small h.1.1 h.1.2), decide_eq_true (log_small h.2.1.1 h.2.1.2), decide_eq_true (log_small h.2.2.1 h.2.2.2)]
  rfl
theorem trD_num {n : Nat} {es : List Ed} (hn : n < 2 ^ 64) (h : ∀ e ∈ es, EdSh e) : numD (trD n es) = true := by
  show (decide ((n : Int).natAbs.log2 < 1920) && (numA (es.map edD) && true)) = true
  rw [decide_eq_true (log_small (i := (n : Int)) (by omega) (by omega)), numA_map fun e he => edD_num (h e he)]
  rfl
theorem trD_depth {n : Nat} {es : List Ed} : (trD n es).depth ≤ 3 := by
  show max 0 (max (PyData.depthAll (es.map edD) + 1) 0) + 1 ≤ 3
  have : PyData.depthAll (es.map edD) ≤ 1 := depthA_map fun e _ => Nat.le_refl 1
  omega
theorem trD_nodes {n : Nat} {es : List Ed} : nodes (trD n es) ≤ 3 + 4 * es.length := by
  show 1 + (1 + ((1 + nodesA (es.map edD)) + 0)) ≤ _
  have : nodesA (es.map edD) ≤ 4 * es.length := nodesA_map fun e _ => Nat.le_refl 4
  omega
/-- what repr of data asks -/
def Shw (d : PyData) : Prop := isDisplay d = true ∧ d.showable = true ∧ d.hasDict = false ∧ d.depth ≤ 60 ∧ d.shown.length ≤ sizeLine
theorem shw_tree {n : Nat} {es : List Ed} (hn : n < 2 ^ 64) (he : ∀ e ∈ es, EdSh e) (hl : es.length ≤ 1000) : Shw (trD n es) := by
  have num := trD_num hn he
  obtain ⟨a1, a2, a3⟩ := num_facts _ num
  have sz := shown_le _ num
  have nd := trD_nodes (n := n) (es := es)
  have z : sizeLine = 16777216 := sizeLine_eq
  have dp := trD_depth (n := n) (es := es)
  exact ⟨rfl, a1, a2, by omega, by omega⟩
theorem shaped_of {d : PyData} (h : numD d = true) (hd : d.depth ≤ 64) : SeqAt.shaped d = true := by
  show (d.canLay0 && decide (d.depth ≤ 64)) = true
  rw [(num_facts d h).2.2, decide_eq_true hd]
  rfl
theorem shaped_list {ds : List PyData} (h : numA ds = true) (hd : PyData.depthAll ds ≤ 63) : SeqAt.shaped (.list ds) = true := by
  have e : decide ((PyData.list ds).depth ≤ 64) = true := decide_eq_true (by show PyData.depthAll ds + 1 ≤ 64; omega)
  show (PyData.canLayAll0 ds && decide ((PyData.list ds).depth ≤ 64)) = true
  rw [(numA_facts ds h).2.2, e]
  rfl
/-- a tree that the law holds in hand -/
structure GoodT (H : Hp) (t : Addr) (n : Nat) (es : List Ed) : Prop where
  tr : TrAt H t n es
  len : es.length ≤ 15
  n1 : 1 ≤ n
  n16 : n ≤ 16
  sh : ∀ e ∈ es, EdSh e
theorem GoodT.same {H H' : Hp} {t : Addr} {n : Nat} {es : List Ed} (g : GoodT H t n es) (s : Same H H') : GoodT H' t n es := ⟨g.tr.same s, g.len, g.n1, g.n16, g.sh⟩
theorem GoodT.kp {H H' : Hp} {d c r t : Addr} {N n : Nat} {es : List Ed} (g : GoodT H t n es) (D : Dn d c r N H) (k : Kp d r H H') : GoodT H' t n es := ⟨g.tr.kp D k, g.len, g.n1, g.n16, g.sh⟩
theorem GoodT.of {H : Hp} {t : Addr} {n : Nat} {es : List Ed} (t1 : IsTree n es) (h : n ≤ 16) (tr : TrAt H t n es) : GoodT H t n es := by
  refine ⟨tr, ?_, t1.pos, h, fun e he => ?_⟩
  · have := t1.len
    omega
  · obtain ⟨a, b, c, d1, d2⟩ := t1.edge e he
    exact ⟨⟨a, by omega⟩, ⟨by omega, by omega⟩, ⟨by omega, by omega⟩⟩
theorem GoodT.shw {H : Hp} {t : Addr} {n : Nat} {es : List Ed} (g : GoodT H t n es) : Shw (trD n es) := shw_tree (by have := g.n16; omega) g.sh (by have := g.len; omega)
theorem EdsAt.set {H : Hp} {as : List Addr} {es : List Ed} (h : EdsAt H as es) {a : Addr} {e : Ed} (j : Nat) (ha : H a = edO e) : EdsAt H (as.set j a) (es.set j e) := by
  unfold EdsAt
  rw [List.map_set, List.map_set, h, ha]
theorem iteNT {A B : Prop} (h : B) : if (!true) = true then A else B := by
  rw [if_neg (by decide)]
  exact h
theorem mem_set {α : Type} {l : List α} {j : Nat} {a x : α} (h : x ∈ l.set j a) : x ∈ l ∨ x = a := List.mem_or_eq_of_mem_set h
theorem dps_ints {K : PySem.W.Frag} {H : Hp} : ∀ l : List Int, DpAll K H (l.map V.int) (l.map PyData.int)
  | [] => .nil
  | a :: l => .cons (.int a) (dps_ints l)
theorem okd_ints {l : List Int} (h : l.length ≤ 1000) : okd 2 (.tuple (l.map PyData.int)) = true := by
  show (decide ((l.map PyData.int).length ≤ 1000) && (l.map PyData.int).all (okd 1)) = true
  rw [decide_eq_true (by rw [List.length_map]; exact h), Bool.true_and, List.all_eq_true]
  intro d hd
  obtain ⟨i, _, rfl⟩ := List.mem_map.mp hd
  rfl
theorem nbrs_len (es : List Ed) (v : Int) : (nbrs es v).length ≤ 2 * es.length := by
  unfold nbrs
  rw [List.length_flatMap]
  exact sum_le2 fun e => nbE_len v e
end Tr

/-! ### A18. Needs: of keys, of branches -/
namespace Tr
open PySem PySem.Spec PyProof.Rows L2
/-- the calls with these keys can begin at different times, each at T less its key at the latest -/
def Enough (ks : List Int) (T : Int) : Prop := 0 ≤ T ∧ ∀ i : Nat, (ks.filter fun k => decide (T < k + (i : Int))).length ≤ i
theorem Enough.perm {ks ls : List Int} (p : ks.Perm ls) {T : Int} (h : Enough ks T) : Enough ls T := ⟨h.1, fun i => (p.filter _).length_eq ▸ h.2 i⟩
theorem Enough.mono {ks : List Int} {T S : Int} (h : Enough ks T) (le : T ≤ S) : Enough ks S := by
  refine ⟨by have := h.1; omega, fun i => Nat.le_trans ?_ (h.2 i)⟩
  have : (fun k : Int => decide (S < k + (i : Int))) = fun k => decide (S < k + (i : Int)) && decide (T < k + (i : Int)) := funext fun k => by
    by_cases c : S < k + (i : Int)
    · rw [decide_eq_true c, decide_eq_true (show T < k + (i : Int) by omega)]
      rfl
    · rw [decide_eq_false c]
      rfl
  rw [this, ← List.filter_filter]
  exact List.length_filter_le _ _
/-- calls in this order from time i on, without waiting: when all is done -/
def endK : Int → List Int → Int
  | _, [] => 0
  | i, k :: ks => max (i + k) (endK (i + 1) ks)
theorem endK_nonneg : ∀ (i : Int) (ks : List Int), 0 ≤ endK i ks
  | _, [] => Int.le_refl 0
  | i, k :: ks => Int.le_trans (endK_nonneg (i + 1) ks) (Int.le_max_right _ _)
theorem endK_le {T : Int} : ∀ {ks : List Int} {i : Int}, endK i ks ≤ T ↔ 0 ≤ T ∧ ∀ (j : Nat) (k : Int), ks[j]? = some k → i + (j : Int) + k ≤ T
  | [], i => by
    constructor
    · intro h
      exact ⟨h, fun j k e => by simp at e⟩
    · exact fun h => h.1
  | a :: ks, i => by
    show max (i + a) (endK (i + 1) ks) ≤ T ↔ _
    rw [Int.max_le, endK_le (ks := ks)]
    constructor
    · rintro ⟨h1, h2, h3⟩
      refine ⟨h2, fun j k e => ?_⟩
      cases j with
      | zero =>
        have : a = k := by simpa using e
        rw [← this]
        simpa using h1
      | succ j =>
        have := h3 j k (by simpa using e)
        omega
    · rintro ⟨h1, h2⟩
      refine ⟨by simpa using h2 0 a rfl, h1, fun j k e => ?_⟩
      have := h2 (j + 1) k (by simpa using e)
      omega
/-- any order that is done by T shows that T is enough -/
theorem enough_of_order {T : Int} {ks : List Int} (h : endK 0 ks ≤ T) : Enough ks T := by
  obtain ⟨h0, h⟩ := endK_le.mp h
  refine ⟨h0, fun i => ?_⟩
  have key : ∀ (ks : List Int) (m : Nat), (∀ (j : Nat) (k : Int), ks[j]? = some k → (m : Int) + (j : Int) + k ≤ T) → (ks.filter fun k => decide (T < k + (i : Int))).length ≤ i - m := by
    intro ks
    induction ks with
    | nil => intro m _; exact Nat.zero_le _
    | cons a ks ih =>
      intro m h
      have h0 := h 0 a rfl
      have ih := ih (m + 1) fun j k e => by
        have := h (j + 1) k (by simpa using e)
        omega
      by_cases c : T < a + (i : Int)
      · rw [List.filter_cons_of_pos (by simpa using c), List.length_cons]
        omega
      · rw [List.filter_cons_of_neg (by simpa using c)]
        omega
  have := key ks 0 fun j k e => by
    have := h j k e
    omega
  omega
/-- the greatest key first: no order is done sooner -/
theorem order_of_enough {T : Int} {ks : List Int} (so : ks.Pairwise (· ≥ ·)) (h : Enough ks T) : endK 0 ks ≤ T := by
  refine endK_le.mpr ⟨h.1, fun j k e => Decidable.byContradiction fun c => ?_⟩
  have hj : j < ks.length := (List.getElem?_eq_some_iff.mp e).1
  have many : j + 1 ≤ (ks.filter fun k => decide (T < k + (j : Int))).length := by
    have sub : (ks.take (j + 1)).filter (fun k => decide (T < k + (j : Int))) = ks.take (j + 1) := by
      refine List.filter_eq_self.mpr fun x hx => ?_
      obtain ⟨m, hm⟩ := List.mem_iff_getElem?.mp hx
      have hmj : m < j + 1 := by
        have := (List.getElem?_eq_some_iff.mp hm).1
        rw [List.length_take] at this
        omega
      rw [List.getElem?_take_of_lt hmj] at hm
      have ge : x ≥ k := by
        by_cases e2 : m = j
        · rw [e2, e] at hm
          have : k = x := by simpa using hm
          omega
        · obtain ⟨l1, g1⟩ := List.getElem?_eq_some_iff.mp hm
          obtain ⟨l2, g2⟩ := List.getElem?_eq_some_iff.mp e
          have := List.pairwise_iff_getElem.mp so m j l1 l2 (by omega)
          rw [g1, g2] at this
          exact this
      exact decide_eq_true (by omega)
    have len : (ks.take (j + 1)).length = j + 1 := by rw [List.length_take]; omega
    have split : ks.filter (fun k => decide (T < k + (j : Int))) = (ks.take (j + 1)).filter (fun k => decide (T < k + (j : Int))) ++ (ks.drop (j + 1)).filter (fun k => decide (T < k + (j : Int))) := by
      rw [← List.filter_append, List.take_append_drop]
    rw [split, sub, List.length_append, len]
    omega
  have := h.2 j
  omega
/-- sorted, the greatest first -/
def descK (ks : List Int) : List Int := ks.mergeSort fun a b => decide (b ≤ a)
theorem descK_perm (ks : List Int) : (descK ks).Perm ks := List.mergeSort_perm ..
theorem descK_sorted (ks : List Int) : (descK ks).Pairwise (· ≥ ·) := by
  have := List.pairwise_mergeSort (le := fun a b : Int => decide (b ≤ a)) (fun a b c h1 h2 => by simp at *; omega) (fun a b => by simp; omega) ks
  exact this.imp fun h => by simpa using h
/-- the need of these keys -/
def needK (ks : List Int) : Int := endK 0 (descK ks)
theorem needK_le {ks : List Int} {T : Int} : needK ks ≤ T ↔ Enough ks T :=
  ⟨fun h => (enough_of_order h).perm (descK_perm ks), fun h => order_of_enough (descK_sorted ks) (h.perm (descK_perm ks).symm)⟩
theorem needK_enough (ks : List Int) : Enough ks (needK ks) := needK_le.mp (Int.le_refl _)
theorem needK_nonneg (ks : List Int) : 0 ≤ needK ks := endK_nonneg _ _
theorem needK_perm {ks ls : List Int} (p : ks.Perm ls) : needK ks = needK ls :=
  Int.le_antisymm (needK_le.mpr ((needK_enough ls).perm p.symm)) (needK_le.mpr ((needK_enough ks).perm p))
/-- in any order it takes at least the need; greatest first it takes just the need -/
theorem needK_order {ks ls : List Int} (p : ls.Perm ks) : needK ks ≤ endK 0 ls := needK_le.mpr ((enough_of_order (Int.le_refl _)).perm p)
theorem needK_desc {ks ls : List Int} (p : ls.Perm ks) (so : ls.Pairwise (· ≥ ·)) : endK 0 ls = needK ks :=
  Int.le_antisymm (order_of_enough so ((needK_enough ks).perm p.symm)) (needK_order p)
theorem needK_nil : needK [] = 0 := Int.le_antisymm (needK_le.mpr ⟨Int.le_refl 0, fun i => Nat.zero_le i⟩) (needK_nonneg _)
/-- one more key -/
theorem enough_cons {k : Int} {ks : List Int} {T : Int} (h : Enough (k :: ks) T) : Enough ks T ∧ k ≤ T := by
  constructor
  · refine ⟨h.1, fun i => Nat.le_trans ?_ (h.2 i)⟩
    by_cases c : T < k + (i : Int)
    · rw [List.filter_cons_of_pos (by simpa using c), List.length_cons]
      omega
    · rw [List.filter_cons_of_neg (by simpa using c)]
      omega
  · have := h.2 0
    by_cases c : T < k
    · rw [List.filter_cons_of_pos (by simpa using c), List.length_cons] at this
      omega
    · omega
theorem needK_cons_ge (k : Int) (ks : List Int) : needK ks ≤ needK (k :: ks) ∧ k ≤ needK (k :: ks) :=
  let h := enough_cons (needK_enough (k :: ks))
  ⟨needK_le.mpr h.1, h.2⟩
theorem needK_cons_le (k : Int) (ks : List Int) : needK (k :: ks) ≤ max k (needK ks + 1) := by
  refine needK_le.mpr ⟨Int.le_trans (needK_nonneg ks) (by omega), fun i => ?_⟩
  have h := (needK_enough ks).2
  cases i with
  | zero =>
    have e : (k :: ks).filter (fun x => decide (max k (needK ks + 1) < x + ((0 : Nat) : Int))) = [] := by
      refine List.filter_eq_nil_iff.mpr fun x hx => ?_
      have : x ≤ max k (needK ks + 1) := by
        rcases List.mem_cons.mp hx with e | hx
        · omega
        · have := h 0
          have n0 : x ≤ needK ks := Decidable.byContradiction fun c => by
            have : x ∈ ks.filter fun k => decide (needK ks < k + ((0 : Nat) : Int)) := List.mem_filter.mpr ⟨hx, decide_eq_true (by show needK ks < x + (0 : Int); omega)⟩
            have := List.length_pos_of_mem this
            omega
          omega
      simp
      omega
    rw [e]
    exact Nat.le_refl 0
  | succ i =>
    have one : ((k :: ks).filter fun x => decide (max k (needK ks + 1) < x + ((i + 1 : Nat) : Int))).length ≤ (ks.filter fun x => decide (needK ks < x + (i : Int))).length + 1 := by
      have sub : (ks.filter fun x => decide (max k (needK ks + 1) < x + ((i + 1 : Nat) : Int))).length ≤ (ks.filter fun x => decide (needK ks < x + (i : Int))).length := by
        have : (fun x : Int => decide (max k (needK ks + 1) < x + ((i + 1 : Nat) : Int))) = fun x => decide (max k (needK ks + 1) < x + ((i + 1 : Nat) : Int)) && decide (needK ks < x + (i : Int)) := funext fun x => by
          by_cases c : max k (needK ks + 1) < x + ((i + 1 : Nat) : Int)
          · rw [decide_eq_true c, decide_eq_true (show needK ks < x + (i : Int) by omega)]
            rfl
          · rw [decide_eq_false c]
            rfl
        rw [this, ← List.filter_filter]
        exact List.length_filter_le _ _
      by_cases c : max k (needK ks + 1) < k + ((i + 1 : Nat) : Int)
      · rw [List.filter_cons_of_pos (by simpa using c), List.length_cons]
        omega
      · rw [List.filter_cons_of_neg (by simpa using c)]
        omega
    exact Nat.le_trans one (by have := h i; omega)
/-- greater keys need no less; keys greater by at most d need at most d more -/
theorem needK_mono {f g : Int → Int} {ws : List Int} (h : ∀ w ∈ ws, f w ≤ g w) : needK (ws.map f) ≤ needK (ws.map g) := by
  refine needK_le.mpr ⟨needK_nonneg _, fun i => Nat.le_trans ?_ ((needK_enough (ws.map g)).2 i)⟩
  generalize needK (ws.map g) = T
  induction ws with
  | nil => exact Nat.le_refl _
  | cons w ws ih =>
    have ih := ih fun x hx => h x (List.mem_cons_of_mem _ hx)
    have hw := h w List.mem_cons_self
    rw [List.map_cons, List.map_cons]
    by_cases c : T < f w + (i : Int)
    · rw [List.filter_cons_of_pos (by simpa using c), List.filter_cons_of_pos (by simp; omega), List.length_cons, List.length_cons]
      omega
    · rw [List.filter_cons_of_neg (by simpa using c)]
      by_cases c2 : T < g w + (i : Int)
      · rw [List.filter_cons_of_pos (by simpa using c2), List.length_cons]
        omega
      · rw [List.filter_cons_of_neg (by simpa using c2)]
        exact ih
theorem needK_shift {d : Int} (d0 : 0 ≤ d) (ks : List Int) : needK (ks.map fun k => k + d) ≤ needK ks + d := by
  refine needK_le.mpr ⟨by have := needK_nonneg ks; omega, fun i => ?_⟩
  rw [List.filter_map, List.length_map]
  have e : ((fun k => decide (needK ks + d < k + (i : Int))) ∘ fun k => k + d) = fun k => decide (needK ks < k + (i : Int)) := funext fun k => by
    show decide (needK ks + d < k + d + (i : Int)) = _
    exact decide_eq_decide.mpr ⟨fun h => by omega, fun h => by omega⟩
  rw [e]
  exact (needK_enough ks).2 i
end Tr

/-! ### A24. When calls end; halving -/
namespace Tr
open PySem PySem.Spec PyProof.Rows L2
/-- each key at its place -/
def endsL (ds : List Int) : List Int := ds.mapIdx fun j k => k + (j : Int)
theorem endsL_len (ds : List Int) : (endsL ds).length = ds.length := List.length_mapIdx
theorem endsL_at {ds : List Int} {i : Nat} {k : Int} (h : ds[i]? = some k) : (endsL ds)[i]? = some (k + (i : Int)) := by
  unfold endsL
  rw [List.getElem?_mapIdx, h]
  rfl
theorem endsL_step {ds : List Int} {i : Nat} {k : Int} (h : ds[i]? = some k) : (endsL ds).take (i + 1) = (endsL ds).take i ++ [k + (i : Int)] := by
  rw [List.take_add_one, endsL_at h]
  rfl
theorem mem_endsL {ds : List Int} {x : Int} : x ∈ endsL ds ↔ ∃ (i : Nat) (k : Int), ds[i]? = some k ∧ x = k + (i : Int) := by
  constructor
  · intro h
    obtain ⟨i, hi⟩ := List.mem_iff_getElem?.mp h
    unfold endsL at hi
    rw [List.getElem?_mapIdx] at hi
    obtain ⟨k, hk, rfl⟩ := Option.map_eq_some_iff.mp hi
    exact ⟨i, k, hk, rfl⟩
  · rintro ⟨i, k, h, rfl⟩
    exact List.mem_of_getElem? (endsL_at h)
theorem endsL_le {ds : List Int} : ∀ x ∈ endsL ds, x ≤ endK 0 ds := by
  intro x hx
  obtain ⟨i, k, h, rfl⟩ := mem_endsL.mp hx
  have := (endK_le.mp (Int.le_refl (endK 0 ds))).2 i k h
  omega
theorem endsL_max {ds : List Int} {m : Int} (h0 : 0 ≤ m) (h1 : m = 0 ∨ m ∈ endsL ds) (h2 : ∀ y ∈ endsL ds, y ≤ m) : m = endK 0 ds := by
  refine Int.le_antisymm ?_ (endK_le.mpr ⟨h0, fun j k e => ?_⟩)
  · rcases h1 with rfl | h1
    · exact endK_nonneg _ _
    · exact endsL_le m h1
  · have := h2 _ (List.mem_of_getElem? (endsL_at e))
    omega
/-- sorted upwards, read from the end -/
theorem desc_rev {ks ls : List Int} (p : ls.Perm ks) (so : ls.Pairwise (· ≤ ·)) : endK 0 ls.reverse = needK ks :=
  needK_desc ((List.reverse_perm ls).trans p) (List.pairwise_reverse.mpr so)
theorem needK_snoc (ks : List Int) (k : Int) : needK (ks ++ [k]) = needK (k :: ks) := needK_perm (List.perm_append_comm)
theorem needK_snoc_mono {ks : List Int} {k l : Int} (h : k ≤ l) : needK (k :: ks) ≤ needK (l :: ks) := by
  refine needK_le.mpr ⟨needK_nonneg _, fun i => Nat.le_trans ?_ ((needK_enough (l :: ks)).2 i)⟩
  generalize needK (l :: ks) = T
  by_cases c : T < k + (i : Int)
  · rw [List.filter_cons_of_pos (by simpa using c), List.filter_cons_of_pos (by simp; omega), List.length_cons, List.length_cons]
    omega
  · rw [List.filter_cons_of_neg (by simpa using c)]
    by_cases c2 : T < l + (i : Int)
    · rw [List.filter_cons_of_pos (by simpa using c2), List.length_cons]
      omega
    · rw [List.filter_cons_of_neg (by simpa using c2)]
      exact Nat.le_refl _
/-- a spare: no further key up to it changes the need, each greater one does -/
def IsSpare (ks : List Int) (q : Int) : Prop := 0 ≤ q ∧ (∀ k, 1 ≤ k → k ≤ q → needK (k :: ks) = needK ks) ∧ ∀ k, q < k → needK (k :: ks) = max (needK ks + 1) k
theorem isSpare_of {ks : List Int} {q : Int} (h0 : 0 ≤ q) (h1 : q = 0 ∨ needK (q :: ks) = needK ks) (h2 : needK ((q + 1) :: ks) ≠ needK ks) : IsSpare ks q := by
  refine ⟨h0, fun k k1 kq => ?_, fun k kq => ?_⟩
  · rcases h1 with z | h1
    · omega
    · exact Int.le_antisymm (h1 ▸ needK_snoc_mono kq) (needK_cons_ge k ks).1
  · have a := needK_snoc_mono (ks := ks) (show q + 1 ≤ k by omega)
    have b := (needK_cons_ge (q + 1) ks).1
    have c := (needK_cons_ge k ks).2
    have d := needK_cons_le k ks
    omega
theorem Kp.updNew {d r Z : Addr} {H H2 H' : Hp} {o : HO} (k : Kp d r H H2) (nZ : H2 Z = none) (k' : Kp d r H H') : Kp d r H (upd H' Z o) := fun b u e n1 n2 => by
  refine (upd_ne ?_).trans (k' b u e n1 n2)
  rintro rfl
  have := k b u e n1 n2
  rw [nZ] at this
  cases this
theorem ite_dec {c A B : Prop} [Decidable c] (h1 : c → A) (h2 : ¬ c → B) : if (decide c) = true then A else B := by
  by_cases h : c
  · rw [decide_eq_true h]
    exact h1 h
  · rw [decide_eq_false h]
    exact h2 h
theorem jnd_eq {n s k : Int} : (if k ≤ s then n else mxI (n + 1) k) = if k ≤ s then n else max (n + 1) k := by
  unfold mxI
  split
  · rfl
  · split <;> omega
theorem spare_joined {ks : List Int} {q k : Int} (h : IsSpare ks q) (k1 : 1 ≤ k) : (if k ≤ q then needK ks else mxI (needK ks + 1) k) = needK (ks ++ [k]) := by
  rw [jnd_eq, needK_snoc]
  by_cases c : k ≤ q
  · rw [if_pos c, h.2.1 k k1 c]
  · rw [if_neg c, h.2.2 k (by omega)]
theorem mid2 {a b : Int} (h : 1 < b - a) : a < (a + b) / 2 ∧ (a + b) / 2 < b := by omega
end Tr

namespace Tr
open PySem
def topS (i : Nat) : Stmt := PySem.Challenge.pw_tellrounds_k48_joined_needs.main.body.getD i (.Pass ⟨0, 0, 0, 0⟩)
end Tr

namespace Tr
open PySem PySem.Spec PyProof.Rows L2
abbrev s_law_next : Stmt := topS 4
theorem sc_law_next : FnScope ["_law_drawn", "_law_many", "_law_cells", "_law_turn", "_law_rests", "_law_spot", "_law_digit", "_law_mixed", "_law_again"] ["_law_drawn", "_law_many"] (defScope s_law_next) := ⟨rfl, rfl, rfl, by decide +kernel, rfl, by decide +kernel, by decide +kernel⟩
section
variable {P : Program} {w : World} {K : PySem.W.Frag} {mg : Str → Option Value} {base : Heap}
theorem ok_law_next (bt : Bt mg) {f : Addr} {fd : FuncData} (F : Fun K "_law_next" "_law_next" s_law_next f fd) : FnG P w K mg base CX0 1 f fd ["_law_drawn", "_law_many"] sp_law_next := by
  refine fnG F sc_law_next (fun vs H Q E h => ?_) (fun cdv A outer s H vs Q E hr gg h => ?_)
  · obtain ⟨d, c, r, N, m, rfl, _⟩ := h
    rfl
  obtain ⟨d, c, r, N, m, rfl, ⟨n, hn, D⟩, hN, hm0, hm1, q⟩ := h
  obtain ⟨cs, rs, hc, hrs, hl, hl0, hl1⟩ := D.hc
  refine ⟨_, (pss_cons (ps_asg (pv 0) (pg_unl rfl (pgs_cons (pg_name (i := 2) sc_law_next.nd rfl (.inl rfl)) (pgs_cons (pg_name (i := 3) sc_law_next.nd rfl (.inl rfl)) (pgs_cons (pg_name (i := 4) sc_law_next.nd rfl (.inl rfl)) pgs_nil)))))
      (pss_cons (ps_set (i := 5) sc_law_next.nd rfl (.inl rfl) (pe_op (op_modN) (pv 3) (pe_callB (call_len_seq) (by rfl) bt.len bb_len (pa_cons (pv 2) pa_nil))))
      (pss_cons (ps_asg (pe_op (op_add) (pv 3) pe_int) (pg_sub (pv 0) pe_int set_list))
      (pss_cons (ps_if (pt_cmpR (op_gt) (pe_ix ix_list (pv 4) (pv 5) (fun _ _ => rfl)) pe_int (nomark _)) (pss_cons (ps_set (i := 6) sc_law_next.nd rfl (.inl rfl) (pe_op (op_modN) (pe_ix ix_list (pv 4) (pv 5) (fun _ _ => rfl)) (pv 1)))
      (pss_cons (ps_asg (pe_op (op_fdivW) (pe_ix ix_list (pv 4) (pv 5) (fun _ _ => rfl)) (pv 1)) (pg_sub (pv 4) (pv 5) set_list))
      (pss_one (ps_ret (pv 6))))) pss_nil)
      (pss_cons (ps_set (i := 7) sc_law_next.nd rfl (.inl rfl) (pe_op (op_modN) (pe_op (op_pow) (pe_op (op_add) (pe_op (op_add) (pe_op (op_modN) (pe_ix ix_list (pv 2) (pv 5) (fun _ _ => rfl)) pe_int) (pe_op (op_mul) pe_int (pv 3))) pe_int) pe_int) pe_int))
      (pss_cons (ps_set (i := 8) sc_law_next.nd rfl (.inl rfl) (pe_op (op_modN) (pe_op (op_pow) (pe_op (op_add) (pe_op (op_add) (pv 7) (pe_op (op_mul) (pe_op (op_mul) pe_int (pv 3)) (pv 3))) pe_int) pe_int) pe_int))
      (pss_one (ps_ret (pe_op (op_modN) (pe_op (op_modN) (pe_op (op_add) (pe_op (op_mul) (pv 8) pe_int) (pv 7)) pe_int) (pv 1)))))))))), ?_⟩
  have sqd : SqL K H d [.ref c, .int n, .ref r] := SqL.of D.hd
  have sqc : SqL K H c (cs.map V.int) := SqL.of hc
  refine ⟨_, rfl, d, _, rfl, sqd, rfl, _, _, rfl, _, _, rfl, _, _, rfl, rfl, ?_⟩
  -- spot = turn % len(cells)
  have hlc : (cs.map V.int).length = cs.length := List.length_map _
  refine ⟨_, rfl, _, rfl, c, _, rfl, .inl sqc, _, _, rfl, rfl, by rw [hlc]; omega, ?_⟩
  obtain ⟨k0, k1⟩ := fmod_bounds (a := (n : Int)) (b := (((cs.map V.int).length : Nat) : Int)) (by rw [hlc]; omega)
  have k2 : (n : Int).fmod (((cs.map V.int).length : Nat) : Int) < (cs.length : Int) := by rw [← hlc]; exact k1
  -- drawn[1] = turn + 1
  have D1 : Dr (upd H d (.lst [.ref c, .int ((n : Int) + 1), .ref r])) d c r (n + 1) :=
    ⟨upd_same, ⟨cs, rs, (upd_ne D.cd).trans hc, (upd_ne D.rd).trans hrs, hl, hl0, hl1⟩, D.cr⟩
  have K1 : Kp d r H (upd H d (.lst [.ref c, .int ((n : Int) + 1), .ref r])) := fun b o e n1 _ => (upd_ne n1).trans e
  refine ⟨_, rfl, _, _, rfl, rfl, _, rfl, d, _, _, 1, rfl, rfl, D.hd, rfl, ?_⟩
  show _
  have hr1 := (upd_ne (o := .lst [.ref c, .int ((n : Int) + 1), .ref r]) D.rd).trans hrs
  have hc1 := (upd_ne (o := .lst [.ref c, .int ((n : Int) + 1), .ref r]) D.cd).trans hc
  obtain ⟨jr, zr, ej, hjr, hgr, har⟩ := at_mod (l := rs) k0 (by omega)
  obtain ⟨jc, zc, _, hjc, hgc, hac⟩ := at_mod (l := cs) k0 k2
  refine ⟨_, rfl, _, rfl, r, _, _, _, rfl, rfl, SqL.of hr1, har, _, _, rfl, rfl, _, rfl, ?_⟩
  refine ite2 (fun e => ?_) (fun e => ?_)
  · -- a rest is left
    refine ⟨_, rfl, _, rfl, r, _, _, _, rfl, rfl, SqL.of hr1, har, _, rfl, _, _, rfl, rfl, by omega, ?_⟩
    refine ⟨_, rfl, _, rfl, r, _, _, _, rfl, rfl, SqL.of hr1, har, _, rfl, _, _, rfl, rfl, wide_div (b := 160) hm0 (by omega) (by decide) (by decide), ?_⟩
    have hx : ixN (rs.map V.int).length ((n : Int).fmod (((cs.map V.int).length : Nat) : Int)) = some jr := by
      rw [List.length_map, ej]
      unfold ixN
      rw [if_pos (by omega), if_pos (by omega)]
      simp
    refine ⟨_, rfl, _, rfl, r, _, _, jr, rfl, rfl, hr1, hx, ?_⟩
    obtain ⟨f0, f1⟩ := fmod_bounds (a := zr) hm0
    refine ⟨_, rfl, q _ _ f0 f1 ⟨n + 1, by omega, ?_⟩ ?_⟩
    · have em : (rs.map V.int).set jr (.int (zr / m)) = (rs.set jr (zr / m)).map V.int := by rw [List.map_set]
      rw [em]
      exact ⟨(upd_ne D1.rd.symm).trans D1.hd, ⟨cs, rs.set jr (zr / m), (upd_ne D1.cr).trans hc1, upd_same, by rw [List.length_set]; exact hl, hl0, hl1⟩, D1.cr⟩
    · exact fun b o e n1 n2 => (upd_ne n2).trans (K1 b o e n1 n2)
  · -- the mixed numbers
    have hnb : n < 2 ^ 24 := Nat.lt_of_le_of_lt hn hN
    have hn0 : (0 : Int) ≤ (n : Int) := Int.natCast_nonneg n
    have hn1 : (n : Int) < 16777216 := by omega
    obtain ⟨P0, P1⟩ := sq_bounds hn0 hn1
    refine ⟨_, rfl, _, rfl, c, _, _, _, rfl, rfl, SqL.of hc1, hac, _, _, rfl, rfl, nz_a, ?_⟩
    obtain ⟨a0, a1⟩ := fmod_bounds (a := zc) (b := 2147483629) (by decide)
    refine ⟨_, rfl, _, _, rfl, rfl, .inl ⟨by decide, by decide⟩, _, _, rfl, rfl, _, _, rfl, rfl, _, _, rfl, rfl, ⟨by decide, by decide, nat64 (by omega) (by omega)⟩, _, _, rfl, rfl, nz_b, ?_⟩
    have M0 : 0 ≤ ((zc.fmod 2147483629 + 39119 * (n : Int) + 9901) ^ Int.toNat 3).fmod 2147483587 := (fmod_bounds (by decide)).1
    have M1 : ((zc.fmod 2147483629 + 39119 * (n : Int) + 9901) ^ Int.toNat 3).fmod 2147483587 < 2147483587 := (fmod_bounds (by decide)).2
    refine ⟨_, rfl, _, rfl, _, _, rfl, rfl, .inl ⟨by decide, by decide⟩, _, rfl, _, _, rfl, rfl, .inl ⟨mul_lo hn0, mul_hi hn1⟩, _, _, rfl, rfl, _, _, rfl, rfl, _, _, rfl, rfl, ⟨by decide, by decide, nat64 (by omega) (by omega)⟩, _, _, rfl, rfl, nz_c, ?_⟩
    refine ⟨_, rfl, _, _, rfl, rfl, .inl (mid_mul (fmod_bounds (by decide))), _, rfl, _, _, rfl, rfl, _, _, rfl, rfl, nz_d, _, rfl, _, _, rfl, rfl, Int.ne_of_gt hm0, ?_⟩
    exact q _ _ (fmod_bounds hm0).1 (fmod_bounds hm0).2 ⟨n + 1, by omega, D1⟩ K1
end
end Tr

namespace Tr
open PySem PySem.Spec PyProof.Rows L2
abbrev s_law_draws : Stmt := topS 3
theorem sc_law_draws : FnScope ["_law_script", "_law_cells", "_law_cell"] ["_law_script"] (defScope s_law_draws) := ⟨rfl, rfl, rfl, by decide +kernel, rfl, by decide +kernel, by decide +kernel⟩
theorem int_of_bl (b : Bool) : (0 : Int) ≤ (if b then 1 else 0) ∧ (if b then 1 else 0 : Int) ≤ 1 := by cases b <;> decide
theorem cut63 (xs : List V) (h : xs.length ≤ 63) : cutV xs none (some 63) = xs := by
  unfold cutV
  rw [HT.sIx_none, show HT.sIx xs.length xs.length (some 63) = min 63 xs.length from HT.sIx_nat xs.length xs.length 63, List.drop_zero]
  exact List.take_of_length_le (by omega)
section
variable {P : Program} {w : World} {K : PySem.W.Frag} {mg : Str → Option Value} {base : Heap}
/-- from the cells on -/
theorem draws_end {cs : List Int} {c r p : Addr} {rs : List Int} {H1 : Hp} (h1 : H1 c = some (.lst (cs.map V.int))) (h2 : H1 r = some (.lst (rs.map V.int))) (h3 : c ≠ r) (h4 : rs.length = cs.length) (h5 : 0 < cs.length) (h6 : cs.length ≤ 63)
    (hp : H1 p = none) : Dn p c r 0 (upd H1 p (.lst [.ref c, .int 0, .ref r])) :=
  ⟨0, Nat.le_refl 0, ⟨upd_same, ⟨cs, rs, (upd_ne (ne_of_none h1 hp)).trans h1, (upd_ne (ne_of_none h2 hp)).trans h2, h4, h5, h6⟩, h3⟩⟩
theorem ok_law_draws (bt : Bt mg) {f : Addr} {fd : FuncData} (F : Fun K "_law_draws" "_law_draws" s_law_draws f fd) : FnG P w K mg base CX0 1 f fd ["_law_script"] (sp_law_draws K) := by
  refine fnG F sc_law_draws (fun vs H Q E h => ?_) (fun cdv A outer s H vs Q E hr gg h => ?_)
  · obtain ⟨a, ns, rfl, _⟩ := h
    rfl
  obtain ⟨a, ns, rfl, sq, h63, q⟩ := h
  refine ⟨_, (pss_cons (ps_set (i := 1) sc_law_draws.nd rfl (.inl rfl) (pe_op (op_cat) (pe_callTy (call_list_of) (by rfl) bt.list bb_list (pa_cons (pe_slice sl_list (pv 0) po_none (po_some pe_int)) pa_nil)) (pe_op (op_rep) (pe_lst (pa_cons pe_int pa_nil)) (pe_callTy (call_int1) (by rfl) bt.int bb_int (pa_cons (pe_cmpR (op_eq) (pe_callB (call_len_seq) (by rfl) bt.len bb_len (pa_cons (pv 0) pa_nil)) pe_int (nomark _)) pa_nil)))))
      (pss_one (ps_ret (pe_lst (pa_cons (pv 1) (pa_cons pe_int (pa_cons (pe_lc (own := [("_law_cell", 2)]) (tt := tYes) rfl sc_law_draws.nd (pi_list (pv 1)) (blkOk_by (own := [("_law_cell", 2)]) (N := ["_law_script", "_law_cells", "_law_cell"]) (sc := defScope s_law_draws) (by decide +kernel)) (fun _ _ _ _ _ => (pg_name (i := 2) sc_law_draws.nd rfl (.inl rfl))) (fun _ _ _ _ _ => pts_nil) (fun _ _ _ _ _ => (pe_op (op_mul) (pv 2) (pe_callTy (call_int1) (by rfl) bt.int bb_int (pa_cons (pe_cmpR (op_ge) (pv 2) (pe_op (op_pow) pe_int pe_int) (nomark _)) pa_nil))))) pa_nil))))))), ?_⟩
  refine ⟨.ref a, rfl, 63, rfl, a, ns.map V.int, rfl, sq, fun p1 n1 => ?_⟩
  have s1 := same_new (o := .lst (cutV (ns.map V.int) none (some 63))) n1
  refine ⟨p1, _, rfl, .inl (SqL.of upd_same), fun p2 n2 => ?_⟩
  have s2 := s1.trans (same_new (o := .lst (cutV (ns.map V.int) none (some 63))) n2)
  have e2 : (upd (upd H p1 (.lst (cutV (ns.map V.int) none (some 63)))) p2 (.lst (cutV (ns.map V.int) none (some 63)))) p2 = _ := upd_same
  generalize (upd (upd H p1 (.lst (cutV (ns.map V.int) none (some 63)))) p2 (.lst (cutV (ns.map V.int) none (some 63)))) = H2 at s2 e2 ⊢
  refine ⟨(by show 1 ≤ sizeLine; decide), fun p3 n3 => ?_⟩
  have s3 := s2.trans (same_new (o := .lst [.int 0]) n3)
  refine ⟨_, rfl, a, _, rfl, .inl (s3.seq sq), rfl, .inr ⟨_, rfl, ?_⟩⟩
  obtain ⟨k0, k1⟩ := int_of_bl (decide (V.int (((ns.map V.int).length : Nat) : Int) = V.int 0))
  refine ⟨_, _, _, rfl, rfl, upd_same, by omega, by omega, ?_, fun p4 n4 => ?_⟩
  · have : ([V.int 0] : List V).length = 1 := rfl
    rw [this]
    exact Nat.le_trans (show 1 * Int.toNat _ ≤ 1 by omega) (by decide)
  have ek : (if decide (V.int (((ns.map V.int).length : Nat) : Int) = V.int 0) = true then 1 else 0 : Int) = if ns.length = 0 then 1 else 0 := by
    rw [List.length_map]
    by_cases z : ns.length = 0
    · rw [if_pos z, z]
      exact if_pos (decide_eq_true rfl)
    · rw [if_neg z]
      exact if_neg (fun y => z (by have := V.int.inj (of_decide_eq_true y); omega))
  rw [ek] at k0 k1 ⊢
  obtain ⟨cs, ec, c0, c1⟩ : ∃ cs : List Int, cutV (ns.map V.int) none (some 63) ++ (List.replicate (if ns.length = 0 then 1 else 0 : Int).toNat [V.int 0]).flatten = cs.map V.int ∧ 0 < cs.length ∧ cs.length ≤ 63 := by
    rw [cut63 _ (by rw [List.length_map]; exact h63)]
    by_cases z : ns.length = 0
    · have zn : ns = [] := List.eq_nil_of_length_eq_zero z
      subst zn
      exact ⟨[0], rfl, by decide, by decide⟩
    · rw [if_neg z]
      exact ⟨ns, by simp, by omega, h63⟩
  have e4 : (upd (upd H2 p3 (.lst [V.int 0])) p4 (.lst (List.replicate (if ns.length = 0 then 1 else 0 : Int).toNat [V.int 0]).flatten)) p2 = _ := (same_new n4) _ _ ((same_new n3) _ _ e2)
  have s4 := s3.trans (same_new (o := .lst (List.replicate (if ns.length = 0 then 1 else 0 : Int).toNat [V.int 0]).flatten) n4)
  refine ⟨p2, p4, _, _, rfl, rfl, e4, upd_same, ?_, fun p5 n5 => ?_⟩
  · have hle := congrArg List.length ec
    rw [List.length_append, List.length_map] at hle
    exact Nat.le_trans (by omega) (show 63 ≤ sizeLine by decide)
  rw [ec]
  have s5 := s4.trans (same_new (o := .lst (cs.map V.int)) n5)
  have e5 := @upd_same (upd (upd H2 p3 (.lst [V.int 0])) p4 (.lst (List.replicate (if ns.length = 0 then 1 else 0 : Int).toNat [V.int 0]).flatten)) p5 (.lst (cs.map V.int))
  generalize upd (upd (upd H2 p3 (.lst [V.int 0])) p4 (.lst (List.replicate (if ns.length = 0 then 1 else 0 : Int).toNat [V.int 0]).flatten)) p5 (.lst (cs.map V.int)) = H5 at s5 e5 ⊢
  -- the display
  refine ⟨_, rfl, _, rfl, p5, rfl, ⟨_, SqL.of e5⟩, fun D nD => ?_⟩
  have p5D : p5 ≠ D := ne_of_none e5 nD
  refine lc_list (K := K) (a := p5) (xs := cs.map V.int) (fun i H' => i ≤ cs.length ∧ Same H5 H' ∧ ∃ rs : List Int, rs.length = i ∧ H' D = some (.lst (rs.map V.int)))
    ⟨Nat.zero_le _, same_new nD, [], rfl, upd_same⟩ (fun i H' _ h => SqL.of (h.2.1 _ _ e5)) (fun i x H' hx h => ?_) (fun H' h => ?_)
  · obtain ⟨hi, sm, rs, hrs, hD⟩ := h
    rw [List.getElem?_map] at hx
    obtain ⟨z, hz, rfl⟩ := Option.map_eq_some_iff.mp hx
    have hlt : i < cs.length := (List.getElem?_eq_some_iff.mp hz).1
    refine ⟨rfl, ?_⟩
    refine ⟨_, rfl, _, rfl, _, _, rfl, rfl, ⟨by decide, by decide, by decide⟩, _, _, rfl, rfl, .inr ⟨_, rfl, ?_⟩⟩
    obtain ⟨b0, b1⟩ := int_of_bl (decide (((10 : Int) ^ (18 : Int).toNat) ≤ z))
    refine ⟨_, _, rfl, rfl, .inr ⟨by omega, by omega⟩, _, hD, ?_, ?_⟩
    · rw [List.length_map, hrs]
      exact Nat.lt_of_lt_of_le (show i < 63 by omega) (by decide)
    · exact ⟨hlt, fun b o e => (upd_ne (ne_of_none e nD)).trans (sm b o e), rs ++ [_], by rw [List.length_append, hrs]; rfl, by rw [List.map_append]; exact upd_same⟩
  · obtain ⟨_, sm, rs, hrs, hD⟩ := h
    rw [List.length_map] at hrs
    refine ⟨(by show 3 ≤ sizeLine; decide), fun p hp => q _ _ _ _ (draws_end (sm _ _ e5) hD p5D hrs c0 c1 hp) ?_⟩
    exact (s5.trans sm).trans (same_new hp)
end
end Tr

namespace Tr
open PySem PySem.Spec PyProof.Rows L2
abbrev s_law_size : Stmt := topS 7
theorem sc_law_size : FnScope ["_law_drawn", "_law_great", "_law_few"] ["_law_drawn", "_law_great"] (defScope s_law_size) := ⟨rfl, rfl, rfl, by decide +kernel, rfl, by decide +kernel, by decide +kernel⟩
/-- _law_size -/
def sp_law_size : Sp := fun vs H Q _ => ∃ (d c r : Addr) (N : Nat) (g : Int), vs = [.ref d, .int g] ∧ Dn d c r N H ∧ N + 3 ≤ TT ∧ 0 ≤ g ∧ g + 1 < 1000000000000000000000000000000000000000000000000 ∧
  ∀ (H' : Hp) (k : Int), 0 ≤ k → k ≤ g → Dn d c r (N + 3) H' → Kp d r H H' → Q (.int k) H'
/-- an item of a display of ints -/
theorem item_of {K : PySem.W.Frag} {H : Hp} {p : Addr} {l : List Int} {i : Int} (h : H p = some (.lst (l.map V.int))) (h0 : 0 ≤ i) (h1 : i < (l.length : Int)) :
    ∃ z, z ∈ l ∧ SqL K H p (l.map V.int) ∧ atI (l.map V.int) i = some (.int z) := by
  obtain ⟨j, z, _, _, e, q⟩ := at_mod h0 h1
  exact ⟨z, List.mem_of_getElem? e, SqL.of h, q⟩
section
variable {P : Program} {w : World} {K : PySem.W.Frag} {mg : Str → Option Value} {base : Heap}
theorem ok_law_size (bt : Bt mg) (c_law_next : Cal P w K mg base "_law_next" ["_law_drawn", "_law_many"] 1 sp_law_next) {f : Addr} {fd : FuncData} (F : Fun K "_law_size" "_law_size" s_law_size f fd) :
    FnG P w K mg base CX0 2 f fd ["_law_drawn", "_law_great"] sp_law_size := by
  obtain ⟨f_law_next, fd_law_next, G_law_next, m_law_next, k_law_next, b_law_next⟩ := c_law_next
  refine fnG F sc_law_size (fun vs H Q E h => ?_) (fun cdv A outer s H vs Q E hr gg h => ?_)
  · obtain ⟨d, c, r, N, m, rfl, _⟩ := h
    rfl
  obtain ⟨d, c, r, N, g, rfl, D, hN, g0, g1, q⟩ := h
  refine ⟨_, (pss_cons (ps_set (i := 2) sc_law_size.nd rfl (.inl rfl) (pe_callG G_law_next gg (hr.mono (by first | decide | omega)) (by rfl) m_law_next k_law_next b_law_next .nil pass0 (pa_cons (pv 0) (pa_cons (pe_op (op_add) (pe_callB (call_min2 rfl) (by rfl) bt.min bb_min (pa_cons (pv 1) (pa_cons pe_int pa_nil))) pe_int) pa_nil))))
      (pss_one (ps_ret (pe_ix ix_list (pe_lst (pa_cons (pv 2) (pa_cons (pe_op (op_sub) (pv 1) (pv 2)) (pa_cons (pe_callG G_law_next gg (hr.mono (by first | decide | omega)) (by rfl) m_law_next k_law_next b_law_next .nil pass0 (pa_cons (pv 0) (pa_cons (pe_op (op_add) (pv 1) pe_int) pa_nil))) pa_nil)))) (pe_callG G_law_next gg (hr.mono (by first | decide | omega)) (by rfl) m_law_next k_law_next b_law_next .nil pass0 (pa_cons (pv 0) (pa_cons pe_int pa_nil))) (fun _ _ => rfl))))), ?_⟩
  refine ⟨_, rfl, _, rfl, _, _, rfl, _, _, rfl, rfl, d, c, r, N, _, rfl, D, by omega, ?_, ?_, fun H1 k b0 b1 D1 K1 => ?_⟩
  · split <;> omega
  · split <;> omega
  have b2 : k ≤ g := by
    split at b1 <;> omega
  refine ⟨_, rfl, _, rfl, _, rfl, _, _, rfl, rfl, _, rfl, _, rfl, _, _, rfl, rfl, d, c, r, N + 1, _, rfl, D1, by omega, by omega, by omega, fun H2 k2 c0 c1 D2 K2 => ?_⟩
  refine ⟨(by show 3 ≤ sizeLine; decide), fun p hp => ?_⟩
  refine ⟨_, rfl, d, c, r, N + 2, _, rfl, D2.new hp, by omega, by decide, by decide, fun H3 k3 e0 e1 D3 K3 => ?_⟩
  have np := D2.new_ne hp
  have at_p : H3 p = some (.lst (([k, g - k, k2] : List Int).map V.int)) := K3 p _ upd_same np.1 np.2.1
  obtain ⟨z, hz, sz, az⟩ := item_of (K := K) at_p e0 (show k3 < 3 from e1)
  refine ⟨p, _, _, _, rfl, rfl, sz, az, ?_⟩
  have kk : Kp d r H H3 := ((K1.trans K2).trans (Kp.of (same_new hp))).trans K3
  have zb : 0 ≤ z ∧ z ≤ g := by
    rcases List.mem_cons.mp hz with e | hz
    · omega
    rcases List.mem_cons.mp hz with e | hz
    · omega
    rcases List.mem_cons.mp hz with e | hz
    · omega
    · cases hz
  exact q _ _ zb.1 zb.2 D3 kk
end
end Tr

namespace Tr
open PySem PySem.Spec PyProof.Rows L2
abbrev s_law_equal : Stmt := topS 6
theorem sc_law_equal : FnScope ["_law_one_here", "_law_other", "_law_a", "_law_b"] ["_law_one_here", "_law_other"] (defScope s_law_equal) := ⟨rfl, rfl, rfl, by decide +kernel, rfl, by decide +kernel, by decide +kernel⟩
/-- _law_equal: of two values with the same data it says True -/
def sp_law_equal (K : PySem.W.Frag) (n : Nat) : Sp := fun vs H Q _ => ∃ (x y : V) (d : PyData), vs = [x, y] ∧ Dp K H x d ∧ Dp K H y d ∧ okd n d = true ∧ ∀ H', Same H H' → Q (.bl true) H'
section
variable {P : Program} {w : World} {K : PySem.W.Frag} {mg : Str → Option Value} {base : Heap}
theorem ok_law_equal_step (bt : Bt mg) {n : Nat} {f : Addr} {fd : FuncData} (F : Fun K "_law_equal" "_law_equal" s_law_equal f fd) (m_law_equal : mg "_law_equal" = some (.ref f)) (b_law_equal : Binds K fd ["_law_one_here", "_law_other"] [])
    (G_law_equal : FnG P w K mg base CX0 n f fd ["_law_one_here", "_law_other"] (sp_law_equal K n)) : FnG P w K mg base CX0 (n + 1) f fd ["_law_one_here", "_law_other"] (sp_law_equal K (n + 1)) := by
  have k_law_equal := F.kp
  refine fnG F sc_law_equal (fun vs H Q E h => ?_) (fun cdv A outer s H vs Q E hr gg h => ?_)
  · obtain ⟨x, y, d, rfl, _⟩ := h
    rfl
  obtain ⟨x, y, d, rfl, hx, hy, hd, q⟩ := h
  refine ⟨_, (pss_cons (ps_if (PW.pt (pw_and (pt_val (pe_callB (call_isi) (by rfl) bt.isinstance bb_isinstance (pa_cons (pv 0) (pa_cons (pe_bltn (v := .ty "tuple") (by rfl) bt.tuple bb_tuple rfl) pa_nil)))) (pw_and1 (pt_val (pe_callB (call_isi) (by rfl) bt.isinstance bb_isinstance (pa_cons (pv 1) (pa_cons (pe_bltn (v := .ty "tuple") (by rfl) bt.tuple bb_tuple rfl) pa_nil))))))) (pss_one (ps_ret (pe_and (pe_cmpR (op_eq) (pe_callB (call_len_seq) (by rfl) bt.len bb_len (pa_cons (pv 0) pa_nil)) (pe_callB (call_len_seq) (by rfl) bt.len bb_len (pa_cons (pv 1) pa_nil)) (nomark _)) (pe_one (pe_callB (cr_all rfl) (by rfl) bt.all bb_all (pa_cons (pe_lc (own := [("_law_a", 2), ("_law_b", 3)]) (tt := tYes) rfl sc_law_equal.nd (RZ.pi_zipA (by rfl) bt.zip (pa_cons (pv 0) (pa_cons (pv 1) pa_nil))) (blkOk_by (own := [("_law_a", 2), ("_law_b", 3)]) (N := ["_law_one_here", "_law_other", "_law_a", "_law_b"]) (sc := defScope s_law_equal) (by decide +kernel)) (fun _ _ _ _ _ => (pg_tup rfl (pgs_cons (pg_name (i := 2) sc_law_equal.nd rfl (.inl rfl)) (pgs_cons (pg_name (i := 3) sc_law_equal.nd rfl (.inl rfl)) pgs_nil)) : PG _ _ (gTup K 2 _))) (fun _ _ _ _ _ => pts_nil) (fun _ _ _ _ _ => (pe_callG G_law_equal gg (hr.mono (by first | decide | omega)) (by rfl) m_law_equal k_law_equal b_law_equal .nil pass0 (pa_cons (pv 2) (pa_cons (pv 3) pa_nil))))) pa_nil)))))) pss_nil)
      (pss_cons (ps_if (PW.pt (pw_or (pt_val (pe_callB (call_isi) (by rfl) bt.isinstance bb_isinstance (pa_cons (pv 0) (pa_cons (pe_bltn (v := .ty "bool") (by rfl) bt.bool bb_bool rfl) pa_nil)))) (pw_or1 (pt_val (pe_callB (call_isi) (by rfl) bt.isinstance bb_isinstance (pa_cons (pv 1) (pa_cons (pe_bltn (v := .ty "bool") (by rfl) bt.bool bb_bool rfl) pa_nil))))))) (pss_one (ps_ret (pe_and (pe_callB (call_isi) (by rfl) bt.isinstance bb_isinstance (pa_cons (pv 0) (pa_cons (pe_bltn (v := .ty "bool") (by rfl) bt.bool bb_bool rfl) pa_nil))) (pe_and (pe_callB (call_isi) (by rfl) bt.isinstance bb_isinstance (pa_cons (pv 1) (pa_cons (pe_bltn (v := .ty "bool") (by rfl) bt.bool bb_bool rfl) pa_nil))) (pe_one (pe_cmpR (op_eq) (pv 0) (pv 1) (nomark _))))))) pss_nil)
      (pss_cons (ps_if (pt_cmpR (op_ne) (pe_callB (call_isi) (by rfl) bt.isinstance bb_isinstance (pa_cons (pv 0) (pa_cons (pe_bltn (v := .ty "tuple") (by rfl) bt.tuple bb_tuple rfl) pa_nil))) (pe_callB (call_isi) (by rfl) bt.isinstance bb_isinstance (pa_cons (pv 1) (pa_cons (pe_bltn (v := .ty "tuple") (by rfl) bt.tuple bb_tuple rfl) pa_nil))) (nomark _)) (pss_one (ps_ret pe_bl)) pss_nil)
      (pss_cons (ps_if (pt_cmpR (op_ne) (pe_callB (call_isi) (by rfl) bt.isinstance bb_isinstance (pa_cons (pv 0) (pa_cons (pe_bltn (v := .ty "int") (by rfl) bt.int bb_int rfl) pa_nil))) (pe_callB (call_isi) (by rfl) bt.isinstance bb_isinstance (pa_cons (pv 1) (pa_cons (pe_bltn (v := .ty "int") (by rfl) bt.int bb_int rfl) pa_nil))) (nomark _)) (pss_one (ps_ret pe_bl)) pss_nil)
      (pss_one (ps_ret (pe_and (pe_cmpR (op_eq) (pe_callB (call_isi) (by rfl) bt.isinstance bb_isinstance (pa_cons (pv 0) (pa_cons (pe_bltn (v := .ty "str") (by rfl) bt.str bb_str rfl) pa_nil))) (pe_callB (call_isi) (by rfl) bt.isinstance bb_isinstance (pa_cons (pv 1) (pa_cons (pe_bltn (v := .ty "str") (by rfl) bt.str bb_str rfl) pa_nil))) (nomark _)) (pe_one (pe_cmpR (op_eq) (pv 0) (pv 1) (nomark _)))))))))), ?_⟩
  cases hx with
  | lst h1 h2 => exact absurd hd (by simp [okd])
  | tup h1 h2 =>
    rename_i a xs ds
    cases hy with
    | tup h3 h4 =>
    rename_i b ys
    have hd' : decide (ds.length ≤ 1000) = true ∧ ds.all (okd n) = true := by
      have : (decide (ds.length ≤ 1000) && ds.all (okd n)) = true := hd
      rwa [Bool.and_eq_true] at this
    have hlen : ds.length ≤ 1000 := of_decide_eq_true hd'.1
    have l1 := dps_len h2
    have l2 := dps_len h4
    refine ⟨_, rfl, _, _, _, _, true, rfl, .ty _, tyx_tup h1, kit_ty (by decide +kernel), _, rfl, iteT ⟨_, rfl, _, _, _, _, true, rfl, .ty _, tyx_tup h3, kit_ty (by decide +kernel), _, rfl, iteT ?_⟩⟩
    refine ⟨_, rfl, a, _, rfl, .inr h1, _, rfl, b, _, rfl, .inr h3, rfl, _, rfl, ?_⟩
    rw [show decide (V.int ((xs.length : Nat) : Int) = V.int ((ys.length : Nat) : Int)) = true from decide_eq_true (by rw [l1, l2])]
    refine iteT ⟨_, rfl, _, rfl, a, b, xs, ys, rfl, .inr ⟨h1, h3, fun Z nZ => ?_⟩⟩
    refine lc_it (walk_zipT (K := K) (a := a) (b := b) (xs := xs) (ys := ys) (by omega)) (fun i H' => i ≤ xs.length ∧ Same H H' ∧ ∃ bs : List Bool, bs.length = i ∧ (∀ b ∈ bs, b = true) ∧ H' Z = some (.lst (bs.map V.bl)))
      ⟨Nat.zero_le _, same_new nZ, [], rfl, fun b h => (by cases h), upd_same⟩ (fun i H' _ h => ⟨same_tup h.2.1 h1, same_tup h.2.1 h3⟩) (fun i x H' H2 hi h hy => ?_) (fun H' h => ?_)
    · obtain ⟨hi', sm, bs, hbl, hbt, hZ⟩ := h
      obtain ⟨T, u, v, rfl, fT, rfl, eu, ev⟩ := hy
      have ZT : Z ≠ T := ne_of_none hZ fT
      have sT := same_new (o := .tup [u, v]) fT
      refine ⟨T, _, rfl, SqT.of upd_same, rfl, _, _, rfl, _, _, rfl, rfl, rfl, ?_⟩
      have hdi : ds[i]? = some ds[i] := List.getElem?_eq_getElem (by omega)
      have hok : okd n ds[i] = true := List.all_eq_true.mp hd'.2 _ (List.getElem_mem _)
      have s2 := sm.trans sT
      refine ⟨_, rfl, _, rfl, u, v, ds[i], rfl, dp_same s2 (dps_get h2 eu hdi), dp_same s2 (dps_get h4 ev hdi), hok, fun H3 s3 => ?_⟩
      refine ⟨_, s3 _ _ ((upd_ne ZT).trans hZ), ?_, hi, ?_, bs ++ [true], ?_, ?_, ?_⟩
      · rw [List.length_map, hbl]
        exact small1000 (by omega)
      · exact fun c o e => (upd_ne (ne_of_none e nZ)).trans (s3 _ _ (s2 c o e))
      · rw [List.length_append, hbl]
        rfl
      · intro b hb
        rcases List.mem_append.mp hb with hb | hb
        · exact hbt b hb
        · simpa using hb
      · rw [List.map_append]
        exact upd_same
    · obtain ⟨_, sm, bs, _, hbt, hZ⟩ := h
      refine ⟨Z, bs, rfl, SqL.of hZ, ?_⟩
      rw [all_true hbt]
      exact q _ sm
  | non =>
    cases hy
    refine ⟨_, rfl, _, _, _, _, false, rfl, .ty _, (.base .non), kit_ty (by decide +kernel), _, rfl, iteF (iteF ?_)⟩
    refine ⟨_, rfl, _, _, _, _, false, rfl, .ty _, (.base .non), kit_ty (by decide +kernel), _, rfl, iteF ⟨_, rfl, _, _, _, _, false, rfl, .ty _, (.base .non), kit_ty (by decide +kernel), _, rfl, iteF ?_⟩⟩
    refine ⟨_, rfl, _, _, _, _, false, rfl, .ty _, (.base .non), kit_ty (by decide +kernel), _, rfl, _, _, _, _, false, rfl, .ty _, (.base .non), kit_ty (by decide +kernel), rfl, _, rfl, iteNS rfl ?_⟩
    refine ⟨_, rfl, _, _, _, _, false, rfl, .ty _, (.base .non), kit_ty (by decide +kernel), _, rfl, _, _, _, _, false, rfl, .ty _, (.base .non), kit_ty (by decide +kernel), rfl, _, rfl, iteNS rfl ?_⟩
    refine ⟨_, rfl, _, _, _, _, false, rfl, .ty _, (.base .non), kit_ty (by decide +kernel), _, rfl, _, _, _, _, false, rfl, .ty _, (.base .non), kit_ty (by decide +kernel), rfl, _, rfl, iteD rfl ⟨_, rfl, _, rfl, rfl, ?_⟩⟩
    exact q_dec rfl (q _ (Same.refl _))
  | bl b =>
    cases hy
    refine ⟨_, rfl, _, _, _, _, false, rfl, .ty _, (.base (.bl b)), kit_ty (by decide +kernel), _, rfl, iteF (iteF ?_)⟩
    refine ⟨_, rfl, _, _, _, _, true, rfl, .ty _, (.base (.bl b)), kit_ty (by decide +kernel), _, rfl, iteT (iteT ?_)⟩
    refine ⟨_, rfl, _, _, _, _, true, rfl, .ty _, (.base (.bl b)), kit_ty (by decide +kernel), _, rfl, iteT ⟨_, rfl, _, _, _, _, true, rfl, .ty _, (.base (.bl b)), kit_ty (by decide +kernel), _, rfl, iteT ⟨_, rfl, _, rfl, rfl, ?_⟩⟩⟩
    exact q_dec rfl (q _ (Same.refl _))
  | int i =>
    cases hy
    refine ⟨_, rfl, _, _, _, _, false, rfl, .ty _, (.base (.int i)), kit_ty (by decide +kernel), _, rfl, iteF (iteF ?_)⟩
    refine ⟨_, rfl, _, _, _, _, false, rfl, .ty _, (.base (.int i)), kit_ty (by decide +kernel), _, rfl, iteF ⟨_, rfl, _, _, _, _, false, rfl, .ty _, (.base (.int i)), kit_ty (by decide +kernel), _, rfl, iteF ?_⟩⟩
    refine ⟨_, rfl, _, _, _, _, false, rfl, .ty _, (.base (.int i)), kit_ty (by decide +kernel), _, rfl, _, _, _, _, false, rfl, .ty _, (.base (.int i)), kit_ty (by decide +kernel), rfl, _, rfl, iteNS rfl ?_⟩
    refine ⟨_, rfl, _, _, _, _, true, rfl, .ty _, (.base (.int i)), kit_ty (by decide +kernel), _, rfl, _, _, _, _, true, rfl, .ty _, (.base (.int i)), kit_ty (by decide +kernel), rfl, _, rfl, iteNS rfl ?_⟩
    refine ⟨_, rfl, _, _, _, _, false, rfl, .ty _, (.base (.int i)), kit_ty (by decide +kernel), _, rfl, _, _, _, _, false, rfl, .ty _, (.base (.int i)), kit_ty (by decide +kernel), rfl, _, rfl, iteD rfl ⟨_, rfl, _, rfl, rfl, ?_⟩⟩
    exact q_dec rfl (q _ (Same.refl _))
  | str z =>
    cases hy
    refine ⟨_, rfl, _, _, _, _, false, rfl, .ty _, (.base (.str z)), kit_ty (by decide +kernel), _, rfl, iteF (iteF ?_)⟩
    refine ⟨_, rfl, _, _, _, _, false, rfl, .ty _, (.base (.str z)), kit_ty (by decide +kernel), _, rfl, iteF ⟨_, rfl, _, _, _, _, false, rfl, .ty _, (.base (.str z)), kit_ty (by decide +kernel), _, rfl, iteF ?_⟩⟩
    refine ⟨_, rfl, _, _, _, _, false, rfl, .ty _, (.base (.str z)), kit_ty (by decide +kernel), _, rfl, _, _, _, _, false, rfl, .ty _, (.base (.str z)), kit_ty (by decide +kernel), rfl, _, rfl, iteNS rfl ?_⟩
    refine ⟨_, rfl, _, _, _, _, false, rfl, .ty _, (.base (.str z)), kit_ty (by decide +kernel), _, rfl, _, _, _, _, false, rfl, .ty _, (.base (.str z)), kit_ty (by decide +kernel), rfl, _, rfl, iteNS rfl ?_⟩
    refine ⟨_, rfl, _, _, _, _, true, rfl, .ty _, (.base (.str z)), kit_ty (by decide +kernel), _, rfl, _, _, _, _, true, rfl, .ty _, (.base (.str z)), kit_ty (by decide +kernel), rfl, _, rfl, iteD rfl ⟨_, rfl, _, rfl, rfl, ?_⟩⟩
    exact q_dec rfl (q _ (Same.refl _))
theorem ok_law_equal (bt : Bt mg) {f : Addr} {fd : FuncData} (F : Fun K "_law_equal" "_law_equal" s_law_equal f fd) (m : mg "_law_equal" = some (.ref f)) (b : Binds K fd ["_law_one_here", "_law_other"] []) :
    ∀ n, FnG P w K mg base CX0 n f fd ["_law_one_here", "_law_other"] (sp_law_equal K n)
  | 0 => by
    have no : ∀ vs H Q E, ¬ sp_law_equal K 0 vs H Q E := fun vs H Q E h => by
      obtain ⟨x, y, d, _, _, _, z, _⟩ := h
      cases z
    exact ⟨fun vs H Q E h => absurd h (no _ _ _ _), fun A _ o s H ar us vs Q E _ _ _ _ h => absurd h (no _ _ _ _)⟩
  | n + 1 => ok_law_equal_step bt F m b (ok_law_equal bt F m b n)
end
end Tr

namespace Tr
open PySem PySem.Spec PyProof.Rows L2
abbrev s_joined_need : Stmt := topS 1
theorem sc_joined_need : FnScope ["need", "spare", "key"] ["need", "spare", "key"] (defScope s_joined_need) := ⟨rfl, rfl, rfl, by decide +kernel, rfl, by decide +kernel, by decide +kernel⟩
/-- joined_need -/
def jnd (n s k : Int) : Int := if k ≤ s then n else mxI (n + 1) k
def sp_joined : Sp := fun vs H Q _ => ∃ n s k : Int, vs = [.int n, .int s, .int k] ∧ Q (.int (jnd n s k)) H
section
variable {P : Program} {w : World} {K : PySem.W.Frag} {mg : Str → Option Value} {base : Heap}
theorem ok_joined (bt : Bt mg) {f : Addr} {fd : FuncData} (F : Fun K "joined_need" "joined_need" s_joined_need f fd) : FnG P w K mg base CX0 1 f fd ["need", "spare", "key"] sp_joined := by
  refine fnG F sc_joined_need (fun vs H Q E h => ?_) (fun cdv A outer s0 H vs Q E hr gg h => ?_)
  · obtain ⟨n, s, k, rfl, _⟩ := h
    rfl
  obtain ⟨n, s, k, rfl, q⟩ := h
  refine ⟨_, (pss_cons (ps_if (pt_cmpR (op_le) (pv 2) (pv 1) (nomark _)) (pss_one (ps_ret (pv 0))) pss_nil)
      (pss_one (ps_ret (pe_callB (call_max2 rfl) (by rfl) bt.max bb_max (pa_cons (pe_op (op_add) (pv 0) pe_int) (pa_cons (pv 2) pa_nil)))))), ?_⟩
  refine ⟨_, rfl, _, rfl, _, _, rfl, rfl, _, rfl, ?_⟩
  refine ite2 (fun c => ?_) (fun c => ?_)
  · refine ⟨_, rfl, ?_⟩
    have : jnd n s k = n := if_pos (of_decide_eq_true c)
    rw [this] at q
    exact q
  · refine ⟨_, rfl, _, _, rfl, rfl, _, rfl, _, _, rfl, ?_⟩
    have : jnd n s k = mxI (n + 1) k := if_neg fun z => c (decide_eq_true z)
    rw [this] at q
    exact q
end
end Tr

namespace Tr
open PySem PySem.Spec PyProof.Rows L2
abbrev s_law_least : Stmt := topS 8
theorem sc_law_least : FnScope ["_law_keys", "_law_k", "_law_key"] ["_law_keys"] (defScope s_law_least) := ⟨rfl, rfl, rfl, by decide +kernel, rfl, by decide +kernel, by decide +kernel⟩
/-- _law_least -/
def sp_least (K : PySem.W.Frag) : Sp := fun vs H Q _ => ∃ (a : Addr) (ks : List Int), vs = [.ref a] ∧ SqL K H a (ks.map V.int) ∧ ks.length < 64 ∧ ∀ H', Same H H' → Q (.int (needK ks)) H'
section
variable {P : Program} {w : World} {K : PySem.W.Frag} {mg : Str → Option Value} {base : Heap}
theorem ok_least (bt : Bt mg) {f : Addr} {fd : FuncData} (F : Fun K "_law_least" "_law_least" s_law_least f fd) : FnG P w K mg base CX0 1 f fd ["_law_keys"] (sp_least K) := by
  refine fnG F sc_law_least (fun vs H Q E h => ?_) (fun cdv A outer s H vs Q E hr gg h => ?_)
  · obtain ⟨a, ks, rfl, _⟩ := h
    rfl
  obtain ⟨a, ks, rfl, sq, h64, q⟩ := h
  refine ⟨_, (pss_one (ps_ret (pe_callB (cr_max rfl) (by rfl) bt.max bb_max (pa_cons (pe_op (op_cat) (pe_lst (pa_cons pe_int pa_nil)) (pe_lc (own := [("_law_k", 1), ("_law_key", 2)]) (tt := tYes) rfl sc_law_least.nd (pi_enum (by rfl) bt.enumerate (pa_cons (pe_revL (pe_callB (cr_sorted) (by rfl) bt.sorted bb_sorted (pa_cons (pv 0) pa_nil))) pa_nil)) (blkOk_by (own := [("_law_k", 1), ("_law_key", 2)]) (N := ["_law_keys", "_law_k", "_law_key"]) (sc := defScope s_law_least) (by decide +kernel)) (fun _ _ _ _ _ => (pg_tup rfl (pgs_cons (pg_name (i := 1) sc_law_least.nd rfl (.inl rfl)) (pgs_cons (pg_name (i := 2) sc_law_least.nd rfl (.inl rfl)) pgs_nil)) : PG _ _ (gTup K 2 _))) (fun _ _ _ _ _ => pts_nil) (fun _ _ _ _ _ => (pe_op (op_add) (pv 2) (pv 1))))) pa_nil)))), ?_⟩
  refine ⟨(by show 1 ≤ sizeLine; decide), fun p1 n1 => ?_⟩
  have s1 := same_new (o := .lst [.int 0]) n1
  have e1 := @upd_same H p1 (.lst [.int 0])
  generalize upd H p1 (.lst [.int 0]) = H1 at s1 e1 ⊢
  refine ⟨_, rfl, a, ks, rfl, s1.seq sq, h64, fun ls p2 pm so n2 => ?_⟩
  have s2 := s1.trans (same_new (o := .lst (ls.map V.int)) n2)
  have e2 := same_new (o := .lst (ls.map V.int)) n2 _ _ e1
  have sq2 : SqL K (upd H1 p2 (.lst (ls.map V.int))) p2 (ls.map V.int) := SqL.of upd_same
  generalize upd H1 p2 (.lst (ls.map V.int)) = H2 at s2 e2 sq2 ⊢
  refine ⟨p2, _, rfl, sq2, fun p3 n3 => ?_⟩
  rw [← List.map_reverse]
  have s3 := s2.trans (same_new (o := .lst (ls.reverse.map V.int)) n3)
  have e3 := same_new (o := .lst (ls.reverse.map V.int)) n3 _ _ e2
  have f3 := @upd_same H2 p3 (.lst (ls.reverse.map V.int))
  generalize upd H2 p3 (.lst (ls.reverse.map V.int)) = H3 at s3 e3 f3 ⊢
  have hd : endK 0 ls.reverse = needK ks := desc_rev pm so
  have hl : ls.reverse.length < 64 := by rw [List.length_reverse, pm.length_eq]; exact h64
  generalize ls.reverse = ds at hd hl f3 ⊢
  refine ⟨p3, _, rfl, SqL.of f3, fun Z nZ => ?_⟩
  refine lc_it (walk_enum (K := K) (a := p3) (xs := ds.map V.int)) (fun i H' => i ≤ ds.length ∧ Same H3 H' ∧ H' Z = some (.lst (((endsL ds).take i).map V.int)))
    ⟨Nat.zero_le _, same_new nZ, upd_same⟩ (fun i H' _ h => SqL.of (h.2.1 _ _ f3)) (fun i x H' H4 hi h hy => ?_) (fun H' h => ?_)
  · obtain ⟨hi', sm, hZ⟩ := h
    obtain ⟨T, x1, y1, rfl, fT, rfl, ex, ey⟩ := hy
    rw [List.length_map] at hi
    have ey' : ds[i]? = some ds[i] := List.getElem?_eq_getElem hi
    replace ex : some (V.int (i : Nat)) = some x1 := ex
    replace ey : (ds.map V.int)[i]? = some y1 := ey
    rw [List.getElem?_map, ey'] at ey
    obtain rfl : V.int (i : Nat) = x1 := Option.some.inj ex
    obtain rfl : V.int ds[i] = y1 := Option.some.inj ey
    have ZT : Z ≠ T := ne_of_none hZ fT
    have sT := sm.trans (same_new (o := .tup [V.int (i : Nat), V.int ds[i]]) fT)
    refine ⟨T, _, rfl, SqT.of upd_same, rfl, _, _, rfl, _, _, rfl, rfl, rfl, ?_⟩
    refine ⟨_, rfl, _, rfl, _, _, rfl, rfl, ?_⟩
    refine ⟨_, (upd_ne ZT).trans hZ, ?_, by omega, fun b o eb => (upd_ne (ne_of_none eb nZ)).trans (sT b o eb), ?_⟩
    · rw [List.length_map, List.length_take]
      exact small1000 (by omega)
    · rw [endsL_step ey', List.map_append]
      exact upd_same
  · obtain ⟨_, sm, hZ⟩ := h
    rw [List.length_map, List.take_of_length_le (by rw [endsL_len]; exact Nat.le_refl _)] at hZ
    refine ⟨p1, Z, _, _, rfl, rfl, sm _ _ e3, hZ, ?_, fun p5 n5 => ?_⟩
    · rw [List.length_map, endsL_len]
      exact Nat.le_trans (show 1 + ds.length ≤ 64 by omega) (by decide)
    refine ⟨p5, 0 :: endsL ds, rfl, SqL.of upd_same, by simp, fun m h1 h2 => ?_⟩
    have em : m = endK 0 ds := endsL_max (h2 0 List.mem_cons_self) ((List.mem_cons.mp h1).imp id id) fun y hy => h2 y (List.mem_cons_of_mem _ hy)
    rw [em, hd]
    exact q _ ((s3.trans sm).trans (same_new n5))
end
end Tr

namespace Tr
open PySem PySem.Spec PyProof.Rows L2
abbrev s_law_spare : Stmt := topS 9
theorem sc_law_spare : FnScope ["_law_keys", "_law_need", "_law_low", "_law_high", "_law_middle"] ["_law_keys"] (defScope s_law_spare) := ⟨rfl, rfl, rfl, by decide +kernel, rfl, by decide +kernel, by decide +kernel⟩
/-- _law_spare -/
def sp_spare (K : PySem.W.Frag) : Sp := fun vs H Q _ => ∃ (a : Addr) (ks : List Int), vs = [.ref a] ∧ H a = some (.lst (ks.map V.int)) ∧ ks.length < 63 ∧ ∀ H' q, IsSpare ks q → Same H H' → Q (.int q) H'
section
variable {P : Program} {w : World} {K : PySem.W.Frag} {mg : Str → Option Value} {base : Heap}
theorem ok_spare (bt : Bt mg) (c_law_least : Cal P w K mg base "_law_least" ["_law_keys"] 1 (sp_least K)) {f : Addr} {fd : FuncData} (F : Fun K "_law_spare" "_law_spare" s_law_spare f fd) : FnG P w K mg base CX0 2 f fd ["_law_keys"] (sp_spare K) := by
  obtain ⟨f_law_least, fd_law_least, G_law_least, m_law_least, k_law_least, b_law_least⟩ := c_law_least
  refine fnG F sc_law_spare (fun vs H Q E h => ?_) (fun cdv A outer s H vs Q E hr gg h => ?_)
  · obtain ⟨a, ks, rfl, _⟩ := h
    rfl
  obtain ⟨a, ks, rfl, ha, h63, q⟩ := h
  refine ⟨_, (pss_cons (ps_par3 (i := 1) (j := 2) (l := 3) (by rfl) sc_law_spare.nd rfl rfl rfl (by decide) (by decide) (by decide) rfl rfl rfl (pa_cons (pe_callG G_law_least gg (hr.mono (by first | decide | omega)) (by rfl) m_law_least k_law_least b_law_least .nil pass0 (pa_cons (pv 0) pa_nil)) (pa_cons pe_int (pa_cons (pe_op (op_add) (pe_callG G_law_least gg (hr.mono (by first | decide | omega)) (by rfl) m_law_least k_law_least b_law_least .nil pass0 (pa_cons (pv 0) pa_nil)) pe_int) pa_nil))) (by rfl))
      (pss_cons (ps_while PassesOwn.never (pt_cmpR (op_gt) (pe_op (op_sub) (pv 3) (pv 2)) pe_int (nomark _)) (pss_cons (ps_set (i := 4) sc_law_spare.nd rfl (.inl rfl) (pe_op (op_fdiv) (pe_op (op_add) (pv 2) (pv 3)) pe_int))
      (pss_one (ps_if (pt_cmpR (op_eq) (pe_callG G_law_least gg (hr.mono (by first | decide | omega)) (by rfl) m_law_least k_law_least b_law_least .nil pass0 (pa_cons (pe_op (op_cat) (pv 0) (pe_lst (pa_cons (pv 4) pa_nil))) pa_nil)) (pv 1) (nomark _)) (pss_one (ps_set (i := 2) sc_law_spare.nd rfl (.inl rfl) (pv 4))) (pss_one (ps_set (i := 3) sc_law_spare.nd rfl (.inl rfl) (pv 4)))))))
      (pss_one (ps_ret (pv 2))))), ?_⟩
  refine ⟨_, rfl, a, ks, rfl, SqL.of ha, by omega, fun H1 s1 => ?_⟩
  refine ⟨_, rfl, a, ks, rfl, SqL.of (s1 _ _ ha), by omega, fun H2 s2 => ?_⟩
  refine ⟨_, _, rfl, rfl, _, _, _, rfl, ?_⟩
  have n0 := needK_nonneg ks
  refine while_by (fun σ H' => ∃ (lo hi : Int) (y : Option V), σ = [some (.ref a), some (.int (needK ks)), some (.int lo), some (.int hi), y] ∧ Same H H' ∧ 0 ≤ lo ∧ lo < hi ∧ (lo = 0 ∨ needK (lo :: ks) = needK ks) ∧ needK (hi :: ks) ≠ needK ks)
    (fun σ H' => match σ with | [_, _, some (.int lo), some (.int hi), _] => (hi - lo).toNat | _ => 0)
    ⟨0, _, _, rfl, s1.trans s2, Int.le_refl 0, by omega, .inl rfl, ?_⟩ (fun σ H' h => ?_) ?_
  · have := (needK_cons_ge (needK ks + 1) ks).2
    omega
  · obtain ⟨lo, hi, y, rfl, sm, l0, lh, h1, h2⟩ := h
    refine ⟨_, rfl, _, rfl, _, _, rfl, rfl, _, _, rfl, rfl, _, rfl, ?_⟩
    refine ite2 (fun e => ?_) (fun e => ?_)
    · obtain ⟨m1, m2⟩ := mid2 (of_decide_eq_true e)
      refine ⟨_, rfl, _, rfl, _, _, rfl, rfl, _, _, rfl, rfl, ⟨by decide, by decide⟩, ?_⟩
      refine ⟨_, rfl, _, rfl, (by show 1 ≤ sizeLine; decide), fun p hp => ?_⟩
      refine ⟨a, p, _, _, rfl, rfl, same_new hp _ _ (sm _ _ ha), upd_same, ?_, fun p2 hp2 => ?_⟩
      · rw [List.length_map]
        exact Nat.le_trans (show ks.length + 1 ≤ 64 by omega) (by decide)
      have smp := (same_new (o := .lst [V.int ((lo + hi) / 2)]) hp).trans (same_new (o := .lst (ks.map V.int ++ [V.int ((lo + hi) / 2)])) hp2)
      refine ⟨p2, ks ++ [((lo + hi) / 2)], rfl, ?_, ?_, fun H6 s6 => ?_⟩
      · rw [List.map_append]
        exact SqL.of upd_same
      · rw [List.length_append]
        show ks.length + 1 < 64
        omega
      rw [needK_snoc]
      have sm6 := (sm.trans smp).trans s6
      refine ⟨_, rfl, rfl, _, rfl, ?_⟩
      refine ite2 (fun e2 => ?_) (fun e2 => ?_)
      · have h3 : needK (((lo + hi) / 2) :: ks) = needK ks := V.int.inj (of_decide_eq_true e2)
        exact ⟨_, rfl, ⟨((lo + hi) / 2), hi, _, rfl, sm6, by omega, m2, .inr h3, h2⟩, by show (hi - ((lo + hi) / 2)).toNat < (hi - lo).toNat; omega⟩
      · have h3 : needK (((lo + hi) / 2) :: ks) ≠ needK ks := fun z => e2 (decide_eq_true (congrArg V.int z))
        exact ⟨_, rfl, ⟨lo, ((lo + hi) / 2), _, rfl, sm6, l0, m1, h1, h3⟩, by show (((lo + hi) / 2) - lo).toNat < (hi - lo).toNat; omega⟩
    · have lo1 : hi = lo + 1 := by
        have : ¬ hi - lo > 1 := fun z => e (decide_eq_true z)
        omega
      exact ⟨_, rfl, q _ lo (isSpare_of l0 h1 (lo1 ▸ h2)) sm⟩
  · intro σ H' Q Q' im h
    obtain ⟨x1, e1, x2, e2, i, j, e3, e4, k, l, e5, e6, b, e7, h⟩ := h
    exact ⟨x1, e1, x2, e2, i, j, e3, e4, k, l, e5, e6, b, e7, im _ _ h⟩
end
end Tr

namespace Tr
open PySem PySem.Spec PyProof.Rows L2
abbrev s_law_plain_right : Stmt := topS 10
theorem sc_law_plain_right : FnScope ["_law_drawn", "_law_great", "_law_need", "_law_spare_here", "_law_near", "_law_key", "_law_due"] ["_law_drawn"] (defScope s_law_plain_right) := ⟨rfl, rfl, rfl, by decide +kernel, rfl, by decide +kernel, by decide +kernel⟩
/-- a turn -/
def sp_kright (N0 : Nat) : Sp := fun vs H Q _ => ∃ (d c r : Addr) (N : Nat), vs = [.ref d] ∧ Dn d c r N H ∧ N + N0 ≤ TT ∧ ∀ H', Dn d c r (N + N0) H' → Kp d r H H' → Q (.bl true) H'
theorem e29 : ((10 : Int) ^ (29 : Int).toNat) = 100000000000000000000000000000 := by decide
theorem e9 : ((10 : Int) ^ (9 : Int).toNat) = 1000000000 := by decide
theorem c29 : CPow 10 29 := ⟨by decide, by decide, by decide⟩
theorem c9 : CPow 10 9 := ⟨by decide, by decide, by decide⟩
section
variable {P : Program} {w : World} {K : PySem.W.Frag} {mg : Str → Option Value} {base : Heap}
theorem ok_plain_right (bt : Bt mg) (c_law_next : Cal P w K mg base "_law_next" ["_law_drawn", "_law_many"] 1 sp_law_next) (c_law_size : Cal P w K mg base "_law_size" ["_law_drawn", "_law_great"] 2 sp_law_size)
    (c_law_equal : Cal P w K mg base "_law_equal" ["_law_one_here", "_law_other"] 2 (sp_law_equal K 2)) (c_joined_need : Cal P w K mg base "joined_need" ["need", "spare", "key"] 1 sp_joined)
    {f : Addr} {fd : FuncData} (F : Fun K "_law_plain_right" "_law_plain_right" s_law_plain_right f fd) : FnG P w K mg base CX0 3 f fd ["_law_drawn"] (sp_kright 10) := by
  obtain ⟨f_law_next, fd_law_next, G_law_next, m_law_next, k_law_next, b_law_next⟩ := c_law_next
  obtain ⟨f_law_size, fd_law_size, G_law_size, m_law_size, k_law_size, b_law_size⟩ := c_law_size
  obtain ⟨f_law_equal, fd_law_equal, G_law_equal, m_law_equal, k_law_equal, b_law_equal⟩ := c_law_equal
  obtain ⟨f_joined_need, fd_joined_need, G_joined_need, m_joined_need, k_joined_need, b_joined_need⟩ := c_joined_need
  refine fnG F sc_law_plain_right (fun vs H Q E h => ?_) (fun cdv A outer s0 H vs Q E hr gg h => ?_)
  · obtain ⟨d, c, r, N, rfl, _⟩ := h
    rfl
  obtain ⟨d, c, r, N, rfl, D0, hN, q⟩ := h
  refine ⟨_, (pss_cons (ps_set (i := 1) sc_law_plain_right.nd rfl (.inl rfl) (pe_ix ix_list (pe_lst (pa_cons pe_int (pa_cons pe_int (pa_cons (pe_op (op_pow) pe_int pe_int) pa_nil)))) (pe_callG G_law_next gg (hr.mono (by first | decide | omega)) (by rfl) m_law_next k_law_next b_law_next .nil pass0 (pa_cons (pv 0) (pa_cons pe_int pa_nil))) (fun _ _ => rfl)))
      (pss_cons (ps_par (i := 2) (j := 3) (by rfl) sc_law_plain_right.nd rfl rfl (by decide) rfl rfl (pa_cons (pe_callG G_law_size gg (hr.mono (by first | decide | omega)) (by rfl) m_law_size k_law_size b_law_size .nil pass0 (pa_cons (pv 0) (pa_cons (pv 1) pa_nil))) (pa_cons (pe_callG G_law_size gg (hr.mono (by first | decide | omega)) (by rfl) m_law_size k_law_size b_law_size .nil pass0 (pa_cons (pv 0) (pa_cons (pv 1) pa_nil))) pa_nil)) (by rfl))
      (pss_cons (ps_set (i := 4) sc_law_plain_right.nd rfl (.inl rfl) (pe_lst (pa_cons (pe_callG G_law_size gg (hr.mono (by first | decide | omega)) (by rfl) m_law_size k_law_size b_law_size .nil pass0 (pa_cons (pv 0) (pa_cons (pv 1) pa_nil))) (pa_cons (pv 3) (pa_cons (pe_callB (call_min2 rfl) (by rfl) bt.min bb_min (pa_cons (pe_op (op_pow) pe_int pe_int) (pa_cons (pe_op (op_add) (pv 3) pe_int) pa_nil))) (pa_cons (pe_callB (call_max2 rfl) (by rfl) bt.max bb_max (pa_cons pe_int (pa_cons (pe_op (op_sub) (pv 3) pe_int) pa_nil))) (pa_cons (pe_callB (call_min2 rfl) (by rfl) bt.min bb_min (pa_cons (pe_op (op_pow) pe_int pe_int) (pa_cons (pe_op (op_add) (pv 2) pe_int) pa_nil))) pa_nil)))))))
      (pss_cons (ps_for PassesOwn.never rfl (pi_list (pe_op (op_cat) (pv 4) (pe_lst (pa_cons (pv 2) (pa_cons (pe_callB (call_min2 rfl) (by rfl) bt.min bb_min (pa_cons (pe_op (op_pow) pe_int pe_int) (pa_cons (pe_op (op_add) (pv 2) pe_int) pa_nil))) (pa_cons pe_int pa_nil)))))) (pg_name (i := 5) sc_law_plain_right.nd rfl (.inl rfl))
        (pss_cons (ps_set (i := 6) sc_law_plain_right.nd rfl (.inl rfl) (pe_ifExp (pt_cmpR (op_le) (pv 5) (pv 3) (nomark _)) (pv 2) (pe_callB (call_max2 rfl) (by rfl) bt.max bb_max (pa_cons (pe_op (op_add) (pv 2) pe_int) (pa_cons (pv 5) pa_nil)))))
      (pss_one (ps_if (pt_not (pt_val (pe_callG G_law_equal gg (hr.mono (by first | decide | omega)) (by rfl) m_law_equal k_law_equal b_law_equal .nil pass0 (pa_cons (pe_callG G_joined_need gg (hr.mono (by first | decide | omega)) (by rfl) m_joined_need k_joined_need b_joined_need .nil pass0 (pa_cons (pv 2) (pa_cons (pv 3) (pa_cons (pv 5) pa_nil)))) (pa_cons (pv 6) pa_nil))))) (pss_one (ps_ret pe_bl)) pss_nil))))
      (pss_one (ps_ret pe_bl)))))), ?_⟩
  refine ⟨_, _, rfl, rfl, c29, (by show 3 ≤ sizeLine; decide), fun p hp => ?_⟩
  refine ⟨_, rfl, d, c, r, N, _, rfl, D0.new hp, by omega, by decide, by decide, fun H1 k k0 k1 D1 K1 => ?_⟩
  have np := D0.new_ne hp
  have at_p : H1 p = some (.lst (([3, 40, (10 : Int) ^ (29 : Int).toNat] : List Int).map V.int)) := K1 p _ upd_same np.1 np.2.1
  obtain ⟨g, hg, sz, az⟩ := item_of (K := K) at_p k0 (show k < 3 from k1)
  refine ⟨p, _, _, _, rfl, rfl, sz, az, ?_⟩
  have kk1 : Kp d r H H1 := (Kp.of (same_new hp)).trans K1
  have gb : 0 ≤ g ∧ g ≤ 100000000000000000000000000000 := by
    rw [e29] at hg
    have : g = 3 ∨ g = 40 ∨ g = 100000000000000000000000000000 := by simpa using hg
    omega
  refine ⟨_, rfl, _, rfl, d, c, r, _, g, rfl, D1, by omega, by omega, by omega, fun H2 nd n0 n1 D2 K2 => ?_⟩
  refine ⟨_, rfl, _, rfl, d, c, r, _, g, rfl, D2, by omega, by omega, by omega, fun H3 sp s0 s1 D3 K3 => ?_⟩
  refine ⟨_, _, rfl, ?_⟩
  refine ⟨_, rfl, _, rfl, d, c, r, _, g, rfl, D3, by omega, by omega, by omega, fun H4 k4 e0 e1 D4 K4 => ?_⟩
  refine ⟨_, rfl, _, _, rfl, rfl, c29, _, rfl, _, _, rfl, rfl, _, _, rfl, ?_⟩
  refine ⟨_, rfl, _, _, rfl, rfl, _, _, rfl, ?_⟩
  refine ⟨_, _, rfl, rfl, c29, _, rfl, _, _, rfl, rfl, _, _, rfl, ?_⟩
  refine ⟨(by show 5 ≤ sizeLine; decide), fun p2 hp2 => ?_⟩
  have kk4 : Kp d r H H4 := ((kk1.trans K2).trans K3).trans K4
  have hk2 := same_new (o := .lst [.int k4, .int sp, .int (mnI ((10 : Int) ^ (29 : Int).toNat) (sp + 1)), .int (mxI 0 (sp - 1)), .int (mnI ((10 : Int) ^ (29 : Int).toNat) (nd + 1))]) hp2
  refine ⟨_, rfl, _, rfl, _, _, rfl, rfl, c29, _, rfl, _, _, rfl, rfl, _, _, rfl, (by show 3 ≤ sizeLine; decide), fun p3 hp3 => ?_⟩
  refine ⟨p2, p3, _, _, rfl, rfl, same_new hp3 _ _ upd_same, upd_same, (by show 8 ≤ sizeLine; decide), fun p4 hp4 => ?_⟩
  have kk5 := (kk4.trans (Kp.of hk2)).trans (Kp.of ((same_new (o := .lst [.int nd, .int (mnI ((10 : Int) ^ (29 : Int).toNat) (nd + 2)), .int 0]) hp3).trans (same_new (o := .lst (([k4, sp, mnI ((10 : Int) ^ (29 : Int).toNat) (sp + 1), mxI 0 (sp - 1), mnI ((10 : Int) ^ (29 : Int).toNat) (nd + 1), nd, mnI ((10 : Int) ^ (29 : Int).toNat) (nd + 2), 0] : List Int).map V.int)) hp4)))
  have D5 := ((D4.new (o := .lst [.int k4, .int sp, .int (mnI ((10 : Int) ^ (29 : Int).toNat) (sp + 1)), .int (mxI 0 (sp - 1)), .int (mnI ((10 : Int) ^ (29 : Int).toNat) (nd + 1))]) hp2).new (o := .lst [.int nd, .int (mnI ((10 : Int) ^ (29 : Int).toNat) (nd + 2)), .int 0]) hp3).new (o := .lst (([k4, sp, mnI ((10 : Int) ^ (29 : Int).toNat) (sp + 1), mxI 0 (sp - 1), mnI ((10 : Int) ^ (29 : Int).toNat) (nd + 1), nd, mnI ((10 : Int) ^ (29 : Int).toNat) (nd + 2), 0] : List Int).map V.int)) hp4
  obtain ⟨ks, eks⟩ : ∃ ks : List Int, ks = [k4, sp, mnI ((10 : Int) ^ (29 : Int).toNat) (sp + 1), mxI 0 (sp - 1), mnI ((10 : Int) ^ (29 : Int).toNat) (nd + 1), nd, mnI ((10 : Int) ^ (29 : Int).toNat) (nd + 2), 0] := ⟨_, rfl⟩
  rw [← eks] at kk5 D5
  refine ⟨p4, rfl, ⟨_, SqL.of upd_same⟩, ?_⟩
  refine for_list (K := K) (a := p4) (xs := ks.map V.int) (fun i σ H' => ∃ y5 y6, σ = [some (.ref d), some (.int g), some (.int nd), some (.int sp), some (.ref p2), y5, y6] ∧ H' p4 = some (.lst (ks.map V.int)) ∧ Dn d c r (N + 10) H' ∧ Kp d r H H')
    ⟨none, none, rfl, ?_, ?_, ?_⟩ (fun i σ H' _ h => ?_) (fun i x σ H' hx h => ?_) (fun σ H' h => ?_)
  · rw [eks]; exact upd_same
  · rw [eks] at D5; exact D5.mono (by omega)
  · rw [eks] at kk5; exact kk5
  · obtain ⟨_, _, _, h, _⟩ := h
    exact SqL.of h
  · obtain ⟨y5, y6, rfl, h4, D6, K6⟩ := h
    rw [List.getElem?_map] at hx
    obtain ⟨z, hz, rfl⟩ := Option.map_eq_some_iff.mp hx
    refine ⟨_, rfl, _, rfl, _, _, rfl, rfl, _, rfl, ?_⟩
    refine ite2 (fun cc => ?_) (fun cc => ?_)
    · have ej : jnd nd sp z = nd := if_pos (of_decide_eq_true cc)
      refine ⟨_, rfl, ?_⟩
      refine ⟨_, rfl, _, rfl, _, rfl, nd, sp, z, rfl, _, rfl, .int (jnd nd sp z), .int nd, .int (jnd nd sp z), rfl, .int _, ?_, rfl, fun H7 s7 => ⟨_, rfl, iteNT ?_⟩⟩
      · rw [ej]; exact .int _
      · exact ⟨_, _, rfl, s7 _ _ h4, D6.same s7, K6.trans (Kp.of s7)⟩
    · have ej : jnd nd sp z = mxI (nd + 1) z := if_neg fun z => cc (decide_eq_true z)
      refine ⟨_, rfl, _, _, rfl, rfl, _, rfl, _, _, rfl, ?_⟩
      refine ⟨_, rfl, _, rfl, _, rfl, nd, sp, z, rfl, _, rfl, .int (jnd nd sp z), .int (mxI (nd + 1) z), .int (jnd nd sp z), rfl, .int _, ?_, rfl, fun H7 s7 => ⟨_, rfl, iteNT ?_⟩⟩
      · rw [ej]; exact .int _
      · exact ⟨_, _, rfl, s7 _ _ h4, D6.same s7, K6.trans (Kp.of s7)⟩
  · obtain ⟨y5, y6, rfl, h4, D6, K6⟩ := h
    exact q _ D6 K6
end
end Tr

namespace Tr
open PySem PySem.Spec PyProof.Rows L2
abbrev s_law_keys_right : Stmt := topS 11
theorem sc_law_keys_right : FnScope ["_law_drawn", "_law_great", "_law_keys", "_law_need", "_law_spare_here", "_law_near", "_law_key", "_law_k"] ["_law_drawn"] (defScope s_law_keys_right) := ⟨rfl, rfl, rfl, by decide +kernel, rfl, by decide +kernel, by decide +kernel⟩
section
variable {P : Program} {w : World} {K : PySem.W.Frag} {mg : Str → Option Value} {base : Heap}
theorem ok_keys_right (bt : Bt mg) (c_law_next : Cal P w K mg base "_law_next" ["_law_drawn", "_law_many"] 1 sp_law_next) (c_law_size : Cal P w K mg base "_law_size" ["_law_drawn", "_law_great"] 2 sp_law_size)
    (c_law_least : Cal P w K mg base "_law_least" ["_law_keys"] 1 (sp_least K)) (c_law_spare : Cal P w K mg base "_law_spare" ["_law_keys"] 2 (sp_spare K)) (c_joined_need : Cal P w K mg base "joined_need" ["need", "spare", "key"] 1 sp_joined)
    {f : Addr} {fd : FuncData} (F : Fun K "_law_keys_right" "_law_keys_right" s_law_keys_right f fd) : FnG P w K mg base CX0 3 f fd ["_law_drawn"] (sp_kright 50) := by
  obtain ⟨f_law_next, fd_law_next, G_law_next, m_law_next, k_law_next, b_law_next⟩ := c_law_next
  obtain ⟨f_law_size, fd_law_size, G_law_size, m_law_size, k_law_size, b_law_size⟩ := c_law_size
  obtain ⟨f_law_least, fd_law_least, G_law_least, m_law_least, k_law_least, b_law_least⟩ := c_law_least
  obtain ⟨f_law_spare, fd_law_spare, G_law_spare, m_law_spare, k_law_spare, b_law_spare⟩ := c_law_spare
  obtain ⟨f_joined_need, fd_joined_need, G_joined_need, m_joined_need, k_joined_need, b_joined_need⟩ := c_joined_need
  refine fnG F sc_law_keys_right (fun vs H Q E h => ?_) (fun cdv A outer s0 H vs Q E hr gg h => ?_)
  · obtain ⟨d, c, r, N, rfl, _⟩ := h
    rfl
  obtain ⟨d, c, r, N, rfl, D0, hN, q⟩ := h
  refine ⟨_, (pss_cons (ps_set (i := 1) sc_law_keys_right.nd rfl (.inr rfl) (pe_ix ix_list (pe_lst (pa_cons pe_int (pa_cons pe_int (pa_cons pe_int (pa_cons (pe_op (op_pow) pe_int pe_int) pa_nil))))) (pe_callG G_law_next gg (hr.mono (by first | decide | omega)) (by rfl) m_law_next k_law_next b_law_next .nil pass0 (pa_cons (pv 0) (pa_cons pe_int pa_nil))) (fun _ _ => rfl)))
      (pss_cons (ps_setLc (i := 2) (own := [("_law_k", 7)]) (tt := tYes) rfl sc_law_keys_right.nd rfl rfl (sw_true rfl rfl rfl (by decide +kernel)) (pi_range1 (by rfl) bt.range (pa_cons (pe_callG G_law_next gg (hr.mono (by first | decide | omega)) (by rfl) m_law_next k_law_next b_law_next .nil pass0 (pa_cons (pv 0) (pa_cons pe_int pa_nil))) pa_nil)) (blkOk_by (own := [("_law_k", 7)]) (N := ["_law_drawn", "_law_great", "_law_keys", "_law_need", "_law_spare_here", "_law_near", "_law_key", "_law_k"]) (sc := defScope s_law_keys_right) (by decide +kernel)) (fun _ _ _ _ _ => (pg_name (i := 7) sc_law_keys_right.nd rfl (.inl rfl))) (fun _ _ _ _ _ => pts_nil) (fun _ _ _ _ _ => (pe_op (op_add) pe_int (pe_callG G_law_size gg (hr.mono (by first | decide | omega)) (by rfl) m_law_size k_law_size b_law_size .nil pass0 (pa_cons (pv 0) (pa_cons (pe_op (op_sub) (pv 1) pe_int) pa_nil))))))
      (pss_cons (ps_asg (pe_tup (pa_cons (pe_callG G_law_least gg (hr.mono (by first | decide | omega)) (by rfl) m_law_least k_law_least b_law_least .nil pass0 (pa_cons (pv 2) pa_nil)) (pa_cons (pe_callG G_law_spare gg (hr.mono (by first | decide | omega)) (by rfl) m_law_spare k_law_spare b_law_spare .nil pass0 (pa_cons (pv 2) pa_nil)) pa_nil))) (pg_tup rfl (pgs_cons (pg_name (i := 3) sc_law_keys_right.nd rfl (.inr rfl)) (pgs_cons (pg_name (i := 4) sc_law_keys_right.nd rfl (.inr rfl)) pgs_nil))))
      (pss_cons (ps_set (i := 5) sc_law_keys_right.nd rfl (.inl rfl) (pe_op (op_cat) (pe_lc (own := [("_law_k", 7)]) (tt := tYes) rfl sc_law_keys_right.nd (pi_tup (pe_tup (pa_cons (pe_un un_neg pe_int) (pa_cons pe_int (pa_cons pe_int (pa_cons pe_int pa_nil)))))) (blkOk_by (own := [("_law_k", 7)]) (N := ["_law_drawn", "_law_great", "_law_keys", "_law_need", "_law_spare_here", "_law_near", "_law_key", "_law_k"]) (sc := defScope s_law_keys_right) (by decide +kernel)) (fun _ _ _ _ _ => (pg_name (i := 7) sc_law_keys_right.nd rfl (.inl rfl))) (fun _ _ _ _ _ => pts_nil) (fun _ _ _ _ _ => (pe_callB (call_max2 rfl) (by rfl) bt.max bb_max (pa_cons pe_int (pa_cons (pe_op (op_add) (pv 4) (pv 7)) pa_nil))))) (pe_lc (own := [("_law_k", 7)]) (tt := tYes) rfl sc_law_keys_right.nd (pi_tup (pe_tup (pa_cons (pe_un un_neg pe_int) (pa_cons pe_int (pa_cons pe_int (pa_cons pe_int pa_nil)))))) (blkOk_by (own := [("_law_k", 7)]) (N := ["_law_drawn", "_law_great", "_law_keys", "_law_need", "_law_spare_here", "_law_near", "_law_key", "_law_k"]) (sc := defScope s_law_keys_right) (by decide +kernel)) (fun _ _ _ _ _ => (pg_name (i := 7) sc_law_keys_right.nd rfl (.inl rfl))) (fun _ _ _ _ _ => pts_nil) (fun _ _ _ _ _ => (pe_callB (call_max2 rfl) (by rfl) bt.max bb_max (pa_cons pe_int (pa_cons (pe_op (op_add) (pv 3) (pv 7)) pa_nil)))))))
      (pss_cons (ps_for PassesOwn.never rfl (pi_list (pe_op (op_cat) (pv 5) (pe_lst (pa_cons (pe_op (op_add) pe_int (pe_callG G_law_size gg (hr.mono (by first | decide | omega)) (by rfl) m_law_size k_law_size b_law_size .nil pass0 (pa_cons (pv 0) (pa_cons (pe_op (op_mul) pe_int (pv 1)) pa_nil)))) pa_nil)))) (pg_name (i := 6) sc_law_keys_right.nd rfl (.inl rfl))
        (pss_one (ps_if (pt_cmpR (op_ne) (pe_callG G_joined_need gg (hr.mono (by first | decide | omega)) (by rfl) m_joined_need k_joined_need b_joined_need .nil pass0 (pa_cons (pv 3) (pa_cons (pv 4) (pa_cons (pv 6) pa_nil)))) (pe_callG G_law_least gg (hr.mono (by first | decide | omega)) (by rfl) m_law_least k_law_least b_law_least .nil pass0 (pa_cons (pe_op (op_cat) (pv 2) (pe_lst (pa_cons (pv 6) pa_nil))) pa_nil)) (nomark _)) (pss_one (ps_ret pe_bl)) pss_nil)))
      (pss_one (ps_ret pe_bl))))))), ?_⟩
  refine ⟨_, _, rfl, rfl, c9, (by show 4 ≤ sizeLine; decide), fun p hp => ?_⟩
  refine ⟨_, rfl, d, c, r, N, _, rfl, D0.new hp, by omega, by decide, by decide, fun H1 k k0 k1 D1 K1 => ?_⟩
  have np := D0.new_ne hp
  have at_p : H1 p = some (.lst (([1, 4, 20, (10 : Int) ^ (9 : Int).toNat] : List Int).map V.int)) := K1 p _ upd_same np.1 np.2.1
  obtain ⟨g, hg, sz, az⟩ := item_of (K := K) at_p k0 (show k < 4 from k1)
  refine ⟨p, _, _, _, rfl, rfl, sz, az, ?_⟩
  have kk1 : Kp d r H H1 := (Kp.of (same_new hp)).trans K1
  have gb : 1 ≤ g ∧ g ≤ 1000000000 := by
    rw [e9] at hg
    have : g = 1 ∨ g = 4 ∨ g = 20 ∨ g = 1000000000 := by simpa using hg
    omega
  -- the keys
  refine ⟨_, rfl, d, c, r, _, 16, rfl, D1, by omega, by decide, by decide, fun H2 m m0 m1 D2 K2 => ?_⟩
  refine ⟨m, rfl, by omega, by omega, fun Z nZ => ?_⟩
  have nZd := D2.new_ne nZ
  refine lc_range (lo := 0) (n := m.toNat) (fun i H' => ∃ l : List Int, l.length = i ∧ (∀ x ∈ l, 1 ≤ x) ∧ H' Z = some (.lst (l.map V.int)) ∧ Dn d c r (N + 2 + 3 * i) H' ∧ Kp d r H H')
    ⟨[], rfl, fun x hx => (by cases hx), upd_same, D2.new nZ, (kk1.trans K2).trans (Kp.of (same_new nZ))⟩ (fun i H' hi h => ?_) (fun H' h => ?_)
  · obtain ⟨l, ll, lr, hZ, D3, K3⟩ := h
    have hi' : i < 16 := by omega
    refine ⟨rfl, _, rfl, _, rfl, _, _, rfl, rfl, d, c, r, _, _, rfl, D3, by omega, by omega, by omega, fun H5 x x0 x1 D5 K5 => ?_⟩
    refine ⟨_, _, rfl, rfl, _, K5 Z _ hZ nZd.1 nZd.2.1, ?_, l ++ [1 + x], ?_, ?_, ?_, ?_, ?_⟩
    · rw [List.length_map, ll]
      exact small1000 (by omega)
    · rw [List.length_append, ll]
      rfl
    · intro y hy
      rcases List.mem_append.mp hy with hy | hy
      · exact lr y hy
      · have : y = 1 + x := by simpa using hy
        omega
    · rw [List.map_append]
      exact upd_same
    · exact (D5.upd nZd).mono (by omega)
    · exact ((kk1.trans K2).updNew nZ ((K3.trans K5)))
  obtain ⟨ks, ll, lr, hZ, D3, K3⟩ := h
  have l15 : ks.length ≤ 15 := by omega
  -- the need, the spare
  refine ⟨_, rfl, Z, ks, rfl, SqL.of hZ, by omega, fun H4 s4 => ?_⟩
  refine ⟨_, rfl, Z, ks, rfl, s4 _ _ hZ, by omega, fun H5 sp isp s5 => ?_⟩
  refine ⟨(by show 2 ≤ sizeLine; decide), fun T nT => ?_⟩
  refine ⟨T, _, rfl, SqT.of upd_same, rfl, _, _, rfl, _, _, rfl, rfl, ?_⟩
  have s6 := (s4.trans s5).trans (same_new (o := .tup [.int (needK ks), .int sp]) nT)
  generalize upd H5 T (.tup [.int (needK ks), .int sp]) = H6 at s6 ⊢
  -- the keys near
  have hn0 := needK_nonneg ks
  refine ⟨_, rfl, (by show 4 ≤ sizeLine; decide), fun T1 nT1 => ?_⟩
  refine ⟨T1, rfl, ⟨_, SqT.of upd_same⟩, fun Z1 nZ1 => ?_⟩
  have s7 := s6.trans (same_new (o := .tup [.int (-1), .int 0, .int 1, .int 2]) nT1)
  have at7 := @upd_same H6 T1 (.tup ([.int (-1), .int 0, .int 1, .int 2] : List V))
  refine lc_tup (K := K) (a := T1) (xs := ([.int (-1), .int 0, .int 1, .int 2] : List V)) (fun i H' => ∃ l : List Int, l.length = i ∧ (∀ x ∈ l, 1 ≤ x) ∧ H' Z1 = some (.lst (l.map V.int)) ∧ Same (upd H6 T1 (.tup [.int (-1), .int 0, .int 1, .int 2])) H')
    ⟨[], rfl, fun x hx => (by cases hx), upd_same, same_new nZ1⟩ (fun i H' _ h => ?_) (fun i x H' hx h => ?_) (fun H' h => ?_)
  · obtain ⟨_, _, _, _, sm⟩ := h
    exact SqT.of (sm _ _ at7)
  · obtain ⟨l, l1, l2, hZ1, sm⟩ := h
    have hi : i < 4 := (List.getElem?_eq_some_iff.mp hx).1
    obtain ⟨z, rfl⟩ : ∃ z, x = V.int z := by
      have := List.mem_of_getElem? hx
      simp only [List.mem_cons, List.not_mem_nil, or_false] at this
      rcases this with e | e | e | e <;> exact ⟨_, e⟩
    refine ⟨rfl, _, rfl, _, rfl, _, _, rfl, rfl, _, _, rfl, _, hZ1, ?_, l ++ [mxI 1 (sp + z)], ?_, ?_, ?_, ?_⟩
    · rw [List.length_map, l1]
      exact small1000 (by omega)
    · rw [List.length_append, l1]
      rfl
    · intro y hy
      rcases List.mem_append.mp hy with hy | hy
      · exact l2 y hy
      · have : y = mxI 1 (sp + z) := by simpa using hy
        rw [this]
        unfold mxI
        split <;> omega
    · rw [List.map_append]
      exact upd_same
    · exact fun b o eb => (upd_ne (ne_of_none eb nZ1)).trans (sm b o eb)
  obtain ⟨n1, n1l, n1p, hZ1, sm1⟩ := h
  have s8 := s7.trans sm1
  clear sm1 at7 nZ1
  generalize H' = H8 at hZ1 s8 ⊢
  refine ⟨_, rfl, (by show 4 ≤ sizeLine; decide), fun T2 nT2 => ?_⟩
  refine ⟨T2, rfl, ⟨_, SqT.of upd_same⟩, fun Z2 nZ2 => ?_⟩
  have s9 := s8.trans (same_new (o := .tup [.int (-1), .int 0, .int 1, .int 2]) nT2)
  have at9 := @upd_same H8 T2 (.tup ([.int (-1), .int 0, .int 1, .int 2] : List V))
  have hZ1b := same_new (o := .tup [.int (-1), .int 0, .int 1, .int 2]) nT2 _ _ hZ1
  refine lc_tup (K := K) (a := T2) (xs := ([.int (-1), .int 0, .int 1, .int 2] : List V)) (fun i H' => ∃ l : List Int, l.length = i ∧ (∀ x ∈ l, 1 ≤ x) ∧ H' Z2 = some (.lst (l.map V.int)) ∧ Same (upd H8 T2 (.tup [.int (-1), .int 0, .int 1, .int 2])) H')
    ⟨[], rfl, fun x hx => (by cases hx), upd_same, same_new nZ2⟩ (fun i H' _ h => ?_) (fun i x H' hx h => ?_) (fun H' h => ?_)
  · obtain ⟨_, _, _, _, sm⟩ := h
    exact SqT.of (sm _ _ at9)
  · obtain ⟨l, l1, l2, hZ2, sm⟩ := h
    have hi : i < 4 := (List.getElem?_eq_some_iff.mp hx).1
    obtain ⟨z, rfl⟩ : ∃ z, x = V.int z := by
      have := List.mem_of_getElem? hx
      simp only [List.mem_cons, List.not_mem_nil, or_false] at this
      rcases this with e | e | e | e <;> exact ⟨_, e⟩
    refine ⟨rfl, _, rfl, _, rfl, _, _, rfl, rfl, _, _, rfl, _, hZ2, ?_, l ++ [mxI 1 (needK ks + z)], ?_, ?_, ?_, ?_⟩
    · rw [List.length_map, l1]
      exact small1000 (by omega)
    · rw [List.length_append, l1]
      rfl
    · intro y hy
      rcases List.mem_append.mp hy with hy | hy
      · exact l2 y hy
      · have : y = mxI 1 (needK ks + z) := by simpa using hy
        rw [this]
        unfold mxI
        split <;> omega
    · rw [List.map_append]
      exact upd_same
    · exact fun b o eb => (upd_ne (ne_of_none eb nZ2)).trans (sm b o eb)
  obtain ⟨n2, n2l, n2p, hZ2, sm2⟩ := h
  have hZ1c := sm2 _ _ hZ1b
  have s10 := s9.trans sm2
  clear sm2 at9 nZ2 hZ1b hZ1
  generalize H' = H10 at hZ1c hZ2 s10 ⊢
  refine ⟨Z1, Z2, _, _, rfl, rfl, hZ1c, hZ2, ?_, fun p5 nw5 => ?_⟩
  · rw [List.length_map, List.length_map, n1l, n2l]
    decide
  rw [← List.map_append]
  have nd5 := (D3.same s10).new_ne nw5
  have h5 := @upd_same H10 p5 (.lst ((n1 ++ n2).map V.int))
  have s11 := s10.trans (same_new (o := .lst ((n1 ++ n2).map V.int)) nw5)
  have nl : (n1 ++ n2).length = 8 := by rw [List.length_append, n1l, n2l]; rfl
  have np5 : ∀ x ∈ n1 ++ n2, 1 ≤ x := fun x hx => (List.mem_append.mp hx).elim (n1p x) (n2p x)
  generalize n1 ++ n2 = nn at h5 s11 nl np5 ⊢
  generalize upd H10 p5 (.lst (nn.map V.int)) = H11 at h5 s11 ⊢
  have D11 := D3.same s11
  have K11 := K3.trans (Kp.of s11)
  have hZ11 := s11 _ _ hZ
  have nZ5 : Z ≠ d ∧ Z ≠ r ∧ Z ≠ c := nZd
  -- the loop
  refine ⟨_, rfl, _, rfl, _, rfl, _, _, rfl, rfl, .inl ⟨by decide, by decide⟩, d, c, r, _, _, rfl, D11, by omega, by omega, by omega, fun H12 x x0 x1 D12 K12 => ?_⟩
  refine ⟨_, _, rfl, rfl, (by show 1 ≤ sizeLine; decide), fun p6 np6 => ?_⟩
  have h12 := K12 _ _ h5 nd5.1 nd5.2.1
  refine ⟨p5, p6, _, _, rfl, rfl, same_new np6 _ _ h12, upd_same, ?_, fun p7 np7 => ?_⟩
  · rw [List.length_map, nl]
    show 8 + 1 ≤ sizeLine
    decide
  have e7 : nn.map V.int ++ [.int (1 + x)] = (nn ++ [1 + x]).map V.int := by rw [List.map_append]; rfl
  have h7 : (upd (upd H12 p6 (.lst [.int (1 + x)])) p7 (.lst (nn.map V.int ++ [.int (1 + x)]))) p7 = some (.lst ((nn ++ [1 + x]).map V.int)) := by rw [e7]; exact upd_same
  have s13 := (same_new (o := .lst [.int (1 + x)]) np6).trans (same_new (o := .lst (nn.map V.int ++ [.int (1 + x)])) np7)
  have D13 := D12.same s13
  have K13 := (K11.trans K12).trans (Kp.of s13)
  have hZ13 := s13 _ _ (K12 _ _ hZ11 nZ5.1 nZ5.2.1)
  have ml : ∀ y ∈ nn ++ [1 + x], 1 ≤ y := fun y hy => (List.mem_append.mp hy).elim (np5 y) fun h => by
    have : y = 1 + x := by simpa using h
    omega
  refine ⟨p7, rfl, ⟨_, SqL.of h7⟩, ?_⟩
  generalize upd (upd H12 p6 (.lst [.int (1 + x)])) p7 (.lst (nn.map V.int ++ [.int (1 + x)])) = H13 at h7 D13 K13 hZ13 ⊢
  generalize nn ++ [1 + x] = mm at h7 ml ⊢
  refine for_list (K := K) (a := p7) (xs := mm.map V.int) (fun i σ H' => ∃ y6, σ = [some (.ref d), some (.int g), some (.ref Z), some (.int (needK ks)), some (.int sp), some (.ref p5), y6, none] ∧ Same H13 H')
    ⟨_, rfl, fun _ _ h => h⟩ (fun i σ H' _ h => ?_) (fun i y σ H' hx h => ?_) (fun σ H' h => ?_)
  · obtain ⟨_, _, sm⟩ := h
    exact SqL.of (sm _ _ h7)
  · obtain ⟨y6, rfl, sm⟩ := h
    rw [List.getElem?_map] at hx
    obtain ⟨z, hz, rfl⟩ := Option.map_eq_some_iff.mp hx
    have z1 := ml z (List.mem_of_getElem? hz)
    refine ⟨_, rfl, _, rfl, _, rfl, needK ks, sp, z, rfl, ?_⟩
    refine ⟨_, rfl, _, rfl, (by show 1 ≤ sizeLine; decide), fun p8 n8 => ?_⟩
    refine ⟨Z, p8, _, _, rfl, rfl, same_new n8 _ _ (sm _ _ hZ13), upd_same, ?_, fun p9 n9 => ?_⟩
    · rw [List.length_map]
      exact Nat.le_trans (show ks.length + 1 ≤ 64 by omega) (by decide)
    have e9 : ks.map V.int ++ [.int z] = (ks ++ [z]).map V.int := by rw [List.map_append]; rfl
    have sm9 := sm.trans ((same_new (o := .lst [.int z]) n8).trans (same_new (o := .lst (ks.map V.int ++ [.int z])) n9))
    refine ⟨p9, ks ++ [z], rfl, ?_, ?_, fun H14 s14 => ?_⟩
    · rw [← e9]
      exact SqL.of upd_same
    · rw [List.length_append]
      show ks.length + 1 < 64
      omega
    have ej : jnd (needK ks) sp z = needK (ks ++ [z]) := spare_joined isp z1
    refine ⟨rfl, _, rfl, ?_⟩
    rw [ej, decide_eq_true (show V.int (needK (ks ++ [z])) = V.int (needK (ks ++ [z])) from rfl)]
    exact iteNT ⟨_, rfl, sm9.trans s14⟩
  · obtain ⟨y6, rfl, sm⟩ := h
    exact q _ ((D13.same sm).mono (by omega)) (K13.trans (Kp.of sm))
end
end Tr

namespace Tr
open PySem PySem.Spec PyProof.Rows L2
abbrev s_law : Stmt := topS 12
theorem sc_law : FnScope ["_law_script", "_law_drawn", "_law_turn"] ["_law_script"] (defScope s_law) := ⟨rfl, rfl, rfl, by decide +kernel, rfl, by decide +kernel, by decide +kernel⟩
def sp_law (K : PySem.W.Frag) : Sp := fun vs H Q _ => ∃ (a : Addr) (ns : List Int), vs = [.ref a] ∧ SqL K H a (ns.map V.int) ∧ ns.length ≤ 63 ∧ ∀ H', Q (.bl true) H'
section
variable {P : Program} {w : World} {K : PySem.W.Frag} {mg : Str → Option Value} {base : Heap}
theorem ok_law (bt : Bt mg) (c_law_draws : Cal P w K mg base "_law_draws" ["_law_script"] 1 (sp_law_draws K)) (c_law_plain_right : Cal P w K mg base "_law_plain_right" ["_law_drawn"] 3 (sp_kright 10)) (c_law_keys_right : Cal P w K mg base "_law_keys_right" ["_law_drawn"] 3 (sp_kright 50))
    {f : Addr} {fd : FuncData} (F : Fun K "law" "law" s_law f fd) : FnG P w K mg base CX0 4 f fd ["_law_script"] (sp_law K) := by
  obtain ⟨f_law_draws, fd_law_draws, G_law_draws, m_law_draws, k_law_draws, b_law_draws⟩ := c_law_draws
  obtain ⟨f_law_plain_right, fd_law_plain_right, G_law_plain_right, m_law_plain_right, k_law_plain_right, b_law_plain_right⟩ := c_law_plain_right
  obtain ⟨f_law_keys_right, fd_law_keys_right, G_law_keys_right, m_law_keys_right, k_law_keys_right, b_law_keys_right⟩ := c_law_keys_right
  refine fnG F sc_law (fun vs H Q E h => ?_) (fun cdv A outer s H vs Q E hr gg h => ?_)
  · obtain ⟨a, ns, rfl, _⟩ := h
    rfl
  obtain ⟨a, ns, rfl, sq, h63, q⟩ := h
  have hT : TT = 16777216 := rfl
  refine ⟨_, (pss_cons (ps_set (i := 1) sc_law.nd rfl (.inr rfl) (pe_callG G_law_draws gg (hr.mono (by first | decide | omega)) (by rfl) m_law_draws k_law_draws b_law_draws .nil pass0 (pa_cons (pv 0) pa_nil)))
      (pss_one (ps_ret (pe_cmpR (op_eqD hr.units) (pe_lc (own := [("_law_turn", 2)]) rfl sc_law.nd (pi_range1 (by rfl) bt.range (pa_cons pe_int pa_nil)) (blkOk_by (own := [("_law_turn", 2)]) (N := ["_law_script", "_law_drawn", "_law_turn"]) (sc := defScope s_law) (by decide +kernel)) (fun _ _ _ _ _ => (pg_name (i := 2) sc_law.nd rfl (.inl rfl))) (fun _ _ _ _ _ => (pts_one (PW.pt (pw_or (pt_not (pt_val (pe_callG G_law_plain_right gg (hr.mono (by first | decide | omega)) (by rfl) m_law_plain_right k_law_plain_right b_law_plain_right .nil pass0 (pa_cons (pv 1) pa_nil)))) (pw_or1 (pt_not (pt_val (pe_callG G_law_keys_right gg (hr.mono (by first | decide | omega)) (by rfl) m_law_keys_right k_law_keys_right b_law_keys_right .nil pass0 (pa_cons (pv 1) pa_nil))))))))) (fun _ _ _ _ _ => (pv 2))) (pe_lst pa_nil) (nomark _))))), ?_⟩
  refine ⟨_, rfl, a, ns, rfl, sq, h63, fun H0 d c r D0 s0 => ?_⟩
  refine ⟨10, rfl, by decide, by decide, fun Z nZ => ?_⟩
  refine lc_range (lo := 0) (n := Int.toNat 10) (fun i H' => H' Z = some (.lst []) ∧ Dn d c r (60 * i) H' ∧ Z ≠ d ∧ Z ≠ r ∧ Z ≠ c) ⟨upd_same, D0.new nZ, D0.new_ne nZ⟩ (fun i H' hi h => ?_) (fun H' h => ?_)
  · obtain ⟨hZ, D1, nd, nr, nc⟩ := h
    have hi' : i < 10 := hi
    refine ⟨rfl, ?_⟩
    refine ⟨_, rfl, d, c, r, _, rfl, D1, by omega, fun H2 D2 K2 => ⟨_, rfl, iteNT ?_⟩⟩
    refine ⟨_, rfl, d, c, r, _, rfl, D2, by omega, fun H3 D3 K3 => ⟨_, rfl, ?_⟩⟩
    exact ⟨K3 _ _ (K2 _ _ hZ nd nr) nd nr, D3.mono (by omega), nd, nr, nc⟩
  · obtain ⟨hZ, D1, _⟩ := h
    refine ⟨(by show 0 ≤ sizeLine; decide), fun p hp => ?_⟩
    have hZ2 := same_new (o := .lst []) hp _ _ hZ
    exact ⟨.list [], .list [], .lst (SqL.of hZ2) .nil, .lst (SqL.of upd_same) .nil, rfl, rfl, q _⟩
end
end Tr
namespace Tr
open PySem PySem.Spec PyProof.Rows L2
theorem all_mk {l : PySem.W.OpenLaw} {w : World} {K : PySem.W.Frag} {h : Heap} {mg : Str → Option Value} {fa f0 f1 f2 f3 f4 f5 f6 f7 f8 f9 : Addr} (X : K.In h) (G : h.Ns mainGlobals mg) (hfa : mg "law" = some (.ref fa))
    {od0 an0 od1 an1 od2 an2 od3 an3 od4 an4 od5 an5 od6 an6 od7 an7 od8 an8 od9 an9 : Option Addr} {sl0 sl1 sl2 sl3 sl4 sl5 sl6 sl7 sl8 sl9 : Array (Option Value)} {oc0 kV0 dc0 pm0 cd0 ct0 oc1 kV1 dc1 pm1 cd1 ct1 oc2 kV2 dc2 pm2 cd2 ct2 oc3 kV3 dc3 pm3 cd3 ct3 oc4 kV4 dc4 pm4 cd4 ct4 oc5 kV5 dc5 pm5 cd5 ct5 oc6 kV6 dc6 pm6 cd6 ct6 oc7 kV7 dc7 pm7 cd7 ct7 oc8 kV8 dc8 pm8 cd8 ct8 oc9 kV9 dc9 pm9 cd9 ct9 : Value}
    (a0 : PySem.W.nsIn K mainGlobals "_law_draws" = some (some (.ref f0))) (l0 : K.lookup f0 = some ⟨oc0, od0, .func (PySem.W.fnOf "_law_draws" "_law_draws" (defArgs s_law_draws) (defBody s_law_draws) (defScope s_law_draws) .none kV0 dc0 pm0 an0 cd0 ct0), sl0⟩) (c0 : PySem.W.codeIn K cd0 "_law_draws" = true) (k0 : PySem.W.keepIn K (.ref f0) = true)
    (a1 : PySem.W.nsIn K mainGlobals "_law_next" = some (some (.ref f1))) (l1 : K.lookup f1 = some ⟨oc1, od1, .func (PySem.W.fnOf "_law_next" "_law_next" (defArgs s_law_next) (defBody s_law_next) (defScope s_law_next) .none kV1 dc1 pm1 an1 cd1 ct1), sl1⟩) (c1 : PySem.W.codeIn K cd1 "_law_next" = true) (k1 : PySem.W.keepIn K (.ref f1) = true)
    (a2 : PySem.W.nsIn K mainGlobals "_law_size" = some (some (.ref f2))) (l2 : K.lookup f2 = some ⟨oc2, od2, .func (PySem.W.fnOf "_law_size" "_law_size" (defArgs s_law_size) (defBody s_law_size) (defScope s_law_size) .none kV2 dc2 pm2 an2 cd2 ct2), sl2⟩) (c2 : PySem.W.codeIn K cd2 "_law_size" = true) (k2 : PySem.W.keepIn K (.ref f2) = true)
    (a3 : PySem.W.nsIn K mainGlobals "_law_equal" = some (some (.ref f3))) (l3 : K.lookup f3 = some ⟨oc3, od3, .func (PySem.W.fnOf "_law_equal" "_law_equal" (defArgs s_law_equal) (defBody s_law_equal) (defScope s_law_equal) .none kV3 dc3 pm3 an3 cd3 ct3), sl3⟩) (c3 : PySem.W.codeIn K cd3 "_law_equal" = true) (k3 : PySem.W.keepIn K (.ref f3) = true)
    (a4 : PySem.W.nsIn K mainGlobals "joined_need" = some (some (.ref f4))) (l4 : K.lookup f4 = some ⟨oc4, od4, .func (PySem.W.fnOf "joined_need" "joined_need" (defArgs s_joined_need) (defBody s_joined_need) (defScope s_joined_need) .none kV4 dc4 pm4 an4 cd4 ct4), sl4⟩) (c4 : PySem.W.codeIn K cd4 "joined_need" = true) (k4 : PySem.W.keepIn K (.ref f4) = true)
    (a5 : PySem.W.nsIn K mainGlobals "_law_least" = some (some (.ref f5))) (l5 : K.lookup f5 = some ⟨oc5, od5, .func (PySem.W.fnOf "_law_least" "_law_least" (defArgs s_law_least) (defBody s_law_least) (defScope s_law_least) .none kV5 dc5 pm5 an5 cd5 ct5), sl5⟩) (c5 : PySem.W.codeIn K cd5 "_law_least" = true) (k5 : PySem.W.keepIn K (.ref f5) = true)
    (a6 : PySem.W.nsIn K mainGlobals "_law_spare" = some (some (.ref f6))) (l6 : K.lookup f6 = some ⟨oc6, od6, .func (PySem.W.fnOf "_law_spare" "_law_spare" (defArgs s_law_spare) (defBody s_law_spare) (defScope s_law_spare) .none kV6 dc6 pm6 an6 cd6 ct6), sl6⟩) (c6 : PySem.W.codeIn K cd6 "_law_spare" = true) (k6 : PySem.W.keepIn K (.ref f6) = true)
    (a7 : PySem.W.nsIn K mainGlobals "_law_plain_right" = some (some (.ref f7))) (l7 : K.lookup f7 = some ⟨oc7, od7, .func (PySem.W.fnOf "_law_plain_right" "_law_plain_right" (defArgs s_law_plain_right) (defBody s_law_plain_right) (defScope s_law_plain_right) .none kV7 dc7 pm7 an7 cd7 ct7), sl7⟩) (c7 : PySem.W.codeIn K cd7 "_law_plain_right" = true) (k7 : PySem.W.keepIn K (.ref f7) = true)
    (a8 : PySem.W.nsIn K mainGlobals "_law_keys_right" = some (some (.ref f8))) (l8 : K.lookup f8 = some ⟨oc8, od8, .func (PySem.W.fnOf "_law_keys_right" "_law_keys_right" (defArgs s_law_keys_right) (defBody s_law_keys_right) (defScope s_law_keys_right) .none kV8 dc8 pm8 an8 cd8 ct8), sl8⟩) (c8 : PySem.W.codeIn K cd8 "_law_keys_right" = true) (k8 : PySem.W.keepIn K (.ref f8) = true)
    (a9 : PySem.W.nsIn K mainGlobals "law" = some (some (.ref f9))) (l9 : K.lookup f9 = some ⟨oc9, od9, .func (PySem.W.fnOf "law" "law" (defArgs s_law) (defBody s_law) (defScope s_law) .none kV9 dc9 pm9 an9 cd9 ct9), sl9⟩) (c9 : PySem.W.codeIn K cd9 "law" = true) (k9 : PySem.W.keepIn K (.ref f9) = true)
    (zlen : PySem.W.nsIn K mainGlobals "len" = some none) (zlist : PySem.W.nsIn K mainGlobals "list" = some none) (ztuple : PySem.W.nsIn K mainGlobals "tuple" = some none) (zint : PySem.W.nsIn K mainGlobals "int" = some none) (zbool : PySem.W.nsIn K mainGlobals "bool" = some none) (zstr : PySem.W.nsIn K mainGlobals "str" = some none) (zrange : PySem.W.nsIn K mainGlobals "range" = some none) (zmin : PySem.W.nsIn K mainGlobals "min" = some none) (zmax : PySem.W.nsIn K mainGlobals "max" = some none) (zsorted : PySem.W.nsIn K mainGlobals "sorted" = some none) (zsum : PySem.W.nsIn K mainGlobals "sum" = some none) (zall : PySem.W.nsIn K mainGlobals "all" = some none) (zzip : PySem.W.nsIn K mainGlobals "zip" = some none) (zenumerate : PySem.W.nsIn K mainGlobals "enumerate" = some none) (zisinstance : PySem.W.nsIn K mainGlobals "isinstance" = some none) (zrepr : PySem.W.nsIn K mainGlobals "repr" = some none) (zset : PySem.W.nsIn K mainGlobals "set" = some none) :
    ∃ fd : FuncData, (∀ (s : Shared) (v : Value), BindsTo s fd ⟨[v], []⟩ [("_law_script", v)]) ∧ ∀ base : Heap, K.In base → base.Ns mainGlobals mg → FnG l.prog w K mg base CX0 4 fa fd ["_law_script"] (sp_law K) := by
  have e := hfa.symm.trans (PySem.W.mg_of X G a9)
  cases e
  have F_law_draws := fun_mk (st := s_law_draws) l0 c0 k0
  have b_law_draws := F_law_draws.binds (ps := ["_law_script"]) fun _ _ _ _ _ _ us hl => match us, hl with | [_], _ => rfl
  have m_law_draws := PySem.W.mg_of X G a0
  have F_law_next := fun_mk (st := s_law_next) l1 c1 k1
  have b_law_next := F_law_next.binds (ps := ["_law_drawn", "_law_many"]) fun _ _ _ _ _ _ us hl => match us, hl with | [_, _], _ => rfl
  have m_law_next := PySem.W.mg_of X G a1
  have F_law_size := fun_mk (st := s_law_size) l2 c2 k2
  have b_law_size := F_law_size.binds (ps := ["_law_drawn", "_law_great"]) fun _ _ _ _ _ _ us hl => match us, hl with | [_, _], _ => rfl
  have m_law_size := PySem.W.mg_of X G a2
  have F_law_equal := fun_mk (st := s_law_equal) l3 c3 k3
  have b_law_equal := F_law_equal.binds (ps := ["_law_one_here", "_law_other"]) fun _ _ _ _ _ _ us hl => match us, hl with | [_, _], _ => rfl
  have m_law_equal := PySem.W.mg_of X G a3
  have F_joined_need := fun_mk (st := s_joined_need) l4 c4 k4
  have b_joined_need := F_joined_need.binds (ps := ["need", "spare", "key"]) fun _ _ _ _ _ _ us hl => match us, hl with | [_, _, _], _ => rfl
  have m_joined_need := PySem.W.mg_of X G a4
  have F_law_least := fun_mk (st := s_law_least) l5 c5 k5
  have b_law_least := F_law_least.binds (ps := ["_law_keys"]) fun _ _ _ _ _ _ us hl => match us, hl with | [_], _ => rfl
  have m_law_least := PySem.W.mg_of X G a5
  have F_law_spare := fun_mk (st := s_law_spare) l6 c6 k6
  have b_law_spare := F_law_spare.binds (ps := ["_law_keys"]) fun _ _ _ _ _ _ us hl => match us, hl with | [_], _ => rfl
  have m_law_spare := PySem.W.mg_of X G a6
  have F_law_plain_right := fun_mk (st := s_law_plain_right) l7 c7 k7
  have b_law_plain_right := F_law_plain_right.binds (ps := ["_law_drawn"]) fun _ _ _ _ _ _ us hl => match us, hl with | [_], _ => rfl
  have m_law_plain_right := PySem.W.mg_of X G a7
  have F_law_keys_right := fun_mk (st := s_law_keys_right) l8 c8 k8
  have b_law_keys_right := F_law_keys_right.binds (ps := ["_law_drawn"]) fun _ _ _ _ _ _ us hl => match us, hl with | [_], _ => rfl
  have m_law_keys_right := PySem.W.mg_of X G a8
  have F_law := fun_mk (st := s_law) l9 c9 k9
  have b_law := F_law.binds (ps := ["_law_script"]) fun _ _ _ _ _ _ us hl => match us, hl with | [_], _ => rfl
  have m_law := PySem.W.mg_of X G a9
  have bt : Bt mg := ⟨PySem.W.mg_none_of X G zlen, PySem.W.mg_none_of X G zlist, PySem.W.mg_none_of X G ztuple, PySem.W.mg_none_of X G zint, PySem.W.mg_none_of X G zbool, PySem.W.mg_none_of X G zstr, PySem.W.mg_none_of X G zrange, PySem.W.mg_none_of X G zmin, PySem.W.mg_none_of X G zmax, PySem.W.mg_none_of X G zsorted, PySem.W.mg_none_of X G zsum, PySem.W.mg_none_of X G zall, PySem.W.mg_none_of X G zzip, PySem.W.mg_none_of X G zenumerate, PySem.W.mg_none_of X G zisinstance, PySem.W.mg_none_of X G zrepr, PySem.W.mg_none_of X G zset⟩
  refine ⟨PySem.W.fnOf "law" "law" (defArgs s_law) (defBody s_law) (defScope s_law) .none kV9 dc9 pm9 an9 cd9 ct9, fun s v => .of_eq rfl, fun base _ _ => ?_⟩
  have c_law_draws : Cal l.prog w K mg base "_law_draws" ["_law_script"] _ _ := ⟨_, _, ok_law_draws bt F_law_draws, m_law_draws, F_law_draws.kp, b_law_draws⟩
  have c_law_next : Cal l.prog w K mg base "_law_next" ["_law_drawn", "_law_many"] _ _ := ⟨_, _, ok_law_next bt F_law_next, m_law_next, F_law_next.kp, b_law_next⟩
  have c_law_size : Cal l.prog w K mg base "_law_size" ["_law_drawn", "_law_great"] _ _ := ⟨_, _, ok_law_size bt c_law_next F_law_size, m_law_size, F_law_size.kp, b_law_size⟩
  have c_law_equal : Cal l.prog w K mg base "_law_equal" ["_law_one_here", "_law_other"] _ _ := ⟨_, _, ok_law_equal bt F_law_equal m_law_equal b_law_equal 2, m_law_equal, F_law_equal.kp, b_law_equal⟩
  have c_joined_need : Cal l.prog w K mg base "joined_need" ["need", "spare", "key"] _ _ := ⟨_, _, ok_joined bt F_joined_need, m_joined_need, F_joined_need.kp, b_joined_need⟩
  have c_law_least : Cal l.prog w K mg base "_law_least" ["_law_keys"] _ _ := ⟨_, _, ok_least bt F_law_least, m_law_least, F_law_least.kp, b_law_least⟩
  have c_law_spare : Cal l.prog w K mg base "_law_spare" ["_law_keys"] _ _ := ⟨_, _, ok_spare bt c_law_least F_law_spare, m_law_spare, F_law_spare.kp, b_law_spare⟩
  have c_law_plain_right : Cal l.prog w K mg base "_law_plain_right" ["_law_drawn"] _ _ := ⟨_, _, ok_plain_right bt c_law_next c_law_size c_law_equal c_joined_need F_law_plain_right, m_law_plain_right, F_law_plain_right.kp, b_law_plain_right⟩
  have c_law_keys_right : Cal l.prog w K mg base "_law_keys_right" ["_law_drawn"] _ _ := ⟨_, _, ok_keys_right bt c_law_next c_law_size c_law_least c_law_spare c_joined_need F_law_keys_right, m_law_keys_right, F_law_keys_right.kp, b_law_keys_right⟩
  exact ok_law bt c_law_draws c_law_plain_right c_law_keys_right F_law
end Tr
open PySem PySem.W PyProof.Rows
set_option maxHeartbeats 0 in
theorem PySem.Challenge.cw_tellrounds_k48_joined_needs_holds : PySem.Challenge.rw_tellrounds_k48_joined_needs.Holds := by
  w_on; o_law; k_head; (case hw => w_witness2)
  k_fill
  refine Tr.walkG (l := PySem.Challenge.rw_tellrounds_k48_joined_needs) (n := 63) (k := 4) (x := "_law_script") (sp := fun K => Tr.sp_law K) rfl (by decide) rfl ⟨rfl, by decide, by decide⟩ (fun w h Y => PySem.W.kIn_of Y) ?F (fun _ _ a ns hl _ hS => ⟨a, ns, rfl, hS, hl, fun _ => rfl⟩)
  case F =>
    intro w mg fa h KX G hmg
    refine' Tr.all_mk KX G hmg ?a0 ?l0 ?c0 ?k0 ?a1 ?l1 ?c1 ?k1 ?a2 ?l2 ?c2 ?k2 ?a3 ?l3 ?c3 ?k3 ?a4 ?l4 ?c4 ?k4 ?a5 ?l5 ?c5 ?k5 ?a6 ?l6 ?c6 ?k6 ?a7 ?l7 ?c7 ?k7 ?a8 ?l8 ?c8 ?k8 ?a9 ?l9 ?c9 ?k9 ?zlen ?zlist ?ztuple ?zint ?zbool ?zstr ?zrange ?zmin ?zmax ?zsorted ?zsum ?zall ?zzip ?zenumerate ?zisinstance ?zrepr ?zset
    (case a0 => k_is)
    (case l0 => k_is)
    (case c0 => k_is)
    (case k0 => k_is)
    (case a1 => k_is)
    (case l1 => k_is)
    (case c1 => k_is)
    (case k1 => k_is)
    (case a2 => k_is)
    (case l2 => k_is)
    (case c2 => k_is)
    (case k2 => k_is)
    (case a3 => k_is)
    (case l3 => k_is)
    (case c3 => k_is)
    (case k3 => k_is)
    (case a4 => k_is)
    (case l4 => k_is)
    (case c4 => k_is)
    (case k4 => k_is)
    (case a5 => k_is)
    (case l5 => k_is)
    (case c5 => k_is)
    (case k5 => k_is)
    (case a6 => k_is)
    (case l6 => k_is)
    (case c6 => k_is)
    (case k6 => k_is)
    (case a7 => k_is)
    (case l7 => k_is)
    (case c7 => k_is)
    (case k7 => k_is)
    (case a8 => k_is)
    (case l8 => k_is)
    (case c8 => k_is)
    (case k8 => k_is)
    (case a9 => k_is)
    (case l9 => k_is)
    (case c9 => k_is)
    (case k9 => k_is)
    (case zlen => k_is)
    (case zlist => k_is)
    (case ztuple => k_is)
    (case zint => k_is)
    (case zbool => k_is)
    (case zstr => k_is)
    (case zrange => k_is)
    (case zmin => k_is)
    (case zmax => k_is)
    (case zsorted => k_is)
    (case zsum => k_is)
    (case zall => k_is)
    (case zzip => k_is)
    (case zenumerate => k_is)
    (case zisinstance => k_is)
    (case zrepr => k_is)
    (case zset => k_is)


#print axioms PySem.Challenge.cw_tellrounds_k48_joined_needs_holds
