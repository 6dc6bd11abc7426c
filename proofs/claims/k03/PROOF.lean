import PyProof.Rows.All
import Wide.All
import OpenK.AllK
import Wide.FinOn
import HandS.ForMost
import HandS.TupSets
import HandS.IsInst
import HandS.Conv
import HandS.NoneIn
import HandS.Zip
import HandS.Deep
import HandS.Walk
import HandS.Codes
import HandS.Strs
import HandS.SetFor
import HandS.DictComp
import PySem.Challenge.RW_tellrounds_k03_paths_and_distances
set_option Elab.async false
set_option linter.all false
set_option maxRecDepth 100000
set_option maxHeartbeats 4000000
/-! ### A0. Own base: defs that are called where no repr runs; repr of data; the built-in names -/
namespace Tr
open PySem PySem.Spec PyProof.Rows L2

/-- a def's promise, asked only where no repr is under way -/
structure FnG (P : Program) (w : World) (K : PySem.W.Frag) (mg : Str → Option Value) (base : Heap) (CX : CXT) (k : Nat) (f : Addr) (fd : FuncData) (ps : List Str) (sp : Sp) : Prop where
  ln : ∀ vs H Q E, sp vs H Q E → vs.length = ps.length
  go : ∀ (A : Around), A.guards = some [] → ∀ (outer : List Env) (s : Shared) (H : Hp) (args : Args) (us : List Value) (vs : List V) (Q : VK) (E : XK), Room k A →
    Env0 P w K mg base A outer s H → BindsTo s fd args (ps.zip us) → Vals vs us → sp vs H Q E → codeAny (model P w) A (.call (.ref f) args) (CR CX outer P w H s Q E) s
section
variable {P : Program} {w : World} {K : PySem.W.Frag} {mg : Str → Option Value} {base : Heap} {CX : CXT} {k j : Nat} {f : Addr} {fd : FuncData} {ps : List Str} {sp sp' : Sp}
theorem FnG.up (F : FnG P w K mg base CX j f fd ps sp) (h : j ≤ k) : FnG P w K mg base CX k f fd ps sp :=
  ⟨F.ln, fun A hg o s H ar us vs Q E r => F.go A hg o s H ar us vs Q E (r.mono h)⟩
theorem FnG.of (F : FnOk P w K mg base CX k f fd ps sp) : FnG P w K mg base CX k f fd ps sp := ⟨F.len, fun A _ => F.run A⟩
theorem deeper_g {A : Around} {env : Env} (h : A.guards = some []) : (A.deeper env).guards = some [] := by
  first
    | exact h
    | (simp [Around.deeper]; exact h)
end

section
variable {X : Cx} {CX : CXT} {k : Nat} {f : Addr} {fd : FuncData} {ps : List Str} {sp : Sp} {dvs : List V} {ds : List Value} {E : XK} {x : Str} {p pos : Pos} {e : Expr} {es : List Expr} {t : TA}
theorem runG {pins : List (Addr × Obj)} {σ : L2.St} {H : Hp} {s : Shared} {Q : VK} {us : List Value} {vs : List V} (F : FnG X.prog X.w X.K X.mg X.base CX k f fd ps sp) (gg : X.A.guards = some []) (hr : Room k X.A)
    (hb : Binds X.K fd ps ds) (hd : Vals dvs ds) (hx : Passes CX X E) (I : Inv X pins σ H s) (r : Vals vs us) (h : sp (vs ++ dvs) H Q E) :
    wpAny (model X.prog X.w) X.A (call (.ref f) us) (EP X pins σ Q) X.xe s := by
  have both : Vals (vs ++ dvs) (us ++ ds) := Vals.append r hd
  have many : (us ++ ds).length = ps.length := both.length ▸ F.ln _ _ _ _ h
  have ran := F.go X.A gg X.stack s H ⟨us, []⟩ (us ++ ds) (vs ++ dvs) Q E hr (Inv.env0 I) (hb s us I.kIn many) both h
  refine wpAny_call (codeAny_mono ran ?_)
  rintro (_ | _ | _ | u | e) s' got
  all_goals first
    | exact Inv.after I got
    | exact (False.elim got)
    | exact hx pins σ H s _ s' I got
theorem pe_callG (F : FnG X.prog X.w X.K X.mg X.base CX k f fd ps sp) (gg : X.A.guards = some []) (hr : Room k X.A) (hg : Gl X x) (hm : X.mg x = some (.ref f)) (hk : PySem.W.keepIn X.K (.ref f) = true)
    (hb : Binds X.K fd ps ds) (hd : Vals dvs ds) (hx : Passes CX X E) (ha : PA X (e :: es) t) (hdb : (x == ("__debug__" : Str)) = false := by decide)
    (he : starEach (e :: es) X.env = (false, eval e X.env) :: starEach es X.env := by rfl) (hpl : (backTo pos (starEach es X.env)).any (·.1) = false := by rfl) :
    PE X (.Call (.Name x p) (e :: es) [] pos) (tCall sp dvs E t) :=
  ⟨fun pins s σ H Q I h => wpAny_Call_Name_kw (ld_glob I hg hm (PySem.W.callWith_K (h₀ := X.base) I.ok.mod.kin hk
    (thn (ha.run pos pins s σ H _ I h) fun us s1 ⟨vs, H1, I1, r, q⟩ => ⟨I1.kIn, runG F gg hr hb hd hx I1 r q⟩) he hpl) hdb)⟩
theorem pe_callG0 (F : FnG X.prog X.w X.K X.mg X.base CX k f fd ps sp) (gg : X.A.guards = some []) (hr : Room k X.A) (hg : Gl X x) (hm : X.mg x = some (.ref f)) (hk : PySem.W.keepIn X.K (.ref f) = true)
    (hb : Binds X.K fd ps ds) (hd : Vals dvs ds) (hx : Passes CX X E) (hdb : (x == ("__debug__" : Str)) = false := by decide) : PE X (.Call (.Name x p) [] [] pos) (tCall sp dvs E tNil) :=
  ⟨fun pins s σ H Q I h => wpAny_Call_Name_kw (ld_glob I hg hm (PySem.W.callWith_K0 I.kIn hk (runG (us := []) F gg hr hb hd hx I .nil h)) hdb)⟩
end

section
variable {P : Program} {w : World} {K : PySem.W.Frag} {mg : Str → Option Value} {base : Heap}
/-- a def of the text keeps its promise if its body does -/
theorem fnG {x qual : Str} {st : Stmt} {f : Addr} {fd : FuncData} {N ps : List Str} {k : Nat} {sp : Sp} (F : Fun K x qual st f fd) (S : FnScope N ps (defScope st)) (ln : ∀ vs H Q E, sp vs H Q E → vs.length = ps.length)
    (bd : ∀ (cdv : Value) (A : Around) (outer : List Env) (s : Shared) (H : Hp) (vs : List V) (Q : VK) (E : XK), Room k (A.deeper (envOfC qual (defScope st) s.heap.objs.size f cdv)) → (A.deeper (envOfC qual (defScope st) s.heap.objs.size f cdv)).guards = some [] →
      sp vs H Q E → ∃ t, PSs (cxOf CX0 P w K mg base N qual (defScope st) f cdv A outer s H E).nox (defBody st) t ∧ t { nx := fun _ H' => Q .non H', rt := Q } (start N vs) H) : FnG P w K mg base CX0 (k + 1) f fd ps sp := by
  obtain ⟨oc, od, kV, doc, pm, an, cdv, ct, osl, hfd, look, isC⟩ := F.ex
  subst hfd
  refine ⟨ln, ?_⟩
  intro A gA outer s H args us vs Q E room e0 bnd rel pr
  have inK : K.In s.heap := e0.mod.kin.keeps fun b o z => (e0.bs b o z).1
  have noL : s.heap.NoLimit := e0.mod.nolimit.keeps fun b o z => (e0.bs b o z).1
  have kinds : ∀ y ∈ ps.zip us, (defScope st).names.lookup y.1 = some .local ∨ ((defScope st).names.lookup y.1 = some .cell ∧ ((cellsFrom (s.heap.objs.size + 1) (defScope st).names []).lookup y.1).isSome = true) := by
    rintro ⟨n, v⟩ hy
    exact (S.par n (List.of_mem_zip hy).1).imp id fun q => ⟨q, PySem.W.cellsFrom_some _ _ _ (.inl q)⟩
  refine codeAny_call_function room.depth (inK _ _ look) rfl S.co S.gen rfl (PySem.W.codeRec_of inK isC) (bnd _ _ _ _ (wpAny_newFunctionEnv_cells S.kind kinds ?_))
  rintro env rfl s1 x1
  refine ⟨noL.keeps x1.toInCall.keep, codeAny_func ?_⟩
  obtain ⟨t, body, want⟩ := bd cdv A outer s H vs Q E (Room.deeper room _) (deeper_g gA) pr
  have inv0 := inv_start (E := E) (CX := CX0) (qual := qual) (cd := cdv) S room.hd e0 (ln _ _ _ _ pr) rel x1
  have ran := (body.nox).run [] s1 (start N vs) H _ inv0 want
  refine wpAny_mono ran ?_ (fun _ _ z => z)
  rintro (_ | _ | _ | u) s' got
  · obtain ⟨σ', H', J, q⟩ := got
    exact ⟨.non, H', J.os, J.bare, J.base, J.hok, rfl, q⟩
  · obtain ⟨_, _, _, q⟩ := got
    exact q.elim
  · obtain ⟨_, _, _, q⟩ := got
    exact q.elim
  · obtain ⟨v, σ', H', J, rv, q⟩ := got
    exact ⟨v, H', J.os, J.bare, J.base, J.hok, rv, q⟩

/-- a def by its name: where it stands, what it promises -/
def Cal (P : Program) (w : World) (K : PySem.W.Frag) (mg : Str → Option Value) (base : Heap) (x : Str) (ps : List Str) (k : Nat) (sp : Sp) : Prop :=
  ∃ (f : Addr) (fd : FuncData), FnG P w K mg base CX0 k f fd ps sp ∧ mg x = some (.ref f) ∧ PySem.W.keepIn K (.ref f) = true ∧ Binds K fd ps []
end

/-- the built-in names that the text uses -/
structure Bt (mg : Str → Option Value) : Prop where
  len : mg "len" = none
  list : mg "list" = none
  tuple : mg "tuple" = none
  int : mg "int" = none
  bool : mg "bool" = none
  str : mg "str" = none
  range : mg "range" = none
  min : mg "min" = none
  max : mg "max" = none
  sorted : mg "sorted" = none
  sum : mg "sum" = none
  all : mg "all" = none
  zip : mg "zip" = none
  enumerate : mg "enumerate" = none
  isinstance : mg "isinstance" = none
  repr : mg "repr" = none
  set : mg "set" = none
theorem bb_len : bootBuiltins "len" = some (.builtin "len") := by decide +kernel
theorem bb_list : bootBuiltins "list" = some (.type "list") := by decide +kernel
theorem bb_tuple : bootBuiltins "tuple" = some (.type "tuple") := by decide +kernel
theorem bb_int : bootBuiltins "int" = some (.type "int") := by decide +kernel
theorem bb_bool : bootBuiltins "bool" = some (.type "bool") := by decide +kernel
theorem bb_str : bootBuiltins "str" = some (.type "str") := by decide +kernel
theorem bb_min : bootBuiltins "min" = some (.builtin "min") := by decide +kernel
theorem bb_max : bootBuiltins "max" = some (.builtin "max") := by decide +kernel
theorem bb_sorted : bootBuiltins "sorted" = some (.builtin "sorted") := by decide +kernel
theorem bb_sum : bootBuiltins "sum" = some (.builtin "sum") := by decide +kernel
theorem bb_all : bootBuiltins "all" = some (.builtin "all") := by decide +kernel
theorem bb_isinstance : bootBuiltins "isinstance" = some (.builtin "isinstance") := by decide +kernel
theorem bb_set : bootBuiltins "set" = some (.type "set") := by decide +kernel
theorem bb_repr : bootBuiltins "repr" = some (.builtin "repr") := by decide +kernel

/-- rules whose readings name the written part: within a comprehension it is named by hand -/
def qLen (K : PySem.W.Frag) : List V → Hp → VK → Prop := fun vs H Q => ∃ p ys, vs = [.ref p] ∧ (SqL K H p ys ∨ SqT K H p ys) ∧ Q (.int ys.length) H
def qListOf (K : PySem.W.Frag) : List V → Hp → VK → Prop := fun vs H Q => ∃ p ys, vs = [.ref p] ∧ (SqL K H p ys ∨ SqT K H p ys) ∧ ∀ l, H l = none → Q (.ref l) (upd H l (.lst ys))
def qTupOf (K : PySem.W.Frag) : List V → Hp → VK → Prop := fun vs H Q => ∃ p ys, vs = [.ref p] ∧ ((SqL K H p ys ∧ ∀ l, H l = none → Q (.ref l) (upd H l (.tup ys))) ∨ (SqT K H p ys ∧ Q (.ref p) H))
theorem q_len {X : Cx} : CallR X (.builtin "len") (qLen X.K) := call_len_seq
theorem q_list {X : Cx} : CallR X (.type "list") (qListOf X.K) := call_list_of
theorem q_tuple {X : Cx} : CallR X (.type "tuple") (qTupOf X.K) := call_tuple_of

/-- repr of a list or tuple of data -/
def rReprD (K : PySem.W.Frag) : List V → Hp → VK → Prop := fun xs H Q => ∃ x d, xs = [x] ∧ Dp K H x d ∧ isDisplay d = true ∧ d.showable = true ∧ d.hasDict = false ∧ d.depth ≤ 60 ∧ d.shown.length ≤ sizeLine ∧ Q (.str d.shown) H
theorem call_reprD {X : Cx} (gg : X.A.guards = some []) (hu : X.A.units + 64 < cLine) : CallR X (.builtin "repr") (rReprD X.K) := by
  rintro pins s σ H xs us Q I r ⟨x, d, rfl, hd, disp, show1, nd, dep, sz, q⟩
  obtain ⟨u, rfl, ru⟩ := vals1 r
  obtain ⟨as, rd⟩ := Dp.reads I d x u hd ru
  obtain ⟨a, rfl⟩ := isRef_of_reads rd disp
  exact repr_of_reads' rd show1 (PyData.noDict_hsm nd) gg (by omega) (fun _ _ z => z) (fun h' u tk old => ⟨.str d.shown, H, I.kept (t' := tk) old, ⟨u, rfl⟩, q⟩) sz
end Tr

/-! ### A1. The end of a law whose def is called where no repr runs -/
namespace Tr
open PySem PySem.Spec PyProof.Rows L2
section
variable {P : Program} {w : World} {K : PySem.W.Frag} {mg mb : Str → Option Value} {k : Nat} {fa a : Addr} {fd : FuncData} {x : Str} {sp : Sp} {s1 : Shared} {vs : List Value} {ns : List Int}
def EndsTrue (s1 : Shared) (r : Result) (s' : Shared) : Prop := r = .ok (.ret (.bool true)) ∧ OldK s1.heap s'.heap ∧ s'.os = s1.os ∧ AllBare s'.gens
/-- from one abstract heap that tracks the script alone, or nothing -/
theorem law_from {H : Hp} (KX : K.In s1.heap) (g1 : s1.heap.Ns mainGlobals mg) (g2 : s1.heap.Ns builtinsNs mb) (g3 : ∀ x : Str, x ≠ "__name__" → mb x = bootBuiltins x) (g4 : s1.heap.NoLimit) (g5 : s1.gens = #[])
    (g6 : s1.heap.get? a = some { cls := .type "list", data := .seq vs.toArray }) (hr : Room k callerA)
    (F : ∀ base : Heap, K.In base → base.Ns mainGlobals mg → FnG P w K mg base CX0 k fa fd [x] sp) (bnd : ∀ (s : Shared) (u : Value), BindsTo s fd ⟨[u], []⟩ [(x, u)])
    (pr : sp [.ref a] H (fun v _ => v = .bl true) fun _ _ _ => False) (only : Only H) (ok : HOk P w H s1.heap) (alone : ∀ b, H b ≠ none → b = a) (notK : H a ≠ none → K.lookup a = none) :
    codeAny (model P w) callerA (.call (.ref fa) ⟨[.ref a], []⟩) (EndsTrue s1) s1 := by
  have dictFree : ∀ {b : Addr} {o : Obj} {es : Array DictEntry} {ep : Nat}, s1.heap.get? b = some o → o.data = .dict es ep → H b = none := by
    intro b o es ep e d
    refine Classical.byContradiction fun q => ?_
    have hb := alone b q
    rw [hb, g6] at e
    have eo := Option.some.inj e
    rw [← eo] at d
    exact nomatch d
  have nsB : ∀ {b : Addr} {m : Str → Option Value}, s1.heap.Ns b m → (hidT s1.heap H).Ns b m := by
    rintro b m ⟨o, es, ep, e, d, more⟩
    exact ⟨o, es, ep, hidT_get e (dictFree e d), d, more⟩
  have inB : K.In (hidT s1.heap H) := by
    intro b o e
    refine hidT_get (KX b o e) (Classical.byContradiction fun q => ?_)
    have hb := alone b q
    have none_at := notK (hb ▸ q)
    rw [hb, none_at] at e
    cases e
  obtain ⟨mc, c1, c2⟩ := g4
  have md : Mod K mg (hidT s1.heap H) := { kin := inB, glob := nsB g1, blt := ⟨mb, nsB g2, g3⟩, nolimit := ⟨mc, nsB c1, c2⟩ }
  have e0 : Env0 P w K mg (hidT s1.heap H) callerA [] s1 H :=
    { frames := rfl, mod := md, bs := fun b o e => of_hidT e, bsz := Nat.le_of_eq (hidT_size _ _), funs := trivial, frf := fun b hb => absurd hb List.not_mem_nil, hok := ok, bare := .of_eq g5 }
  have ran := (F _ inB (nsB g1)).go callerA rfl [] s1 H ⟨[.ref a], []⟩ [.ref a] [.ref a] _ _ hr e0 (bnd s1 (.ref a)) (.cons rfl .nil) pr
  refine codeAny_mono ran ?_
  rintro (e | fl) s' got
  · exact False.elim got
  rcases fl with _ | _ | _ | u
  all_goals try exact False.elim got
  obtain ⟨v, H', os, bare, un, ok', rv, vt⟩ := got
  have vt' : v = .bl true := vt
  subst vt'
  have ut : u = Value.bool true := rv
  subst ut
  refine ⟨rfl, OldK.of_keep fun b o e => ?_, os, bare⟩
  have kept : H b = none → s'.heap.get? b = some o := fun q => un.keep b o e q List.not_mem_nil List.not_mem_nil
  rcases only b with q | ⟨ob, xs, q⟩
  · exact kept q
  · have was := (ok b _ q).1
    have now := (ok' b _ (un.frzs b ob _ q)).1
    rw [was] at e
    exact now.trans e
/-- the law's def at the heap behind the top -/
theorem law_goG (KX : K.In s1.heap) (g1 : s1.heap.Ns mainGlobals mg) (g2 : s1.heap.Ns builtinsNs mb) (g3 : ∀ x : Str, x ≠ "__name__" → mb x = bootBuiltins x) (g4 : s1.heap.NoLimit) (g5 : s1.gens = #[])
    (g6 : s1.heap.get? a = some { cls := .type "list", data := .seq vs.toArray }) (areInts : IntsAre vs ns) (short : ns.length ≤ sizeLine) (hr : Room k callerA)
    (F : ∀ base : Heap, K.In base → base.Ns mainGlobals mg → FnG P w K mg base CX0 k fa fd [x] sp) (bnd : ∀ (s : Shared) (u : Value), BindsTo s fd ⟨[u], []⟩ [(x, u)])
    (pr : ∀ H : Hp, Only H → SqL K H a (ns.map V.int) → sp [.ref a] H (fun v _ => v = .bl true) fun _ _ _ => False) :
    codeAny (model P w) callerA (.call (.ref fa) ⟨[.ref a], []⟩) (EndsTrue s1) s1 := by
  have rv := vals_ints areInts
  cases inK : K.lookup a with
  | some o =>
    have same := KX a o inK
    rw [g6] at same
    have eo := Option.some.inj same
    subst eo
    let H0 : Hp := fun _ => none
    have sq : SqL K H0 a (ns.map V.int) := .inr ⟨_, vs.toArray, _, inK, rfl, rfl, rfl, by rw [List.size_toArray, areInts.length]; exact short, by simpa using rv⟩
    exact law_from (H := H0) KX g1 g2 g3 g4 g5 g6 hr F bnd (pr H0 (fun _ => .inl rfl) sq) (fun _ => .inl rfl) (fun b u z => nomatch (show (none : Option HO) = some u from z)) (fun b z => (z rfl).elim) fun z => (z rfl).elim
  | none =>
    let scr : Obj := { cls := .type "list", data := .seq vs.toArray }
    let H1 : Hp := fun b => if b = a then some (.frz scr (.lst (ns.map V.int))) else none
    have at_a : H1 a = some (.frz scr (.lst (ns.map V.int))) := if_pos rfl
    have other : ∀ b, b ≠ a → H1 b = none := fun b h => if_neg h
    have only : Only H1 := fun b => (Decidable.em (b = a)).elim (fun h => .inr ⟨scr, ns.map V.int, h ▸ at_a⟩) fun h => .inl (other b h)
    refine law_from (H := H1) KX g1 g2 g3 g4 g5 g6 hr F bnd (pr H1 only (.inl (.inr ⟨scr, at_a⟩))) only (fun b u z => ?_) (fun b z => Decidable.byContradiction fun h => z (other b h)) fun _ => inK
    by_cases h : b = a
    · subst h
      rw [at_a] at z
      have eu := Option.some.inj z
      subst eu
      exact ⟨g6, by rw [List.length_map]; exact short, vs, 0, rv, g6⟩
    · rw [other b h] at z
      cases z
end
/-- what k_head leaves, from the law's promise -/
theorem walkG {l : PySem.W.OpenLaw} {n k : Nat} {q : Program} {loose : List Str} {XP : (Str → Option Value) → Heap → Prop} {YP : World → Heap → Prop} {d : DefRec} {K : Params → PySem.W.Frag} {sp : PySem.W.Frag → Sp} {x : Str}
    (most : l.most = some n) (n2 : n ≤ sizeLine) (nodef : d.params.defaults = []) (hr : Room k callerA) (inY : ∀ (w : World) (h : Heap), YP w h → (K w.params).In h)
    (F : ∀ (w : World) (mg : Str → Option Value) (fa : Addr) (h : Heap), (K w.params).In h → h.Ns mainGlobals mg → mg d.name = some (.ref fa) →
      ∃ fd : FuncData, (∀ (s : Shared) (u : Value), BindsTo s fd ⟨[u], []⟩ [(x, u)]) ∧ ∀ base : Heap, (K w.params).In base → base.Ns mainGlobals mg → FnG l.prog w (K w.params) mg base CX0 k fa fd [x] (sp (K w.params)))
    (pr : ∀ (K : PySem.W.Frag) (H : Hp) (a : Addr) (ns : List Int), ns.length ≤ n → Only H → SqL K H a (ns.map V.int) → sp K [.ref a] H (fun v _ => v = .bl true) fun _ _ _ => False) :
    PySem.W.WalkO q loose XP YP l.row.toRowW d [] (fun f vs => PySem.call f vs) := by
  refine Att.attach_call most nodef ?_
  intro w s0 s1 mg mb fa o pm cd doc a vs ns G Y ho hd hcd named hobj areInts len bare
  obtain ⟨fd, bnd, all⟩ := F w mg fa _ (inY w _ Y) G.T.g named
  exact law_goG (inY w _ Y) G.T.g G.T.b G.T.builtins G.T.nolimit bare hobj areInts (Nat.le_trans len n2) hr all bnd fun H only sq => pr _ H a ns len only sq
end Tr

/-! ### A2. What draws change; the draw itself -/
namespace Tr
open PySem PySem.Spec PyProof.Rows L2

/-- all but the objects at d and r stands -/
def Kp (d r : Addr) (H H' : Hp) : Prop := ∀ b o, H b = some o → b ≠ d → b ≠ r → H' b = some o
theorem Kp.refl (d r : Addr) (H : Hp) : Kp d r H H := fun _ _ h _ _ => h
theorem Kp.trans {d r : Addr} {H H1 H2 : Hp} (a : Kp d r H H1) (b : Kp d r H1 H2) : Kp d r H H2 := fun x o h n1 n2 => b x o (a x o h n1 n2) n1 n2
theorem Kp.of {d r : Addr} {H H' : Hp} (s : Same H H') : Kp d r H H' := fun b o h _ _ => s b o h
theorem same_new {H : Hp} {p : Addr} {o : HO} (h : H p = none) : Same H (upd H p o) := fun b u q => (upd_ne (ne_of_none q h)).trans q
theorem new_ne {H H' : Hp} {p b : Addr} {o : HO} (s : Same H H') (h : H b = some o) (n : H' p = none) : b ≠ p := ne_of_none (s b o h) n

/-- the drawn list at d: its cells at c, the turn n, its rests at r -/
structure Dr (H : Hp) (d c r : Addr) (n : Nat) : Prop where
  hd : H d = some (.lst [.ref c, .int n, .ref r])
  hc : ∃ cs rs : List Int, H c = some (.lst (cs.map V.int)) ∧ H r = some (.lst (rs.map V.int)) ∧ rs.length = cs.length ∧ 0 < cs.length ∧ cs.length ≤ 63
  cr : c ≠ r
/-- .. with at most N turns -/
def Dn (d c r : Addr) (N : Nat) (H : Hp) : Prop := ∃ n, n ≤ N ∧ Dr H d c r n
theorem map_int_ne {l : List Int} {c r : Addr} {n : Int} : (HO.lst (l.map V.int)) ≠ .lst [.ref c, .int n, .ref r] := by
  intro h
  have h2 : l.map V.int = [.ref c, .int n, .ref r] := by injection h
  cases l with
  | nil => cases h2
  | cons a b =>
    have h3 : V.int a = V.ref c := (List.cons.inj h2).1
    cases h3
theorem Dr.cd {H : Hp} {d c r : Addr} {n : Nat} (x : Dr H d c r n) : c ≠ d := by
  obtain ⟨cs, rs, h, _⟩ := x.hc
  exact ne_of h x.hd map_int_ne
theorem Dr.rd {H : Hp} {d c r : Addr} {n : Nat} (x : Dr H d c r n) : r ≠ d := by
  obtain ⟨cs, rs, _, h, _⟩ := x.hc
  exact ne_of h x.hd map_int_ne
theorem Dr.same {H H' : Hp} {d c r : Addr} {n : Nat} (x : Dr H d c r n) (s : Same H H') : Dr H' d c r n := by
  obtain ⟨cs, rs, h1, h2, h3⟩ := x.hc
  exact ⟨s _ _ x.hd, ⟨cs, rs, s _ _ h1, s _ _ h2, h3⟩, x.cr⟩
theorem Dn.same {H H' : Hp} {d c r : Addr} {N : Nat} (x : Dn d c r N H) (s : Same H H') : Dn d c r N H' := let ⟨n, h, q⟩ := x; ⟨n, h, q.same s⟩
theorem Dn.mono {H : Hp} {d c r : Addr} {N M : Nat} (x : Dn d c r N H) (h : N ≤ M) : Dn d c r M H := let ⟨n, e, q⟩ := x; ⟨n, Nat.le_trans e h, q⟩
theorem Dn.new {H : Hp} {d c r p : Addr} {N : Nat} {o : HO} (x : Dn d c r N H) (h : H p = none) : Dn d c r N (upd H p o) := x.same (same_new h)
/-- what is a tuple, or stands behind the drawn list, is none of it -/
theorem Dn.tup_ne {H : Hp} {d c r b : Addr} {N : Nat} {xs : List V} (x : Dn d c r N H) (h : H b = some (.tup xs)) : b ≠ d ∧ b ≠ r := by
  obtain ⟨n, _, q⟩ := x
  obtain ⟨cs, rs, _, h2, _⟩ := q.hc
  exact ⟨ne_of h q.hd (by intro z; cases z), ne_of h h2 (by intro z; cases z)⟩
theorem Dn.new_ne {H : Hp} {d c r p : Addr} {N : Nat} (x : Dn d c r N H) (h : H p = none) : p ≠ d ∧ p ≠ r ∧ p ≠ c := by
  obtain ⟨n, _, q⟩ := x
  obtain ⟨cs, rs, h1, h2, _⟩ := q.hc
  exact ⟨(ne_of_none q.hd h).symm, (ne_of_none h2 h).symm, (ne_of_none h1 h).symm⟩
/-- tuples stay -/
theorem Kp.tup {d c r b : Addr} {N : Nat} {H H' : Hp} {xs : List V} (k : Kp d r H H') (x : Dn d c r N H) (h : H b = some (.tup xs)) : H' b = some (.tup xs) := k b _ h (x.tup_ne h).1 (x.tup_ne h).2
/-- a list that is written by the caller: it is not of the drawn ones -/
theorem Dn.upd {H : Hp} {d c r p : Addr} {N : Nat} {o : HO} (x : Dn d c r N H) (h : p ≠ d ∧ p ≠ r ∧ p ≠ c) : Dn d c r N (upd H p o) := by
  obtain ⟨n, e, q⟩ := x
  obtain ⟨cs, rs, h1, h2, h3⟩ := q.hc
  exact ⟨n, e, ⟨(upd_ne h.1.symm).trans q.hd, ⟨cs, rs, (upd_ne h.2.2.symm).trans h1, (upd_ne h.2.1.symm).trans h2, h3⟩, q.cr⟩⟩

def TT : Nat := 2 ^ 24
/-- _law_next -/
def sp_law_next : Sp := fun vs H Q _ => ∃ (d c r : Addr) (N : Nat) (m : Int), vs = [.ref d, .int m] ∧ Dn d c r N H ∧ N < TT ∧ 0 < m ∧ m < 2 ^ 30 ∧
  ∀ (H' : Hp) (k : Int), 0 ≤ k → k < m → Dn d c r (N + 1) H' → Kp d r H H' → Q (.int k) H'
/-- _law_draws -/
def sp_law_draws (K : PySem.W.Frag) : Sp := fun vs H Q _ => ∃ (a : Addr) (ns : List Int), vs = [.ref a] ∧ SqL K H a (ns.map V.int) ∧ ns.length ≤ 63 ∧
  ∀ (H' : Hp) (d c r : Addr), Dn d c r 0 H' → Same H H' → Q (.ref d) H'

theorem fmod_bounds {a b : Int} (h : 0 < b) : 0 ≤ a.fmod b ∧ a.fmod b < b := ⟨Int.fmod_nonneg_of_pos a h, Int.fmod_lt_of_pos a h⟩
theorem sq_bounds {n : Int} (h0 : 0 ≤ n) (h1 : n < 16777216) : 0 ≤ 7001 * n * n ∧ 7001 * n * n ≤ 7001 * 281474976710656 := by
  have a : n * n ≤ 16777216 * 16777216 := Int.mul_le_mul (by omega) (by omega) h0 (by decide)
  have b : 0 ≤ n * n := Int.mul_nonneg h0 h0
  rw [Int.mul_assoc]
  constructor <;> omega
theorem nat64 {x : Int} (h0 : 0 ≤ x) (h1 : x < 18446744073709551616) : x.natAbs < 2 ^ 64 := by omega
theorem nz_a : (2147483629 : Int) ≠ 0 := by decide
theorem nz_b : (2147483587 : Int) ≠ 0 := by decide
theorem nz_c : (2147483563 : Int) ≠ 0 := by decide
theorem nz_d : (4611686018427387847 : Int) ≠ 0 := by decide
theorem mul_lo {n : Int} (h : 0 ≤ n) : -(2 ^ 64) < 7001 * n := by omega
theorem mul_hi {n : Int} (h : n < 16777216) : 7001 * n < 2 ^ 64 := by omega
theorem mid_mul {x : Int} (h : 0 ≤ x ∧ x < 2147483563) : -(2 ^ 64) < x ∧ x < 2 ^ 64 := by omega
theorem len_of_map {l : List Int} {n : Nat} (h : l.length = n) : (l.map V.int).length = n := (List.length_map _).trans h
theorem get_int {l : List Int} {i : Nat} (h : i < l.length) : (l.map V.int)[i]? = some (.int l[i]) := by
  rw [List.getElem?_map, List.getElem?_eq_getElem h] <;> rfl
/-- a place that is a rest by the length -/
theorem at_mod {l : List Int} {i : Int} (h0 : 0 ≤ i) (h1 : i < (l.length : Int)) : ∃ (j : Nat) (z : Int), i = (j : Int) ∧ j < l.length ∧ l[j]? = some z ∧ atI (l.map V.int) i = some (.int z) := by
  obtain ⟨j, rfl⟩ := Int.eq_ofNat_of_zero_le h0
  have hj : j < l.length := by omega
  exact ⟨j, l[j], rfl, hj, List.getElem?_eq_getElem hj, atI_nat (get_int hj)⟩
end Tr

/-! ### A3. Edges and trees as they lie in the heap -/
namespace Tr
open PySem PySem.Spec PyProof.Rows L2
/-- 0, 1, .., n - 1 -/
def rI (n : Nat) : List Int := (List.range n).map Int.ofNat
theorem rI_len (n : Nat) : (rI n).length = n := by unfold rI; rw [List.length_map, List.length_range]
theorem mem_rI {n : Nat} {z : Int} : z ∈ rI n ↔ 0 ≤ z ∧ z < (n : Int) := by
  unfold rI
  rw [List.mem_map]
  constructor
  · rintro ⟨i, hi, rfl⟩
    have := List.mem_range.mp hi
    exact ⟨Int.natCast_nonneg i, by show (i : Int) < n; omega⟩
  · rintro ⟨h0, h1⟩
    exact ⟨z.toNat, List.mem_range.mpr (by omega), by show ((z.toNat : Nat) : Int) = z; omega⟩
theorem rI_nodup (n : Nat) : (rI n).Nodup := List.pairwise_map.mpr (List.Pairwise.imp (fun h e => h (Int.ofNat.inj e)) List.nodup_range)
abbrev Ed := Int × Int × Int
def edV (e : Ed) : List Int := [e.1, e.2.1, e.2.2]
def edO (e : Ed) : Option HO := some (.tup ((edV e).map V.int))
/-- the tuples at as are the edges es -/
def EdsAt (H : Hp) (as : List Addr) (es : List Ed) : Prop := as.map H = es.map edO
theorem EdsAt.length {H : Hp} {as : List Addr} {es : List Ed} (h : EdsAt H as es) : as.length = es.length := by
  have := congrArg List.length h
  rwa [List.length_map, List.length_map] at this
theorem EdsAt.get {H : Hp} {as : List Addr} {es : List Ed} (h : EdsAt H as es) {i : Nat} {e : Ed} (g : es[i]? = some e) : ∃ a, as[i]? = some a ∧ H a = edO e := by
  have q : (as.map H)[i]? = (es.map edO)[i]? := by rw [h]
  rw [List.getElem?_map, List.getElem?_map, g] at q
  obtain ⟨a, ha, hh⟩ := Option.map_eq_some_iff.mp q
  exact ⟨a, ha, hh⟩
theorem EdsAt.get' {H : Hp} {as : List Addr} {es : List Ed} (h : EdsAt H as es) {i : Nat} {a : Addr} (g : as[i]? = some a) : ∃ e, es[i]? = some e ∧ H a = edO e := by
  have q : (as.map H)[i]? = (es.map edO)[i]? := by rw [h]
  rw [List.getElem?_map, List.getElem?_map, g] at q
  obtain ⟨e, he, hh⟩ := Option.map_eq_some_iff.mp q.symm
  exact ⟨e, he, hh.symm⟩
theorem EdsAt.mem {H : Hp} {as : List Addr} {es : List Ed} (h : EdsAt H as es) {a : Addr} (g : a ∈ as) : ∃ e ∈ es, H a = edO e := by
  have q : H a ∈ as.map H := List.mem_map_of_mem g
  rw [h] at q
  obtain ⟨e, he, hh⟩ := List.mem_map.mp q
  exact ⟨e, he, hh.symm⟩
theorem EdsAt.keep {H H' : Hp} {as : List Addr} {es : List Ed} (h : EdsAt H as es) (k : ∀ a xs, H a = some (.tup xs) → H' a = some (.tup xs)) : EdsAt H' as es := by
  have q : as.map H' = as.map H := List.map_congr_left fun a ha => by
    obtain ⟨e, _, he⟩ := h.mem ha
    rw [he]
    exact k a _ he
  exact q.trans h
theorem EdsAt.snoc {H : Hp} {as : List Addr} {es : List Ed} {a : Addr} {e : Ed} (h : EdsAt H as es) (g : H a = edO e) : EdsAt H (as ++ [a]) (es ++ [e]) := by
  unfold EdsAt
  rw [List.map_append, List.map_append, h]
  exact congrArg _ (congrArg (fun x => [x]) g)
theorem eds_nil {H : Hp} : EdsAt H [] [] := rfl
/-- another order -/
theorem perm_pull {α β : Type} (f : α → β) : ∀ {ys : List β} {xs : List β}, ys.Perm xs → ∀ as : List α, xs = as.map f → ∃ bs : List α, ys = bs.map f ∧ bs.Perm as := by
  intro ys xs h
  induction h with
  | nil =>
    intro as e
    cases as with
    | nil => exact ⟨[], rfl, List.Perm.nil⟩
    | cons a r => cases e
  | cons x _ ih =>
    intro as e
    cases as with
    | nil => cases e
    | cons a r =>
      rw [List.map_cons] at e
      obtain ⟨bs, e2, p⟩ := ih r (List.cons.inj e).2
      exact ⟨a :: bs, by rw [List.map_cons, ← e2, (List.cons.inj e).1], p.cons a⟩
  | swap x y l =>
    intro as e
    cases as with
    | nil => cases e
    | cons a r =>
      cases r with
      | nil =>
        have := (List.cons.inj e).2
        cases this
      | cons b r =>
        rw [List.map_cons, List.map_cons] at e
        have e1 := List.cons.inj e
        have e2 := List.cons.inj e1.2
        exact ⟨b :: a :: r, by rw [List.map_cons, List.map_cons, e1.1, e2.1, e2.2], List.Perm.swap a b r⟩
  | trans _ _ ih1 ih2 =>
    intro as e
    obtain ⟨bs, e1, p1⟩ := ih2 as e
    obtain ⟨cs, e2, p2⟩ := ih1 bs e1
    exact ⟨cs, e2, p2.trans p1⟩
theorem EdsAt.perm {H : Hp} {as bs : List Addr} {es : List Ed} (h : EdsAt H as es) (p : bs.Perm as) : ∃ fs : List Ed, EdsAt H bs fs ∧ fs.Perm es := by
  obtain ⟨fs, e, q⟩ := perm_pull edO (p.map H) es h
  exact ⟨fs, e, q⟩
/-- the tree (n, es) at t -/
def TrAt (H : Hp) (t : Addr) (n : Nat) (es : List Ed) : Prop := ∃ (q : Addr) (as : List Addr), H t = some (.tup [.int n, .ref q]) ∧ H q = some (.tup (as.map V.ref)) ∧ EdsAt H as es
theorem TrAt.keep {H H' : Hp} {t : Addr} {n : Nat} {es : List Ed} (h : TrAt H t n es) (k : ∀ a xs, H a = some (.tup xs) → H' a = some (.tup xs)) : TrAt H' t n es := by
  obtain ⟨q, as, h1, h2, h3⟩ := h
  exact ⟨q, as, k _ _ h1, k _ _ h2, h3.keep k⟩
theorem TrAt.same {H H' : Hp} {t : Addr} {n : Nat} {es : List Ed} (h : TrAt H t n es) (s : Same H H') : TrAt H' t n es := h.keep fun a xs e => s a _ e
theorem TrAt.kp {H H' : Hp} {d c r t : Addr} {N n : Nat} {es : List Ed} (h : TrAt H t n es) (D : Dn d c r N H) (k : Kp d r H H') : TrAt H' t n es := h.keep fun a xs e => k.tup D e
/-- as data -/
def edD (e : Ed) : PyData := .tuple [.int e.1, .int e.2.1, .int e.2.2]
def trD (n : Nat) (es : List Ed) : PyData := .tuple [.int n, .tuple (es.map edD)]
theorem edO_dp {K : PySem.W.Frag} {H : Hp} {a : Addr} {e : Ed} (h : H a = edO e) : Dp K H (.ref a) (edD e) :=
  .tup (SqT.of h) (.cons (.int _) (.cons (.int _) (.cons (.int _) .nil)))
theorem EdsAt.dp {K : PySem.W.Frag} {H : Hp} : ∀ {as : List Addr} {es : List Ed}, EdsAt H as es → DpAll K H (as.map V.ref) (es.map edD)
  | [], [], _ => .nil
  | [], _ :: _, h => by cases h
  | _ :: _, [], h => by cases h
  | a :: as, e :: es, h => by
    have h' : H a :: as.map H = edO e :: es.map edO := h
    exact .cons (edO_dp (List.cons.inj h').1) (EdsAt.dp (List.cons.inj h').2)
theorem TrAt.dp {K : PySem.W.Frag} {H : Hp} {t : Addr} {n : Nat} {es : List Ed} (h : TrAt H t n es) : Dp K H (.ref t) (trD n es) := by
  obtain ⟨q, as, h1, h2, h3⟩ := h
  exact .tup (SqT.of h1) (.cons (.int _) (.cons (.tup (SqT.of h2) h3.dp) .nil))
/-- the order of sorted -/
def BB : Int := 1000000001
def edLe (e f : Ed) : Prop := TS.code BB (edV e) ≤ TS.code BB (edV f)
def mnI (a b : Int) : Int := if b < a then b else a
def mxI (a b : Int) : Int := if b > a then b else a
def nrm (e : Ed) : Ed := (mnI e.1 e.2.1, mxI e.1 e.2.1, e.2.2)
def EdIn (e : Ed) : Prop := (0 ≤ e.1 ∧ e.1 < BB) ∧ (0 ≤ e.2.1 ∧ e.2.1 < BB) ∧ (0 ≤ e.2.2 ∧ e.2.2 < BB)
theorem nrm_in {e : Ed} (h : EdIn e) : EdIn (nrm e) := by
  obtain ⟨h1, h2, h3⟩ := h
  refine ⟨?_, ?_, h3⟩
  · show 0 ≤ mnI _ _ ∧ mnI _ _ < BB
    unfold mnI
    split <;> assumption
  · show 0 ≤ mxI _ _ ∧ mxI _ _ < BB
    unfold mxI
    split <;> assumption
theorem bd_of {e : Ed} (h : EdIn e) : TS.Bd BB (edV e) := by
  obtain ⟨h1, h2, h3⟩ := h
  intro m hm
  have hm' : m = e.1 ∨ m = e.2.1 ∨ m = e.2.2 := by simpa [edV] using hm
  rcases hm' with rfl | rfl | rfl <;> assumption
theorem eds_sorted {K : PySem.W.Frag} {H : Hp} : ∀ {as : List Addr} {es : List Ed}, EdsAt H as es →
    (as.map V.ref).Pairwise (fun x y => ∀ n m, TupI K H x n → TupI K H y m → TS.code BB n ≤ TS.code BB m) → es.Pairwise edLe
  | [], [], _, _ => List.Pairwise.nil
  | [], _ :: _, h, _ => by cases h
  | _ :: _, [], h, _ => by cases h
  | a :: as, e :: es, h, p => by
    have h' : H a :: as.map H = edO e :: es.map edO := h
    have p' := List.pairwise_cons.mp (show (V.ref a :: as.map V.ref).Pairwise _ from p)
    have tl : EdsAt H as es := (List.cons.inj h').2
    refine List.pairwise_cons.mpr ⟨fun f hf => ?_, eds_sorted tl p'.2⟩
    obtain ⟨j, hj⟩ := List.mem_iff_getElem?.mp hf
    obtain ⟨b, hb, hbo⟩ := tl.get hj
    exact p'.1 (.ref b) (List.mem_map_of_mem (List.mem_of_getElem? hb)) (edV e) (edV f) ⟨a, rfl, SqT.of (List.cons.inj h').1⟩ ⟨b, rfl, SqT.of hbo⟩
end Tr

/-! ### A4. Trees grown leaf by leaf -/
namespace Tr
open PySem PySem.Spec PyProof.Rows L2
/-- vs joined by es: one vertex, then leaf by leaf -/
inductive Grow : List Int → List Ed → Prop
  | one (v : Int) : Grow [v] []
  | leaf {vs : List Int} {es : List Ed} (x y d : Int) : Grow vs es → y ∈ vs → x ∉ vs → 1 ≤ d → d ≤ 1000000000 → Grow (vs ++ [x]) (es ++ [nrm (x, y, d)])
structure IsTree (n : Nat) (es : List Ed) : Prop where
  pos : 1 ≤ n
  grow : ∃ vs fs, Grow vs fs ∧ vs.Perm (rI n) ∧ es.Perm fs
  sorted : es.Pairwise edLe
theorem Grow.len {vs : List Int} {es : List Ed} (g : Grow vs es) : es.length + 1 = vs.length := by
  induction g with
  | one v => rfl
  | leaf x y d g hy hx h1 h2 ih => rw [List.length_append, List.length_append, ← ih]; rfl
theorem IsTree.len {n : Nat} {es : List Ed} (t : IsTree n es) : es.length + 1 = n := by
  obtain ⟨vs, fs, g, p, q⟩ := t.grow
  rw [q.length_eq, g.len, p.length_eq, rI_len]
theorem nrm_fst {x y d : Int} : nrm (x, y, d) = if y < x then (y, x, d) else (x, (if x < y then y else x), d) := by
  unfold nrm mnI mxI
  by_cases h : y < x
  · simp only [if_pos h, show ¬ y > x by omega, if_false]
  · by_cases h2 : x < y
    · simp only [if_neg h, show y > x from h2, if_true]
    · simp only [if_neg h, show ¬ y > x by omega, if_false]
/-- each edge joins two vertices, the smaller one first -/
theorem Grow.edge {vs : List Int} {es : List Ed} (g : Grow vs es) : ∀ e ∈ es, e.1 ∈ vs ∧ e.2.1 ∈ vs ∧ e.1 < e.2.1 ∧ 1 ≤ e.2.2 ∧ e.2.2 ≤ 1000000000 := by
  induction g with
  | one v => intro e he; cases he
  | @leaf vs es x y d g hy hx h1 h2 ih =>
    intro e he
    rcases List.mem_append.mp he with he | he
    · obtain ⟨a, b, c⟩ := ih e he
      exact ⟨List.mem_append_left _ a, List.mem_append_left _ b, c⟩
    · have e1 : e = nrm (x, y, d) := by simpa using he
      have hne : x ≠ y := fun z => hx (z ▸ hy)
      have hx' : x ∈ vs ++ [x] := by simp
      have hy' : y ∈ vs ++ [x] := List.mem_append_left _ hy
      rw [e1, nrm_fst]
      by_cases h : y < x
      · rw [if_pos h]; exact ⟨hy', hx', h, h1, h2⟩
      · have h3 : x < y := by omega
        rw [if_neg h, if_pos h3]; exact ⟨hx', hy', h3, h1, h2⟩
theorem IsTree.edge {n : Nat} {es : List Ed} (t : IsTree n es) : ∀ e ∈ es, 0 ≤ e.1 ∧ e.1 < e.2.1 ∧ e.2.1 < (n : Int) ∧ 1 ≤ e.2.2 ∧ e.2.2 ≤ 1000000000 := by
  obtain ⟨vs, fs, g, p, q⟩ := t.grow
  intro e he
  obtain ⟨a, b, c, d1, d2⟩ := g.edge e (q.mem_iff.mp he)
  have ha := mem_rI.mp (p.mem_iff.mp a)
  have hb := mem_rI.mp (p.mem_iff.mp b)
  exact ⟨ha.1, c, hb.2, d1, d2⟩
end Tr

/-! ### A5. Data that stands while tuples stand; equality of data, walks over two tuples -/
namespace Tr
open PySem PySem.Spec PyProof.Rows L2
theorem same_tup {K : PySem.W.Frag} {H H' : Hp} {a : Addr} {xs : List V} (e : Same H H') (h : SqT K H a xs) : SqT K H' a xs :=
  h.imp (fun q => q.imp (e _ _) fun ⟨o, z⟩ => ⟨o, e _ _ z⟩) id
mutual
theorem dp_same {K : PySem.W.Frag} {H H' : Hp} (s : Same H H') : ∀ {v : V} {d : PyData}, Dp K H v d → Dp K H' v d
  | _, _, .non => .non
  | _, _, .bl b => .bl b
  | _, _, .int i => .int i
  | _, _, .str x => .str x
  | _, _, .lst h q => .lst (s.seq h) (dps_same s q)
  | _, _, .tup h q => .tup (same_tup s h) (dps_same s q)
theorem dps_same {K : PySem.W.Frag} {H H' : Hp} (s : Same H H') : ∀ {vs : List V} {ds : List PyData}, DpAll K H vs ds → DpAll K H' vs ds
  | _, _, .nil => .nil
  | _, _, .cons h q => .cons (dp_same s h) (dps_same s q)
end
theorem dps_len {K : PySem.W.Frag} {H : Hp} : ∀ {vs : List V} {ds : List PyData}, DpAll K H vs ds → vs.length = ds.length
  | _, _, .nil => rfl
  | _, _, .cons _ q => congrArg Nat.succ (dps_len q)
theorem dps_get {K : PySem.W.Frag} {H : Hp} : ∀ {vs : List V} {ds : List PyData} {i : Nat} {d : PyData} {v : V}, DpAll K H vs ds → vs[i]? = some v → ds[i]? = some d → Dp K H v d
  | _, _, _, _, _, .nil, h, _ => by simp at h
  | _, _, 0, _, _, .cons h _, e1, e2 => by
    have z1 := Option.some.inj (show some _ = some _ from e1)
    have z2 := Option.some.inj (show some _ = some _ from e2)
    rw [← z1, ← z2]
    exact h
  | _, _, i + 1, _, _, .cons _ q, e1, e2 => dps_get (i := i) q (by simpa using e1) (by simpa using e2)
theorem tyx_tup {K : PySem.W.Frag} {H : Hp} {a : Addr} {xs : List V} (h : SqT K H a xs) : TyX K H (.ref a) (.type "tuple") := by
  rcases h with (h | ⟨o, h⟩) | ⟨o, its, n, h, c, _⟩
  · exact .base (.tup h)
  · exact .fTuple h
  · exact .kTuple h c
/-- numbers, texts, None, and tuples of such, less than n deep -/
def okd : Nat → PyData → Bool
  | 0, _ => false
  | n + 1, d => match d with
    | .none => true
    | .bool _ => true
    | .int _ => true
    | .str _ => true
    | .tuple ds => decide (ds.length ≤ 1000) && ds.all (okd n)
    | _ => false
theorem walk_zipT {K : PySem.W.Frag} {a b : Addr} {xs ys : List V} (hn : xs.length = ys.length) : Walk (RZ.ItzT K a b) xs.length (fun H => SqT K H a xs ∧ SqT K H b ys) (YPair (fun i => xs[i]?) (fun i => ys[i]?)) := by
  refine ⟨fun i H hi q => ⟨xs, ys, xs[i], ys[i], q.1, q.2, List.getElem?_eq_getElem hi, List.getElem?_eq_getElem (by omega)⟩, fun H q => ⟨xs, ys, q.1, q.2, .inl (Nat.le_refl _)⟩, fun i H v H' hi q y => ?_⟩
  obtain ⟨T, x, z, h1, h2, h3, h4, h5⟩ := y
  exact ⟨T, x, z, h1, h2, h3, h4 _ q.1, h5 _ q.2⟩
theorem isi {K : PySem.W.Frag} {H : Hp} {x : V} {T t : String} {b : Bool} {Q : VK} (ty : TyX K H x (.type t)) (k : kitB t T = some b) (q : Q (.bl b) H) : rIsi K [x, .ty T] H Q := ⟨x, .ty T, _, _, b, rfl, .ty T, ty, kit_ty k, q⟩
theorem iteD {c A B : Prop} [Decidable c] (hc : c) (h : A) : if (decide c) = true then A else B := by
  rw [decide_eq_true hc]
  exact iteT h
theorem q_dec {c : Prop} [Decidable c] {Q : VK} {H : Hp} (hc : c) (h : Q (.bl true) H) : Q (.bl (decide c)) H := by
  rw [decide_eq_true hc]
  exact h
theorem all_true {bs : List Bool} (h : ∀ b ∈ bs, b = true) : bs.all id = true := List.all_eq_true.mpr h
end Tr

/-! ### A6. Neighbours -/
namespace Tr
open PySem PySem.Spec PyProof.Rows L2
/-- the other ends of the edges of v, in the edges' order -/
def nbE (v : Int) (e : Ed) : List Int := (if e.1 = v then [e.2.1] else []) ++ (if e.2.1 = v then [e.1] else [])
def nbrs (es : List Ed) (v : Int) : List Int := es.flatMap (nbE v)
def upE (v : Int) (e : Ed) : Bool := decide (e.1 = v)
def dnE (v : Int) (e : Ed) : Bool := decide (e.2.1 = v)
def nbrs2 (es : List Ed) (v : Int) : List Int := (es.filter (upE v)).map (·.2.1) ++ (es.filter (dnE v)).map (·.1)
theorem nbrs_perm (v : Int) : ∀ es : List Ed, (nbrs es v).Perm (nbrs2 es v)
  | [] => List.Perm.refl _
  | e :: es => by
    have ih := nbrs_perm v es
    unfold nbrs nbrs2 at *
    rw [List.flatMap_cons]
    unfold nbE upE dnE at *
    by_cases h1 : e.1 = v <;> by_cases h2 : e.2.1 = v
    · rw [if_pos h1, if_pos h2, List.filter_cons_of_pos (by simpa using h1), List.filter_cons_of_pos (by simpa using h2)]
      show (e.2.1 :: e.1 :: List.flatMap _ es).Perm (e.2.1 :: (_ ++ (e.1 :: _)))
      exact (((ih.cons e.1).trans List.perm_middle.symm)).cons e.2.1
    · rw [if_pos h1, if_neg h2, List.filter_cons_of_pos (by simpa using h1), List.filter_cons_of_neg (by simpa using h2)]
      exact ih.cons e.2.1
    · rw [if_neg h1, if_pos h2, List.filter_cons_of_neg (by simpa using h1), List.filter_cons_of_pos (by simpa using h2)]
      exact (ih.cons e.1).trans List.perm_middle.symm
    · rw [if_neg h1, if_neg h2, List.filter_cons_of_neg (by simpa using h1), List.filter_cons_of_neg (by simpa using h2)]
      exact ih
theorem nbE_len (v : Int) (e : Ed) : (nbE v e).length ≤ 2 := by
  unfold nbE
  split <;> split <;> simp
theorem sum_le2 {f : Ed → Nat} (h : ∀ e, f e ≤ 2) : ∀ {l : List Ed}, (l.map f).sum ≤ 2 * l.length
  | [] => Nat.le_refl 0
  | e :: l => by
    have := h e
    have := sum_le2 h (l := l)
    rw [List.map_cons, List.sum_cons, List.length_cons]
    omega
/-- two ordered lists with the same numbers are one -/
theorem sorted_eq : ∀ {a b : List Int}, a.Perm b → a.Pairwise (· ≤ ·) → b.Pairwise (· ≤ ·) → a = b
  | [], b, p, _, _ => (List.Perm.eq_nil p.symm).symm
  | x :: a, [], p, _, _ => by
    have := p.length_eq
    simp at this
  | x :: a, y :: b, p, h1, h2 => by
    have h1' := List.pairwise_cons.mp h1
    have h2' := List.pairwise_cons.mp h2
    have mx : x ∈ y :: b := p.mem_iff.mp List.mem_cons_self
    have my : y ∈ x :: a := p.mem_iff.mpr List.mem_cons_self
    have e : x = y := by
      rcases List.mem_cons.mp mx with z | z
      · exact z
      · rcases List.mem_cons.mp my with w | w
        · exact w.symm
        · have := h1'.1 y w
          have := h2'.1 x z
          omega
    subst e
    rw [sorted_eq (List.Perm.cons_inv p) h1'.2 h2'.2]
end Tr

/-! ### A7. What repr and == ask of data: tuples of numbers -/
namespace Tr
open PySem PySem.Spec PyProof.Rows L2
mutual
def numD : PyData → Bool
  | .none => true
  | .bool _ => true
  | .int i => decide (i.natAbs.log2 < 1920)
  | .tuple xs => numA xs
  | _ => false
def numA : List PyData → Bool
  | [] => true
  | x :: xs => numD x && numA xs
end
mutual
def nodes : PyData → Nat
  | .tuple xs => 1 + nodesA xs
  | _ => 1
def nodesA : List PyData → Nat
  | [] => 0
  | x :: xs => nodes x + nodesA xs
end
theorem tup_len (ts : List Str) : (tupleText ts).length ≤ piled ts + 3 := by
  have e1 : (Str.ofString "(").length = 1 := by decide
  have e2 : (Str.ofString ",)").length = 2 := by decide
  have e3 : (Str.ofString ")").length = 1 := by decide
  have j : (Str.join ", " ts).length ≤ piled ts := by
    cases ts with
    | nil => decide
    | cons x r =>
      have := join_length_add (x :: r) (by simp)
      omega
  unfold tupleText
  rw [Str.length_append, Str.length_append, e1]
  split
  · rw [e2]; omega
  · rw [e3]; omega
mutual
theorem shown_le : ∀ d : PyData, numD d = true → d.shown.length + 5 ≤ 1935 * nodes d
  | .none, _ => by
    have e : (Str.ofString "None").length = 4 := by decide
    show (Str.ofString "None").length + 5 ≤ 1935 * 1
    omega
  | .bool b, _ => by
    have e : (Str.ofString "True").length = 4 := by decide
    have e' : (Str.ofString "False").length = 5 := by decide
    cases b
    · show (Str.ofString "False").length + 5 ≤ 1935 * 1
      omega
    · show (Str.ofString "True").length + 5 ≤ 1935 * 1
      omega
  | .int i, h => by
    have := int_text_len_1921 (i := i) (of_decide_eq_true h)
    show (Str.ofString (toString i)).length + 5 ≤ 1935 * 1
    omega
  | .tuple xs, h => by
    have := shownA_le xs h
    have t := tup_len (PyData.shownAll xs)
    show (tupleText (PyData.shownAll xs)).length + 5 ≤ 1935 * (1 + nodesA xs)
    omega
  | .str _, h => by cases h
  | .list _, h => by cases h
  | .dict _, h => by cases h
theorem shownA_le : ∀ xs : List PyData, numA xs = true → piled (PyData.shownAll xs) ≤ 1935 * nodesA xs
  | [], _ => Nat.le_refl 0
  | x :: xs, h => by
    have h' : numD x = true ∧ numA xs = true := by
      have : (numD x && numA xs) = true := h
      rwa [Bool.and_eq_true] at this
    have a := shown_le x h'.1
    have b := shownA_le xs h'.2
    show piled (x.shown :: PyData.shownAll xs) ≤ 1935 * (nodes x + nodesA xs)
    rw [piled_cons]
    omega
end
mutual
theorem num_facts : ∀ d : PyData, numD d = true → d.showable = true ∧ d.hasDict = false ∧ d.canLay0 = true
  | .none, _ => ⟨rfl, rfl, rfl⟩
  | .bool _, _ => ⟨rfl, rfl, rfl⟩
  | .int i, h => ⟨h, rfl, rfl⟩
  | .tuple xs, h => numA_facts xs h
  | .str _, h => by cases h
  | .list _, h => by cases h
  | .dict _, h => by cases h
theorem numA_facts : ∀ xs : List PyData, numA xs = true → PyData.showableAll xs = true ∧ PyData.hasDictAll xs = false ∧ PyData.canLayAll0 xs = true
  | [], _ => ⟨rfl, rfl, rfl⟩
  | x :: xs, h => by
    have h' : numD x = true ∧ numA xs = true := by
      have : (numD x && numA xs) = true := h
      rwa [Bool.and_eq_true] at this
    obtain ⟨a1, a2, a3⟩ := num_facts x h'.1
    obtain ⟨b1, b2, b3⟩ := numA_facts xs h'.2
    exact ⟨by show (x.showable && PyData.showableAll xs) = true; rw [a1, b1]; rfl, by show (x.hasDict || PyData.hasDictAll xs) = false; rw [a2, b2]; rfl, by show (x.canLay0 && PyData.canLayAll0 xs) = true; rw [a3, b3]; rfl⟩
end
theorem numA_map {α : Type} {f : α → PyData} : ∀ {l : List α}, (∀ x ∈ l, numD (f x) = true) → numA (l.map f) = true
  | [], _ => rfl
  | a :: l, h => by
    show (numD (f a) && numA (l.map f)) = true
    rw [h a List.mem_cons_self, numA_map fun x hx => h x (List.mem_cons_of_mem _ hx)]
    rfl
theorem nodesA_map {α : Type} {f : α → PyData} {k : Nat} : ∀ {l : List α}, (∀ x ∈ l, nodes (f x) ≤ k) → nodesA (l.map f) ≤ k * l.length
  | [], _ => Nat.le_refl 0
  | a :: l, h => by
    have := h a List.mem_cons_self
    have := nodesA_map (l := l) fun x hx => h x (List.mem_cons_of_mem _ hx)
    show nodes (f a) + nodesA (l.map f) ≤ k * (l.length + 1)
    rw [Nat.mul_add]
    omega
theorem depthA_map {α : Type} {f : α → PyData} {k : Nat} : ∀ {l : List α}, (∀ x ∈ l, (f x).depth ≤ k) → PyData.depthAll (l.map f) ≤ k
  | [], _ => Nat.zero_le _
  | a :: l, h => Nat.max_le.mpr ⟨h a List.mem_cons_self, depthA_map fun x hx => h x (List.mem_cons_of_mem _ hx)⟩
/-- a number that may be shown -/
theorem log_small {i : Int} (h0 : 0 ≤ i) (h1 : i < 2 ^ 64) : i.natAbs.log2 < 1920 := by
  have h : i.natAbs < 2 ^ 64 := by omega
  by_cases z : i.natAbs = 0
  · rw [z]; decide
  · have := (Nat.log2_lt z).mpr h
    omega
def EdSh (e : Ed) : Prop := (0 ≤ e.1 ∧ e.1 < 2 ^ 64) ∧ (0 ≤ e.2.1 ∧ e.2.1 < 2 ^ 64) ∧ (0 ≤ e.2.2 ∧ e.2.2 < 2 ^ 64)
theorem edD_num {e : Ed} (h : EdSh e) : numD (edD e) = true := by
  show (decide (e.1.natAbs.log2 < 1920) && (decide (e.2.1.natAbs.log2 < 1920) && (decide (e.2.2.natAbs.log2 < 1920) && true))) = true
  rw [decide_eq_true (log_small h.1.1 h.1.2), decide_eq_true (log_small h.2.1.1 h.2.1.2), decide_eq_true (log_small h.2.2.1 h.2.2.2)]
  rfl
theorem trD_num {n : Nat} {es : List Ed} (hn : n < 2 ^ 64) (h : ∀ e ∈ es, EdSh e) : numD (trD n es) = true := by
  show (decide ((n : Int).natAbs.log2 < 1920) && (numA (es.map edD) && true)) = true
  rw [decide_eq_true (log_small (i := (n : Int)) (by omega) (by omega)), numA_map fun e he => edD_num (h e he)]
  rfl
theorem trD_depth {n : Nat} {es : List Ed} : (trD n es).depth ≤ 3 := by
  show max 0 (max (PyData.depthAll (es.map edD) + 1) 0) + 1 ≤ 3
  have : PyData.depthAll (es.map edD) ≤ 1 := depthA_map fun e _ => Nat.le_refl 1
  omega
theorem trD_nodes {n : Nat} {es : List Ed} : nodes (trD n es) ≤ 3 + 4 * es.length := by
  show 1 + (1 + ((1 + nodesA (es.map edD)) + 0)) ≤ _
  have : nodesA (es.map edD) ≤ 4 * es.length := nodesA_map fun e _ => Nat.le_refl 4
  omega
/-- what repr of data asks -/
def Shw (d : PyData) : Prop := isDisplay d = true ∧ d.showable = true ∧ d.hasDict = false ∧ d.depth ≤ 60 ∧ d.shown.length ≤ sizeLine
theorem shw_tree {n : Nat} {es : List Ed} (hn : n < 2 ^ 64) (he : ∀ e ∈ es, EdSh e) (hl : es.length ≤ 1000) : Shw (trD n es) := by
  have num := trD_num hn he
  obtain ⟨a1, a2, a3⟩ := num_facts _ num
  have sz := shown_le _ num
  have nd := trD_nodes (n := n) (es := es)
  have z : sizeLine = 16777216 := sizeLine_eq
  have dp := trD_depth (n := n) (es := es)
  exact ⟨rfl, a1, a2, by omega, by omega⟩
theorem shaped_of {d : PyData} (h : numD d = true) (hd : d.depth ≤ 64) : SeqAt.shaped d = true := by
  show (d.canLay0 && decide (d.depth ≤ 64)) = true
  rw [(num_facts d h).2.2, decide_eq_true hd]
  rfl
theorem shaped_list {ds : List PyData} (h : numA ds = true) (hd : PyData.depthAll ds ≤ 63) : SeqAt.shaped (.list ds) = true := by
  have e : decide ((PyData.list ds).depth ≤ 64) = true := decide_eq_true (by show PyData.depthAll ds + 1 ≤ 64; omega)
  show (PyData.canLayAll0 ds && decide ((PyData.list ds).depth ≤ 64)) = true
  rw [(numA_facts ds h).2.2, e]
  rfl
/-- a tree that the law holds in hand -/
structure GoodT (H : Hp) (t : Addr) (n : Nat) (es : List Ed) : Prop where
  tr : TrAt H t n es
  len : es.length ≤ 15
  n1 : 1 ≤ n
  n16 : n ≤ 16
  sh : ∀ e ∈ es, EdSh e
theorem GoodT.same {H H' : Hp} {t : Addr} {n : Nat} {es : List Ed} (g : GoodT H t n es) (s : Same H H') : GoodT H' t n es := ⟨g.tr.same s, g.len, g.n1, g.n16, g.sh⟩
theorem GoodT.kp {H H' : Hp} {d c r t : Addr} {N n : Nat} {es : List Ed} (g : GoodT H t n es) (D : Dn d c r N H) (k : Kp d r H H') : GoodT H' t n es := ⟨g.tr.kp D k, g.len, g.n1, g.n16, g.sh⟩
theorem GoodT.of {H : Hp} {t : Addr} {n : Nat} {es : List Ed} (t1 : IsTree n es) (h : n ≤ 16) (tr : TrAt H t n es) : GoodT H t n es := by
  refine ⟨tr, ?_, t1.pos, h, fun e he => ?_⟩
  · have := t1.len
    omega
  · obtain ⟨a, b, c, d1, d2⟩ := t1.edge e he
    exact ⟨⟨a, by omega⟩, ⟨by omega, by omega⟩, ⟨by omega, by omega⟩⟩
theorem GoodT.shw {H : Hp} {t : Addr} {n : Nat} {es : List Ed} (g : GoodT H t n es) : Shw (trD n es) := shw_tree (by have := g.n16; omega) g.sh (by have := g.len; omega)
theorem EdsAt.set {H : Hp} {as : List Addr} {es : List Ed} (h : EdsAt H as es) {a : Addr} {e : Ed} (j : Nat) (ha : H a = edO e) : EdsAt H (as.set j a) (es.set j e) := by
  unfold EdsAt
  rw [List.map_set, List.map_set, h, ha]
theorem iteNT {A B : Prop} (h : B) : if (!true) = true then A else B := by
  rw [if_neg (by decide)]
  exact h
theorem mem_set {α : Type} {l : List α} {j : Nat} {a x : α} (h : x ∈ l.set j a) : x ∈ l ∨ x = a := List.mem_or_eq_of_mem_set h
theorem dps_ints {K : PySem.W.Frag} {H : Hp} : ∀ l : List Int, DpAll K H (l.map V.int) (l.map PyData.int)
  | [] => .nil
  | a :: l => .cons (.int a) (dps_ints l)
theorem okd_ints {l : List Int} (h : l.length ≤ 1000) : okd 2 (.tuple (l.map PyData.int)) = true := by
  show (decide ((l.map PyData.int).length ≤ 1000) && (l.map PyData.int).all (okd 1)) = true
  rw [decide_eq_true (by rw [List.length_map]; exact h), Bool.true_and, List.all_eq_true]
  intro d hd
  obtain ⟨i, _, rfl⟩ := List.mem_map.mp hd
  rfl
theorem nbrs_len (es : List Ed) (v : Int) : (nbrs es v).length ≤ 2 * es.length := by
  unfold nbrs
  rw [List.length_flatMap]
  exact sum_le2 fun e => nbE_len v e
end Tr

/-! ### A8. Joined vertices, branches -/
namespace Tr
open PySem PySem.Spec PyProof.Rows L2
def Adj (es : List Ed) (x y : Int) : Prop := ∃ e ∈ es, (e.1 = x ∧ e.2.1 = y) ∨ (e.1 = y ∧ e.2.1 = x)
theorem Adj.symm {es : List Ed} {x y : Int} (h : Adj es x y) : Adj es y x := let ⟨e, he, q⟩ := h; ⟨e, he, q.symm⟩
theorem Adj.mono {es fs : List Ed} (s : ∀ e ∈ es, e ∈ fs) {x y : Int} (h : Adj es x y) : Adj fs x y := let ⟨e, he, q⟩ := h; ⟨e, s e he, q⟩
inductive Conn (es : List Ed) : Int → Int → Prop
  | refl (u : Int) : Conn es u u
  | step {u v w : Int} : Conn es u v → Adj es v w → Conn es u w
theorem Conn.one {es : List Ed} {x y : Int} (h : Adj es x y) : Conn es x y := .step (.refl x) h
theorem Conn.trans {es : List Ed} {x y z : Int} (a : Conn es x y) (b : Conn es y z) : Conn es x z := by
  induction b with
  | refl => exact a
  | step _ h ih => exact .step ih h
theorem Conn.symm {es : List Ed} {x y : Int} (a : Conn es x y) : Conn es y x := by
  induction a with
  | refl => exact .refl _
  | step _ h ih => exact (Conn.one h.symm).trans ih
theorem Conn.mono {es fs : List Ed} (s : ∀ e ∈ es, e ∈ fs) {x y : Int} (a : Conn es x y) : Conn fs x y := by
  induction a with
  | refl => exact .refl _
  | step _ h ih => exact .step ih (h.mono s)
theorem adj_snoc {es : List Ed} {e : Ed} {x y : Int} : Adj (es ++ [e]) x y ↔ Adj es x y ∨ (e.1 = x ∧ e.2.1 = y) ∨ (e.1 = y ∧ e.2.1 = x) := by
  constructor
  · rintro ⟨f, hf, q⟩
    rcases List.mem_append.mp hf with hf | hf
    · exact .inl ⟨f, hf, q⟩
    · have : f = e := by simpa using hf
      rw [this] at q
      exact .inr q
  · rintro (⟨f, hf, q⟩ | q)
    · exact ⟨f, List.mem_append_left _ hf, q⟩
    · exact ⟨e, by simp, q⟩
/-- one more edge -/
theorem conn_snoc {es : List Ed} {e : Ed} {x y : Int} : Conn (es ++ [e]) x y ↔ Conn es x y ∨ (Conn es x e.1 ∧ Conn es e.2.1 y) ∨ (Conn es x e.2.1 ∧ Conn es e.1 y) := by
  constructor
  · intro h
    induction h with
    | refl => exact .inl (.refl _)
    | step _ hs ih =>
      rcases adj_snoc.mp hs with q | ⟨e1, e2⟩ | ⟨e1, e2⟩
      · rcases ih with ih | ⟨a, b⟩ | ⟨a, b⟩
        · exact .inl (.step ih q)
        · exact .inr (.inl ⟨a, .step b q⟩)
        · exact .inr (.inr ⟨a, .step b q⟩)
      · subst e1 e2
        rcases ih with ih | ⟨a, b⟩ | ⟨a, b⟩
        · exact .inr (.inl ⟨ih, .refl _⟩)
        · exact .inr (.inl ⟨a, .refl _⟩)
        · exact .inl a
      · subst e1 e2
        rcases ih with ih | ⟨a, b⟩ | ⟨a, b⟩
        · exact .inr (.inr ⟨ih, .refl _⟩)
        · exact .inl a
        · exact .inr (.inr ⟨a, .refl _⟩)
  · have up : ∀ {a b : Int}, Conn es a b → Conn (es ++ [e]) a b := fun h => h.mono fun f hf => List.mem_append_left _ hf
    have ad : Adj (es ++ [e]) e.1 e.2.1 := ⟨e, by simp, .inl ⟨rfl, rfl⟩⟩
    rintro (h | ⟨a, b⟩ | ⟨a, b⟩)
    · exact up h
    · exact ((up a).step ad).trans (up b)
    · exact ((up a).step ad.symm).trans (up b)
/-- the edges without the one between v and a -/
def isE (v a : Int) (e : Ed) : Bool := decide ((e.1 = v ∧ e.2.1 = a) ∨ (e.1 = a ∧ e.2.1 = v))
def cutE (es : List Ed) (v a : Int) : List Ed := es.filter fun e => !isE v a e
theorem mem_cut {es : List Ed} {v a : Int} {e : Ed} : e ∈ cutE es v a ↔ e ∈ es ∧ ¬ ((e.1 = v ∧ e.2.1 = a) ∨ (e.1 = a ∧ e.2.1 = v)) := by
  unfold cutE isE
  rw [List.mem_filter]
  simp only [Bool.not_eq_true', decide_eq_false_iff_not]
theorem cut_symm (es : List Ed) (v a : Int) : cutE es v a = cutE es a v := by
  unfold cutE isE
  refine List.filter_congr fun e _ => ?_
  exact congrArg not (decide_eq_decide.mpr ⟨Or.symm, Or.symm⟩)
theorem adj_cut {es : List Ed} {v a x y : Int} : Adj (cutE es v a) x y ↔ Adj es x y ∧ ¬ ((x = v ∧ y = a) ∨ (x = a ∧ y = v)) := by
  constructor
  · rintro ⟨e, he, q⟩
    obtain ⟨h1, h2⟩ := mem_cut.mp he
    refine ⟨⟨e, h1, q⟩, fun z => h2 ?_⟩
    rcases q with ⟨q1, q2⟩ | ⟨q1, q2⟩ <;> rcases z with ⟨z1, z2⟩ | ⟨z1, z2⟩ <;> subst q1 q2 z1 z2
    · exact .inl ⟨rfl, rfl⟩
    · exact .inr ⟨rfl, rfl⟩
    · exact .inr ⟨rfl, rfl⟩
    · exact .inl ⟨rfl, rfl⟩
  · rintro ⟨⟨e, he, q⟩, z⟩
    refine ⟨e, mem_cut.mpr ⟨he, fun h => z ?_⟩, q⟩
    rcases q with ⟨q1, q2⟩ | ⟨q1, q2⟩ <;> rcases h with ⟨z1, z2⟩ | ⟨z1, z2⟩
    · exact .inl ⟨q1 ▸ z1, q2 ▸ z2⟩
    · exact .inr ⟨q1 ▸ z1, q2 ▸ z2⟩
    · exact .inr ⟨q2 ▸ z2, q1 ▸ z1⟩
    · exact .inl ⟨q2 ▸ z2, q1 ▸ z1⟩
theorem mem_nbrs {es : List Ed} {v w : Int} : w ∈ nbrs es v ↔ Adj es v w := by
  unfold nbrs nbE
  rw [List.mem_flatMap]
  constructor
  · rintro ⟨e, he, h⟩
    rcases List.mem_append.mp h with h | h
    · by_cases c : e.1 = v
      · rw [if_pos c] at h
        have : w = e.2.1 := by simpa using h
        exact ⟨e, he, .inl ⟨c, this.symm⟩⟩
      · rw [if_neg c] at h
        cases h
    · by_cases c : e.2.1 = v
      · rw [if_pos c] at h
        have : w = e.1 := by simpa using h
        exact ⟨e, he, .inr ⟨this.symm, c⟩⟩
      · rw [if_neg c] at h
        cases h
  · rintro ⟨e, he, ⟨q1, q2⟩ | ⟨q1, q2⟩⟩
    · exact ⟨e, he, List.mem_append_left _ (by rw [if_pos q1, q2]; exact List.mem_singleton_self _)⟩
    · exact ⟨e, he, List.mem_append_right _ (by rw [if_pos q2, q1]; exact List.mem_singleton_self _)⟩
/-- what a tree is for walks: its vertices, no vertex twice among the neighbours, each edge a bridge -/
structure Wood (n : Nat) (es : List Ed) : Prop where
  rng : ∀ x y, Adj es x y → 0 ≤ x ∧ x < (n : Int)
  ne : ∀ x y, Adj es x y → x ≠ y
  nd : ∀ v, (nbrs es v).Nodup
  br : ∀ x y, Adj es x y → ¬ Conn (cutE es x y) x y
  all : ∀ x y, 0 ≤ x → x < (n : Int) → 0 ≤ y → y < (n : Int) → Conn es x y
theorem nrm_ends {x y d : Int} : ((nrm (x, y, d)).1 = x ∧ (nrm (x, y, d)).2.1 = y) ∨ ((nrm (x, y, d)).1 = y ∧ (nrm (x, y, d)).2.1 = x) := by
  rw [nrm_fst]
  by_cases h : y < x
  · rw [if_pos h]; exact .inr ⟨rfl, rfl⟩
  · rw [if_neg h]
    by_cases h2 : x < y
    · rw [if_pos h2]; exact .inl ⟨rfl, rfl⟩
    · rw [if_neg h2]
      have : x = y := by omega
      exact .inl ⟨rfl, this⟩
theorem Grow.adj {vs : List Int} {es : List Ed} (g : Grow vs es) {x y : Int} (h : Adj es x y) : x ∈ vs ∧ y ∈ vs ∧ x ≠ y := by
  obtain ⟨e, he, q⟩ := h
  obtain ⟨a, b, c, _⟩ := g.edge e he
  rcases q with ⟨q1, q2⟩ | ⟨q1, q2⟩ <;> subst q1 q2
  · exact ⟨a, b, by omega⟩
  · exact ⟨b, a, by omega⟩
theorem conn_alone {es : List Ed} {x y : Int} (h : ∀ z, ¬ Adj es x z) (c : Conn es x y) : y = x := by
  induction c with
  | refl => rfl
  | step _ hs ih => rw [ih] at hs; exact absurd hs (h _)
theorem Grow.nd {vs : List Int} {es : List Ed} (g : Grow vs es) (v : Int) : (nbrs es v).Nodup := by
  induction g with
  | one => exact List.nodup_nil
  | @leaf vs es x y d g hy hx h1 h2 ih =>
    have e1 : nbrs (es ++ [nrm (x, y, d)]) v = nbrs es v ++ nbE v (nrm (x, y, d)) := by
      unfold nbrs
      rw [List.flatMap_append]
      simp
    have hne : x ≠ y := fun z => hx (z ▸ hy)
    have noX : nbrs es x = [] := List.eq_nil_iff_forall_not_mem.mpr fun z hz => hx (g.adj (mem_nbrs.mp hz)).1
    have notX : x ∉ nbrs es v := fun hz => hx (g.adj (mem_nbrs.mp hz)).2.1
    rw [e1]
    have two : nbE v (nrm (x, y, d)) = (if v = x then [y] else []) ∨ nbE v (nrm (x, y, d)) = (if v = y then [x] else []) := by
      unfold nbE
      rcases nrm_ends (x := x) (y := y) (d := d) with ⟨q1, q2⟩ | ⟨q1, q2⟩ <;> rw [q1, q2]
      · by_cases c : v = x
        · rw [if_pos c, if_pos c.symm, if_neg (fun z => hne (c ▸ z.symm))]
          exact .inl rfl
        · rw [if_neg (fun z => c z.symm)]
          by_cases c2 : v = y
          · rw [if_pos c2, if_pos c2.symm]
            exact .inr rfl
          · rw [if_neg c2, if_neg (fun z => c2 z.symm)]
            exact .inr rfl
      · by_cases c : v = x
        · rw [if_pos c, if_pos c.symm, if_neg (fun z => hne (c ▸ z.symm))]
          exact .inl rfl
        · rw [if_neg (fun z : x = v => c z.symm)]
          by_cases c2 : v = y
          · rw [if_pos c2, if_pos c2.symm]
            exact .inr rfl
          · rw [if_neg c2, if_neg (fun z => c2 z.symm)]
            exact .inr rfl
    rcases two with q | q <;> rw [q]
    · by_cases c : v = x
      · rw [if_pos c, c, noX]
        simp
      · rw [if_neg c, List.append_nil]
        exact ih
    · by_cases c : v = y
      · rw [if_pos c]
        refine List.nodup_append.mpr ⟨ih, by simp, ?_⟩
        intro a ha b hb
        have : b = x := by simpa using hb
        subst this
        exact fun z => notX (z ▸ ha)
      · rw [if_neg c, List.append_nil]
        exact ih
theorem cut_append (a b : List Ed) (x y : Int) : cutE (a ++ b) x y = cutE a x y ++ cutE b x y := List.filter_append ..
theorem cut_sub {es : List Ed} {x y : Int} : ∀ e ∈ cutE es x y, e ∈ es := fun e he => (mem_cut.mp he).1
theorem Grow.br {vs : List Int} {es : List Ed} (g : Grow vs es) : ∀ x y, Adj es x y → ¬ Conn (cutE es x y) x y := by
  induction g with
  | one => rintro x y ⟨e, he, _⟩; cases he
  | @leaf vs es x y d g hy hx h1 h2 ih =>
    have hne : x ≠ y := fun z => hx (z ▸ hy)
    have alone : ∀ z, ¬ Adj es x z := fun z hz => hx (g.adj hz).1
    have aloneC : ∀ (u v z : Int), ¬ Adj (cutE es u v) x z := fun u v z hz => alone z (hz.mono cut_sub)
    intro u v h c
    by_cases same : (u = x ∧ v = y) ∨ (u = y ∧ v = x)
    · have e0 : cutE [nrm (x, y, d)] u v = [] := by
        refine List.filter_eq_nil_iff.mpr fun e he => ?_
        have : e = nrm (x, y, d) := by simpa using he
        subst this
        unfold isE
        rcases nrm_ends (x := x) (y := y) (d := d) with ⟨q1, q2⟩ | ⟨q1, q2⟩ <;> rcases same with ⟨s1, s2⟩ | ⟨s1, s2⟩ <;> simp [q1, q2, s1, s2]
      rw [cut_append, e0, List.append_nil] at c
      rcases same with ⟨s1, s2⟩ | ⟨s1, s2⟩ <;> subst s1 s2
      · exact hne (conn_alone (aloneC _ _) c).symm
      · exact hne (conn_alone (aloneC _ _) c.symm).symm
    · have hn : ¬ isE u v (nrm (x, y, d)) = true := by
        unfold isE
        intro z
        have z' := of_decide_eq_true z
        rcases nrm_ends (x := x) (y := y) (d := d) with ⟨q1, q2⟩ | ⟨q1, q2⟩ <;> rw [q1, q2] at z' <;> rcases z' with ⟨z1, z2⟩ | ⟨z1, z2⟩
        · exact same (.inl ⟨z1.symm, z2.symm⟩)
        · exact same (.inr ⟨z2.symm, z1.symm⟩)
        · exact same (.inr ⟨z1.symm, z2.symm⟩)
        · exact same (.inl ⟨z2.symm, z1.symm⟩)
      have e0 : cutE [nrm (x, y, d)] u v = [nrm (x, y, d)] := by
        unfold cutE
        rw [List.filter_cons_of_pos (by simpa using hn), List.filter_nil]
      have hold : Adj es u v := by
        rcases adj_snoc.mp h with q | q
        · exact q
        · exfalso
          rcases nrm_ends (x := x) (y := y) (d := d) with ⟨q1, q2⟩ | ⟨q1, q2⟩ <;> rw [q1, q2] at q <;> rcases q with ⟨z1, z2⟩ | ⟨z1, z2⟩
          · exact same (.inl ⟨z1.symm, z2.symm⟩)
          · exact same (.inr ⟨z2.symm, z1.symm⟩)
          · exact same (.inr ⟨z1.symm, z2.symm⟩)
          · exact same (.inl ⟨z2.symm, z1.symm⟩)
      have av := g.adj hold
      rw [cut_append, e0] at c
      have toX : ∀ z, z ∈ vs → ¬ Conn (cutE es u v) z x := fun z hz hc => hx ((conn_alone (aloneC _ _) hc.symm) ▸ hz)
      rcases conn_snoc.mp c with q | ⟨qa, qb⟩ | ⟨qa, qb⟩
      · exact ih u v hold q
      · rcases nrm_ends (x := x) (y := y) (d := d) with ⟨q1, q2⟩ | ⟨q1, q2⟩ <;> rw [q1] at qa <;> rw [q2] at qb
        · exact toX u av.1 qa
        · exact toX v av.2.1 qb.symm
      · rcases nrm_ends (x := x) (y := y) (d := d) with ⟨q1, q2⟩ | ⟨q1, q2⟩ <;> rw [q2] at qa <;> rw [q1] at qb
        · exact toX v av.2.1 qb.symm
        · exact toX u av.1 qa
theorem Grow.all {vs : List Int} {es : List Ed} (g : Grow vs es) : ∀ x ∈ vs, ∀ y ∈ vs, Conn es x y := by
  induction g with
  | one v =>
    intro x hx y hy
    have e1 : x = v := by simpa using hx
    have e2 : y = v := by simpa using hy
    rw [e1, e2]
    exact .refl _
  | @leaf vs es x y d g hy hx h1 h2 ih =>
    have ad : Adj (es ++ [nrm (x, y, d)]) x y := adj_snoc.mpr (.inr nrm_ends)
    have up : ∀ {a b : Int}, Conn es a b → Conn (es ++ [nrm (x, y, d)]) a b := fun h => h.mono fun f hf => List.mem_append_left _ hf
    have toY : ∀ z ∈ vs ++ [x], Conn (es ++ [nrm (x, y, d)]) z y := fun z hz => by
      rcases List.mem_append.mp hz with hz | hz
      · exact up (ih z hz y hy)
      · have : z = x := by simpa using hz
        rw [this]
        exact .one ad
    intro a ha b hb
    exact (toY a ha).trans (toY b hb).symm
theorem nbrs_perm_es {es fs : List Ed} (p : es.Perm fs) (v : Int) : (nbrs es v).Perm (nbrs fs v) := List.Perm.flatMap_right _ p
theorem IsTree.wood {n : Nat} {es : List Ed} (t : IsTree n es) : Wood n es := by
  obtain ⟨vs, fs, g, p, q⟩ := t.grow
  have to : ∀ {x y}, Adj es x y → Adj fs x y := fun h => h.mono fun e he => q.mem_iff.mp he
  have ofc : ∀ {u v x y}, Conn (cutE es u v) x y → Conn (cutE fs u v) x y := fun h => h.mono fun e he => mem_cut.mpr ⟨q.mem_iff.mp (mem_cut.mp he).1, (mem_cut.mp he).2⟩
  refine ⟨fun x y h => mem_rI.mp (p.mem_iff.mp (g.adj (to h)).1), fun x y h => (g.adj (to h)).2.2, fun v => (nbrs_perm_es q v).nodup_iff.mpr (g.nd v), fun x y h c => g.br x y (to h) (ofc c), fun x y x0 x1 y0 y1 => ?_⟩
  exact (g.all x (p.mem_iff.mpr (mem_rI.mpr ⟨x0, x1⟩)) y (p.mem_iff.mpr (mem_rI.mpr ⟨y0, y1⟩))).mono fun e he => q.mem_iff.mpr he
/-- u belongs to the branch of v away from a -/
def InC (es : List Ed) (v a u : Int) : Prop := Conn (cutE es v a) v u
theorem Wood.inC {n : Nat} {es : List Ed} (W : Wood n es) {v a u : Int} (ha : Adj es v a) : InC es v a u ↔ u = v ∨ ∃ w, Adj es v w ∧ w ≠ a ∧ InC es w v u := by
  constructor
  · intro h
    change Conn (cutE es v a) v u at h
    induction h with
    | refl => exact .inl rfl
    | @step z z' _ hs ih =>
      obtain ⟨hs1, hs2⟩ := adj_cut.mp hs
      rcases ih with e | ⟨w, hw, hwa, hc⟩
      · subst e
        exact .inr ⟨z', hs1, fun e => hs2 (.inl ⟨rfl, e⟩), .refl _⟩
      · by_cases c : (z = w ∧ z' = v) ∨ (z = v ∧ z' = w)
        · rcases c with ⟨_, c⟩ | ⟨_, c⟩
          · exact .inl c
          · exact .inr ⟨w, hw, hwa, c ▸ .refl _⟩
        · exact .inr ⟨w, hw, hwa, hc.step (adj_cut.mpr ⟨hs1, c⟩)⟩
  · rintro (e | ⟨w, hw, hwa, hc⟩)
    · rw [e]; exact .refl _
    · have key : ∀ z, Conn (cutE es w v) w z → Conn (cutE es v a) w z := by
        intro z hz
        induction hz with
        | refl => exact .refl _
        | @step z z' hz1 hs ih =>
          obtain ⟨hs1, hs2⟩ := adj_cut.mp hs
          refine ih.step (adj_cut.mpr ⟨hs1, ?_⟩)
          rintro (⟨c1, c2⟩ | ⟨c1, c2⟩)
          · exact W.br w v hw.symm (c1 ▸ hz1)
          · exact W.br w v hw.symm (c2 ▸ (hz1.step hs))
      have first : Adj (cutE es v a) v w := adj_cut.mpr ⟨hw, fun c => by
        rcases c with ⟨_, c⟩ | ⟨c1, c2⟩
        · exact hwa c
        · exact W.ne v w hw c2.symm⟩
      exact (Conn.one first).trans (key u hc)
/-- a branch does not contain the vertex that it is away from -/
theorem Wood.notIn {n : Nat} {es : List Ed} (W : Wood n es) {v w : Int} (hw : Adj es v w) : ¬ InC es w v v := W.br w v hw.symm
/-- branches of different neighbours have no common vertex -/
theorem Wood.apart {n : Nat} {es : List Ed} (W : Wood n es) {v w w' u : Int} (hw : Adj es v w) (hw' : Adj es v w') (hne : w ≠ w') (h : InC es w v u) (h' : InC es w' v u) : False := by
  have key : ∀ z, Conn (cutE es w' v) w' z → Conn (cutE es w v) w' z := by
    intro z hz
    induction hz with
    | refl => exact .refl _
    | @step z z' hz1 hs ih =>
      obtain ⟨hs1, hs2⟩ := adj_cut.mp hs
      refine ih.step (adj_cut.mpr ⟨hs1, ?_⟩)
      rintro (⟨c1, c2⟩ | ⟨c1, c2⟩)
      · exact W.br w' v hw'.symm (c2 ▸ (hz1.step hs))
      · exact W.br w' v hw'.symm (c1 ▸ hz1)
  have first : Adj (cutE es w v) w' v := adj_cut.mpr ⟨hw'.symm, fun c => by
    rcases c with ⟨c, _⟩ | ⟨c, _⟩
    · exact hne c.symm
    · exact W.ne v w' hw' c.symm⟩
  have h1 : Conn (cutE es w v) w u := h
  exact W.br w v hw.symm ((h1.trans (key u h').symm).step first)
theorem Wood.range {n : Nat} {es : List Ed} (W : Wood n es) {v a u : Int} (hv : 0 ≤ v ∧ v < (n : Int)) (h : InC es v a u) : 0 ≤ u ∧ u < (n : Int) := by
  change Conn (cutE es v a) v u at h
  induction h with
  | refl => exact hv
  | step _ hs _ => exact W.rng _ _ ((adj_cut.mp hs).1.symm)
/-- numbers without repetition, all of them in another list, are no more than those -/
theorem nodup_le : ∀ {l m : List Int}, l.Nodup → (∀ u ∈ l, u ∈ m) → l.length ≤ m.length
  | [], _, _, _ => Nat.zero_le _
  | a :: l, m, nd, h => by
    have nd' := List.nodup_cons.mp nd
    have ha := h a List.mem_cons_self
    have ih := nodup_le (l := l) (m := m.erase a) nd'.2 fun u hu => (List.mem_erase_of_ne (fun e : u = a => nd'.1 (e ▸ hu))).mpr (h u (List.mem_cons_of_mem _ hu))
    rw [List.length_erase_of_mem ha] at ih
    have := List.length_pos_of_mem ha
    rw [List.length_cons]
    omega
/-- two strictly ascending lists with the same numbers are one -/
theorem strict_eq {a b : List Int} (ha : a.Pairwise (· < ·)) (hb : b.Pairwise (· < ·)) (h : ∀ u, u ∈ a ↔ u ∈ b) : a = b := by
  have na : a.Nodup := ha.imp fun h => by omega
  have nb : b.Nodup := hb.imp fun h => by omega
  exact sorted_eq ((List.perm_ext_iff_of_nodup na nb).mpr h) (ha.imp fun h => by omega) (hb.imp fun h => by omega)
/-! labels: two vertices have the same one if and only if they are joined -/
def getI (l : List Int) (x : Int) : Int := l.getD x.toNat 0
theorem getI_at {l : List Int} {x : Int} (h0 : 0 ≤ x) (h1 : x < (l.length : Int)) : atI (l.map V.int) x = some (.int (getI l x)) := by
  obtain ⟨j, rfl⟩ := Int.eq_ofNat_of_zero_le h0
  have hj : j < l.length := by omega
  rw [atI_nat (get_int hj)]
  unfold getI
  show some (V.int l[j]) = some (V.int (l.getD j 0))
  rw [List.getD_eq_getElem?_getD, List.getElem?_eq_getElem hj]
  rfl
theorem rI_succ (n : Nat) : rI (n + 1) = rI n ++ [(n : Int)] := by
  unfold rI
  rw [List.range_succ, List.map_append]
  rfl
theorem rI_strict (n : Nat) : (rI n).Pairwise (· < ·) := List.pairwise_map.mpr (List.pairwise_lt_range.imp fun h => Int.ofNat_lt.mpr h)
structure Lab (L : List Int) (n : Nat) (F : List Ed) : Prop where
  len : L.length = n
  eq : ∀ x y, 0 ≤ x → x < (n : Int) → 0 ≤ y → y < (n : Int) → (getI L x = getI L y ↔ Conn F x y)
def relab (L : List Int) (a b : Int) : List Int := L.map fun l => if l = getI L b then getI L a else l
theorem getI_relab {L : List Int} {a b x : Int} (h0 : 0 ≤ x) (h1 : x < (L.length : Int)) : getI (relab L a b) x = if getI L x = getI L b then getI L a else getI L x := by
  have hx : x.toNat < L.length := by omega
  have e : ∀ M : List Int, getI M x = (M[x.toNat]?).getD 0 := fun M => by
    unfold getI
    rw [List.getD_eq_getElem?_getD]
  rw [e (relab L a b), e L]
  unfold relab
  rw [List.getElem?_map, List.getElem?_eq_getElem hx]
  rfl
theorem Lab.start (n : Nat) : Lab (rI n) n [] := by
  refine ⟨rI_len n, fun x y x0 x1 y0 y1 => ?_⟩
  have g : ∀ z : Int, 0 ≤ z → z < (n : Int) → getI (rI n) z = z := fun z z0 z1 => by
    obtain ⟨j, rfl⟩ := Int.eq_ofNat_of_zero_le z0
    unfold getI rI
    have hj : j < n := by omega
    show ((List.range n).map Int.ofNat).getD j 0 = _
    rw [List.getD_eq_getElem?_getD, List.getElem?_map, List.getElem?_range hj]
    rfl
  rw [g x x0 x1, g y y0 y1]
  constructor
  · rintro rfl
    exact .refl _
  · intro c
    exact (conn_alone (fun z ⟨e, he, _⟩ => by cases he) c).symm
theorem Lab.next {L : List Int} {n : Nat} {F : List Ed} (h : Lab L n F) {e : Ed} (a0 : 0 ≤ e.1 ∧ e.1 < (n : Int)) (b0 : 0 ≤ e.2.1 ∧ e.2.1 < (n : Int)) : Lab (relab L e.1 e.2.1) n (F ++ [e]) := by
  refine ⟨by unfold relab; rw [List.length_map]; exact h.len, fun x y x0 x1 y0 y1 => ?_⟩
  have hl := h.len
  rw [getI_relab x0 (by omega), getI_relab y0 (by omega), conn_snoc]
  have exy := h.eq x y x0 x1 y0 y1
  have exa := h.eq x e.1 x0 x1 a0.1 a0.2
  have exb := h.eq x e.2.1 x0 x1 b0.1 b0.2
  have eya := h.eq e.1 y a0.1 a0.2 y0 y1
  have eyb := h.eq e.2.1 y b0.1 b0.2 y0 y1
  rw [← exy, ← exa, ← exb, ← eya, ← eyb]
  by_cases c1 : getI L x = getI L e.2.1 <;> by_cases c2 : getI L y = getI L e.2.1
  · rw [if_pos c1, if_pos c2, c1, c2]
    simp
  · rw [if_pos c1, if_neg c2]
    constructor
    · intro q
      exact .inr (.inr ⟨c1, q⟩)
    · rintro (q | ⟨_, q⟩ | ⟨_, q⟩)
      · exact absurd (q.symm.trans c1) c2
      · exact absurd q.symm c2
      · exact q
  · rw [if_neg c1, if_pos c2]
    constructor
    · intro q
      exact .inr (.inl ⟨q, c2.symm⟩)
    · rintro (q | ⟨q, _⟩ | ⟨q, _⟩)
      · exact absurd (q.trans c2) c1
      · exact q
      · exact absurd q c1
  · rw [if_neg c1, if_neg c2]
    constructor
    · exact .inl
    · rintro (q | ⟨_, q⟩ | ⟨q, _⟩)
      · exact q
      · exact absurd q.symm c2
      · exact absurd q c1
/-- the branch has at most k vertices -/
def Sz (es : List Ed) (v a : Int) (k : Nat) : Prop := ∀ l : List Int, l.Nodup → (∀ u ∈ l, InC es v a u) → l.length ≤ k
theorem Sz.sub {n : Nat} {es : List Ed} (W : Wood n es) {v a w : Int} {k : Nat} (s : Sz es v a (k + 1)) (ha : Adj es v a) (hw : Adj es v w) (hne : w ≠ a) : Sz es w v k := by
  intro l nd h
  have := s (v :: l) (List.nodup_cons.mpr ⟨fun hv => W.notIn hw (h v hv), nd⟩) fun u hu => by
    rcases List.mem_cons.mp hu with e | hu
    · exact (W.inC ha).mpr (.inl e)
    · exact (W.inC ha).mpr (.inr ⟨w, hw, hne, h u hu⟩)
  rw [List.length_cons] at this
  omega
theorem Sz.mono {es : List Ed} {v a : Int} {j k : Nat} (s : Sz es v a j) (h : j ≤ k) : Sz es v a k := fun l nd q => Nat.le_trans (s l nd q) h
theorem Sz.top {n : Nat} {es : List Ed} (W : Wood n es) {v a : Int} (hv : 0 ≤ v ∧ v < (n : Int)) : Sz es v a n := by
  intro l nd h
  have sub : l ⊆ rI n := fun u hu => mem_rI.mpr (W.range hv (h u hu))
  have := nodup_le nd sub
  rwa [rI_len] at this
theorem strict_of {l : List Int} (h : l.Pairwise (· ≤ ·)) (nd : l.Nodup) : l.Pairwise (· < ·) := by
  refine (List.pairwise_and_iff.mpr ⟨h, nd⟩).imp ?_
  rintro a b ⟨h1, h2⟩
  have : a ≠ b := h2
  omega
end Tr

/-! ### A9. xs.extend(t), t a tuple -/
namespace PySem.Tr9
open PySem PySem.AutoSeq1
set_option maxRecDepth 8000 in
theorem ext_tup (l : Addr) (xs : Array Value) (n : Nat) (b : Addr) (ys : Array Value) (k : Nat) (dd : Option Addr) (sl : Array (Option Value)) (h1 : ¬(!xs.isEmpty && Builtin.List.listTooLong (xs.size + ys.size)) = true) (h2 : xs.size ≤ sizeLine)
    (h3 : xs.size + ys.size ≤ sizeLine + 1) :
    Meets (Builtin.«list.extend» ⟨[.ref l, .ref b], []⟩) (fun _ R s => s.heap.get? l = some { cls := .type "list", dict := none, data := .seq xs n, slots := #[] } ∧ s.heap.get? b = some { cls := .type "tuple", dict := dd, data := .seq ys k, slots := sl } ∧
      R (.ok (.ret Value.none)) { s with heap := s.heap.update l (Obj.mapSeq fun x => x ++ ys), toks := s.toks }) :=
  .of_wp fun prog w A R s h => by
    obtain ⟨hp, g, d, tk, os⟩ := s
    obtain ⟨hl, hb, h⟩ := h
    have f1 := idx_int
    have f2 := sub_tuple_tuple
    have f3 := sub_list_list
    have f4 := sub_tuple_list
    have f5 := sub_list_tuple
    have long : (xs ++ ys).size ≤ sizeLine + 1 := by rw [Array.size_append]; exact h3
    wp_walk using (wpAny_updateSeq hl rfl (hz := h2) (_hz' := long)), wpAny_loadPart' hl, wpAny_loadPart' hb
    exact ⟨_, rfl, h⟩
end PySem.Tr9
namespace Tr
open PySem PySem.Spec PyProof.Rows L2
def rExtT (K : PySem.W.Frag) : V → List V → Hp → VK → Prop := fun x vs H Q => ∃ l b xs zs, x = .ref l ∧ vs = [.ref b] ∧ H l = some (.lst xs) ∧ H b = some (.tup zs) ∧ xs.length + zs.length ≤ sizeLine ∧ Q .non (upd H l (.lst (xs ++ zs)))
theorem mt_extT {X : Cx} : MtM X "list.extend" (rExtT X.K) := by
  rintro pins s σ H x vs v us Q I rx rv ⟨l, b, xs, zs, rfl, rfl, hl, hb, sz, q⟩
  cases rx
  obtain ⟨u, rfl, ru⟩ := rv.one
  cases ru
  obtain ⟨_, its, n, r, len, e⟩ := I.lstM hl
  obtain ⟨its2, r2, ⟨o, e2, ec, k, ed⟩, _⟩ := I.tuple (SqT.of hb)
  have len2 := r2.length
  obtain ⟨cls, dd, data, sl⟩ := o
  have ec' : cls = .type "tuple" := ec
  have ed' : data = .seq its2.toArray k := ed
  subst ec' ed'
  have small : its.toArray.size + its2.toArray.size ≤ sizeLine := by
    rw [List.size_toArray, List.size_toArray]
    omega
  have door : ¬ (!its.toArray.isEmpty && Builtin.List.listTooLong (its.toArray.size + its2.toArray.size)) = true := by
    rw [notLongL small, Bool.and_false]
    exact Bool.false_ne_true
  have met := PySem.Tr9.ext_tup l its.toArray n b its2.toArray k dd sl door (by rw [List.size_toArray]; omega) (by omega)
  refine call_meets F.slot_list_extend ⟨_, e, rfl⟩ F.entry_list_extend (F.args_list_extend_2 _ _) met ⟨e, e2, .non, _, I.lset (its' := its ++ its2) hl e (by simp) (Vals.append r r2) ?_, rfl, q⟩
  rw [List.length_append]
  exact sz
end Tr

/-! ### A10. The next vertex towards a vertex; paths -/
namespace Tr
open PySem PySem.Spec PyProof.Rows L2
/-- c is the next vertex on the path from u to s -/
def Nx (es : List Ed) (s u c : Int) : Prop := Adj es u c ∧ InC es c u s
theorem Wood.nx_uniq {n : Nat} {es : List Ed} (W : Wood n es) {s u c c' : Int} (h : Nx es s u c) (h' : Nx es s u c') : c = c' :=
  Decidable.byContradiction fun e => W.apart h.1 h'.1 e h.2 h'.2
theorem conn_first {es : List Ed} {u z : Int} (h : Conn es u z) : z = u ∨ ∃ c, Adj es u c ∧ InC es c u z := by
  induction h with
  | refl => exact .inl rfl
  | @step z z' _ hs ih =>
    rcases ih with e | ⟨w, hw, hc⟩
    · subst e
      exact .inr ⟨z', hs, .refl _⟩
    · by_cases c : (z = w ∧ z' = u) ∨ (z = u ∧ z' = w)
      · rcases c with ⟨_, c⟩ | ⟨_, c⟩
        · exact .inl c
        · exact .inr ⟨w, hw, c ▸ .refl _⟩
      · exact .inr ⟨w, hw, hc.step (adj_cut.mpr ⟨hs, c⟩)⟩
theorem Wood.nx_ex {n : Nat} {es : List Ed} (W : Wood n es) {s u : Int} (hs : 0 ≤ s ∧ s < (n : Int)) (hu : 0 ≤ u ∧ u < (n : Int)) (hne : s ≠ u) : ∃ c, Nx es s u c := by
  rcases conn_first (W.all u s hu.1 hu.2 hs.1 hs.2) with e | h
  · exact absurd e hne
  · exact h
theorem Wood.nx_ne {n : Nat} {es : List Ed} (W : Wood n es) {s u c : Int} (h : Nx es s u c) : u ≠ s := fun e => by
  rw [← e] at h
  exact W.notIn h.1 h.2
theorem nx_here {es : List Ed} {s u : Int} (h : Adj es u s) : Nx es s u s := ⟨h, .refl _⟩
/-- a neighbour that is not the next vertex has this vertex as its next one -/
theorem Wood.nx_back {n : Nat} {es : List Ed} (W : Wood n es) {s u w : Int} (h : Adj es u w) (hn : ¬ Nx es s u w) (hs : 0 ≤ s ∧ s < (n : Int)) : Nx es s w u := by
  refine ⟨h.symm, ?_⟩
  by_cases e : s = u
  · rw [e]
    exact .refl _
  obtain ⟨c, hc⟩ := W.nx_ex hs (W.rng u w h) e
  have cw : c ≠ w := fun z => hn (z ▸ hc)
  exact (W.inC h).mpr (.inr ⟨c, hc.1, cw, hc.2⟩)
/-- the path from u to s -/
inductive PathTo (es : List Ed) (s : Int) : Int → List Int → Prop
  | here : PathTo es s s [s]
  | step {u c : Int} {l : List Int} : Nx es s u c → PathTo es s c l → PathTo es s u (u :: l)
theorem PathTo.head {es : List Ed} {s u : Int} {l : List Int} (p : PathTo es s u l) : ∃ r, l = u :: r := by
  cases p with
  | here => exact ⟨[], rfl⟩
  | step _ _ => exact ⟨_, rfl⟩
theorem PathTo.last {es : List Ed} {s u : Int} {l : List Int} (p : PathTo es s u l) : l.getLast? = some s := by
  induction p with
  | here => rfl
  | @step u c l _ q ih =>
    obtain ⟨r, rfl⟩ := q.head
    rw [List.getLast?_cons_cons]
    exact ih
theorem Wood.path_uniq {n : Nat} {es : List Ed} (W : Wood n es) {s u : Int} {l l' : List Int} (p : PathTo es s u l) (p' : PathTo es s u l') : l = l' := by
  induction p generalizing l' with
  | here =>
    cases p' with
    | here => rfl
    | step h _ => exact absurd rfl (W.nx_ne h)
  | step h _ ih =>
    cases p' with
    | here => exact absurd rfl (W.nx_ne h)
    | step h' q' =>
      have e := W.nx_uniq h h'
      subst e
      rw [ih q']
theorem Wood.path_ex {n : Nat} {es : List Ed} (W : Wood n es) {s : Int} (hs : 0 ≤ s ∧ s < (n : Int)) : ∀ (k : Nat) (u c : Int), Nx es s u c → Sz es c u k → ∃ l, PathTo es s c l ∧ l.length ≤ k
  | 0, u, c, h, z => by
    have := z [c] (by simp) fun x hx => by
      have : x = c := by simpa using hx
      rw [this]
      exact .refl _
    simp at this
  | k + 1, u, c, h, z => by
    by_cases e : s = c
    · subst e
      exact ⟨[s], .here, by simp⟩
    · have hc := (W.rng c u h.1.symm)
      rcases (W.inC h.1.symm).mp h.2 with e' | ⟨w, hw, hwu, hin⟩
      · exact absurd e' e
      · obtain ⟨l, p, len⟩ := W.path_ex hs k c w ⟨hw, hin⟩ (z.sub W h.1.symm hw hwu)
        exact ⟨c :: l, .step ⟨hw, hin⟩ p, by rw [List.length_cons]; omega⟩
theorem Wood.path {n : Nat} {es : List Ed} (W : Wood n es) {s u : Int} (hs : 0 ≤ s ∧ s < (n : Int)) (hu : 0 ≤ u ∧ u < (n : Int)) : ∃ l, PathTo es s u l ∧ l.length ≤ n := by
  by_cases e : s = u
  · subst e
    exact ⟨[s], .here, by show 1 ≤ n; omega⟩
  · obtain ⟨c, h⟩ := W.nx_ex hs hu e
    have hc := W.rng c u h.1.symm
    obtain ⟨l, p, len⟩ := W.path_ex hs n u c h (Sz.top W hc)
    -- the path without its first vertex has at most n - 1 vertices: u is none of them
    have z : Sz es c u (n - 1) := fun l nd hl => by
      have := nodup_le (l := u :: l) (m := rI n) (List.nodup_cons.mpr ⟨fun h' => W.notIn h.1 (hl u h'), nd⟩) fun x hx => by
        rcases List.mem_cons.mp hx with ex | hx
        · rw [ex]; exact mem_rI.mpr hu
        · exact mem_rI.mpr (W.range hc (hl x hx))
      rw [rI_len, List.length_cons] at this
      omega
    obtain ⟨l, p, len⟩ := W.path_ex hs (n - 1) u c h z
    exact ⟨u :: l, .step h p, by rw [List.length_cons]; omega⟩
/-- consecutive vertices are joined by an edge -/
inductive Chain (es : List Ed) : List Int → Prop
  | one (u : Int) : Chain es [u]
  | cons {u v : Int} {l : List Int} : Adj es u v → Chain es (v :: l) → Chain es (u :: v :: l)
theorem PathTo.chain {es : List Ed} {s u : Int} {l : List Int} (p : PathTo es s u l) : Chain es l := by
  induction p with
  | here => exact .one _
  | step h q ih =>
    obtain ⟨r, rfl⟩ := q.head
    exact .cons h.1 ih
theorem Wood.path_in {n : Nat} {es : List Ed} (W : Wood n es) {s c : Int} {l : List Int} (p : PathTo es s c l) : ∀ u, Nx es s u c → ∀ x ∈ l, InC es c u x := by
  induction p with
  | here =>
    intro u h x hx
    have : x = s := by simpa using hx
    rw [this]
    exact .refl _
  | @step v w l h q ih =>
    intro u hu x hx
    rcases List.mem_cons.mp hx with e | hx
    · rw [e]
      exact .refl _
    · have wu : w ≠ u := fun e => by
        rcases (W.inC hu.1.symm).mp hu.2 with e' | ⟨z, hz, hzu, hin⟩
        · exact W.nx_ne h e'.symm
        · exact hzu ((W.nx_uniq ⟨hz, hin⟩ h).trans e)
      exact (W.inC hu.1.symm).mpr (.inr ⟨w, h.1, wu, ih v h x hx⟩)
theorem Wood.path_nodup {n : Nat} {es : List Ed} (W : Wood n es) {s u : Int} {l : List Int} (p : PathTo es s u l) : l.Nodup := by
  induction p with
  | here => simp
  | step h q ih => exact List.nodup_cons.mpr ⟨fun hm => W.notIn h.1 (W.path_in q _ h _ hm), ih⟩
theorem chain_conn {es : List Ed} {s : Int} : ∀ {l : List Int} {c : Int}, Chain es (c :: l) → (c :: l).getLast? = some s → ∀ u, u ∉ c :: l → Conn (cutE es c u) c s ∧ Conn (es.filter fun e => !(decide (e.1 = u) || decide (e.2.1 = u))) c s := by
  intro l
  induction l with
  | nil =>
    intro c _ hl u _
    have : c = s := by simpa using hl
    rw [this]
    exact ⟨.refl _, .refl _⟩
  | cons v l ih =>
    intro c h hl u hu
    cases h with
    | cons ad h =>
    have hu2 : u ∉ v :: l := fun hm => hu (List.mem_cons_of_mem _ hm)
    have q := (ih h (by rwa [List.getLast?_cons_cons] at hl) u hu2).2
    have uc : u ≠ c := fun e => hu (e ▸ List.mem_cons_self)
    have uv : u ≠ v := fun e => hu2 (e ▸ List.mem_cons_self)
    have first : Adj (es.filter fun e => !(decide (e.1 = u) || decide (e.2.1 = u))) c v := by
      obtain ⟨e, he, ee⟩ := ad
      refine ⟨e, List.mem_filter.mpr ⟨he, ?_⟩, ee⟩
      rcases ee with ⟨a, b⟩ | ⟨a, b⟩ <;> simp [a, b, Ne.symm uc, Ne.symm uv]
    have all := (Conn.one first).trans q
    refine ⟨all.mono fun e he => ?_, all⟩
    obtain ⟨h1, h2⟩ := List.mem_filter.mp he
    refine mem_cut.mpr ⟨h1, ?_⟩
    rintro (⟨_, z⟩ | ⟨z, _⟩) <;> simp [z] at h2
/-- a chain without repetition is the path -/
theorem Wood.path_of {n : Nat} {es : List Ed} (W : Wood n es) {s : Int} : ∀ {l : List Int} {u : Int}, Chain es (u :: l) → (u :: l).Nodup → (u :: l).getLast? = some s → PathTo es s u (u :: l)
  | [], u, _, _, hl => by
    have : u = s := by simpa using hl
    rw [this]
    exact .here
  | v :: l, u, h, nd, hl => by
    cases h with
    | cons ad h =>
    have nd' := List.nodup_cons.mp nd
    have hl' : (v :: l).getLast? = some s := by rwa [List.getLast?_cons_cons] at hl
    exact .step ⟨ad, (chain_conn h hl' u nd'.1).1⟩ (W.path_of h nd'.2 hl')
theorem Chain.snoc {es : List Ed} {u v : Int} : ∀ {l : List Int}, Chain es (l ++ [u]) → Adj es u v → Chain es (l ++ [u, v])
  | [], _, h => .cons h (.one _)
  | [a], c, h => by
    cases c with
    | cons h1 h2 => exact .cons h1 (.cons h (.one _))
  | a :: b :: l, c, h => by
    cases c with
    | cons h1 h2 => exact .cons h1 (Chain.snoc (l := b :: l) h2 h)
theorem Chain.reverse {es : List Ed} : ∀ {l : List Int}, Chain es l → Chain es l.reverse
  | _, .one u => .one u
  | _, .cons (u := u) (v := v) (l := l) h q => by
    have ih := q.reverse
    rw [List.reverse_cons] at ih
    have := ih.snoc h.symm
    rw [List.reverse_cons, List.reverse_cons, List.append_assoc]
    exact this
theorem Wood.path_rev {n : Nat} {es : List Ed} (W : Wood n es) {s u : Int} {l : List Int} (p : PathTo es s u l) : PathTo es u s l.reverse := by
  obtain ⟨r, e⟩ := p.head
  have c := p.chain.reverse
  have nd : l.reverse.Nodup := (List.reverse_perm l).nodup_iff.mpr (W.path_nodup p)
  have hd : l.reverse.head? = some s := by rw [List.head?_reverse]; exact p.last
  have lt : l.reverse.getLast? = some u := by rw [List.getLast?_reverse, e]; rfl
  cases h : l.reverse with
  | nil => rw [h] at hd; cases hd
  | cons a b =>
    rw [h] at c nd hd lt
    have : a = s := by simpa using hd
    subst this
    exact W.path_of c nd lt
/-- where the path goes -/
theorem PathTo.at {es : List Ed} {s u : Int} {l : List Int} (p : PathTo es s u l) : ∀ (i : Nat) (x y : Int), l[i]? = some x → l[i + 1]? = some y → Nx es s x y := by
  induction p with
  | here => intro i x y h1 h2; simp at h2
  | @step u c l h q ih =>
    obtain ⟨r, rfl⟩ := q.head
    intro i x y h1 h2
    cases i with
    | zero =>
      have e1 : u = x := by simpa using h1
      have e2 : c = y := by simpa using h2
      rw [← e1, ← e2]
      exact h
    | succ i => exact ih i x y (by simpa using h1) (by simpa using h2)
end Tr

/-! ### A11. t[a:b:c] of a tuple, c not 1; set(t) of a tuple of numbers -/
namespace PySem.Tr11
open PySem PySem.Spec PyProof.Rows L2 HT
/-- the places that a slice with a step picks -/
def picked {α : Type} (xs : List α) (lo hi : Option Int) (c : Int) : List α :=
  (List.range (Builtin.Slice.slicePlaces (Builtin.Slice.sliceAdjust lo hi c (xs.length : Int)).1 (Builtin.Slice.sliceAdjust lo hi c (xs.length : Int)).2 c)).filterMap
    fun (k : Nat) => xs[((Builtin.Slice.sliceAdjust lo hi c (xs.length : Int)).1 + (k : Int) * c).toNat]?
section
variable {prog : Program} {w : World} {A : Around} {E : Value → Shared → Prop} {s : Shared}
theorem applied_step {sl : Addr} {vl vu vs : Value} {lo hi : Option Int} {c : Int} {n : Nat} {Q : Int × Int × Nat → Shared → Prop} (hs : s.heap.IsSliceOf sl vl vu vs) (pl : IsPart vl lo) (pu : IsPart vu hi) (ps : IsPart vs (some c)) (c0 : c ≠ 0)
    (h : Q ((Builtin.Slice.sliceAdjust lo hi c (n : Int)).1, c, Builtin.Slice.slicePlaces (Builtin.Slice.sliceAdjust lo hi c (n : Int)).1 (Builtin.Slice.sliceAdjust lo hi c (n : Int)).2 c) s) :
    wpAny (model prog w) A (Builtin.Slice.sliceApplied (.ref sl) (pure (n : Int))) Q E s := by
  obtain ⟨os, hos, hcs, hds⟩ := id hs
  unfold Builtin.Slice.sliceApplied Builtin.Slice.sliceFields
  refine wpAny_bind (wpAny_bind (wpAny_field hos hds (x := vl) rfl
    (wpAny_bind (wpAny_field hos hds (x := vu) rfl
    (wpAny_bind (wpAny_field hos hds (x := vs) rfl
    (wpAny_pure ?_)))))))
  refine wpAny_bind (slicePart_ ps ?_)
  have nz : ¬ ((c == 0) = true) := fun q => c0 (eq_of_beq q)
  show wpAny _ _ (if (c == 0) = true then _ else _) _ _ s
  rw [if_neg nz]
  exact wpAny_bind (slicePart_ pl (wpAny_bind (slicePart_ pu (wpAny_bind (wpAny_pure (wpAny_pure h))))))
theorem getItem_step {t sl : Addr} {items : Array Value} {vl vu vs : Value} {lo hi : Option Int} {c : Int} {Q : Value → Shared → Prop} (ht : IsTup s.heap t items) (hs : s.heap.IsSliceOf sl vl vu vs) (pl : IsPart vl lo) (pu : IsPart vu hi) (ps : IsPart vs (some c)) (c0 : c ≠ 0) (c1 : c ≠ 1)
    (h : Q (.ref s.heap.objs.size) { s with heap := s.heap.push { cls := .type "tuple", data := .seq (picked items.toList lo hi c).toArray } }) (hz : (picked items.toList lo hi c).length ≤ sizeLine) :
    wpAny (model prog w) A (getItem (.ref t) (.ref sl)) Q E s := by
  have fits : sizeOk (.seq (picked items.toList lo hi c).toArray) := by
    show (picked items.toList lo hi c).toArray.size ≤ sizeLine
    rw [List.size_toArray]
    exact hz
  obtain ⟨os, hos, hcs, hds⟩ := id hs
  have isSlice : s.TypeIs (.ref sl) "slice" := ⟨os, hos, hcs⟩
  unfold getItem
  try with_reducible refine wpAny_holding ?_
  first | refine wpAny_bind (wpAny_pure ?_) | skip
  refine wpAny_bind (wpAny_sequenceKey ht.typeIs (by decide) (wpAny_bind (wpAny_callSpecial?_slot (name := Str.ofString "__getitem__") ht.typeIs PyProof.Rows.slot_tuple_getitem
    (wpAny_call_entry PyProof.Rows.slot_tuple_getitem ht.typeIs entry_tuple_getitem ?_ (args_tuple_getitem _ _)))))
  show wpAny _ _ (Builtin.Tuple.tupleItemsOf (.ref t) >>= _) _ _ s
  refine wpAny_bind (tupleItemsOf_ ht (wpAny_bind (wpAny_typeOf isSlice ?_)))
  rw [if_pos (by decide)]
  refine wpAny_bind (applied_step hs pl pu ps c0 ?_)
  have len : ((items.size : Nat) : Int) = ((items.toList.length : Nat) : Int) := by rw [Array.length_toList]
  rw [len]
  have notWhole : ¬ (((Builtin.Slice.sliceAdjust lo hi c (items.toList.length : Int)).1 == 0 && c == 1 && (Builtin.Slice.slicePlaces (Builtin.Slice.sliceAdjust lo hi c (items.toList.length : Int)).1 (Builtin.Slice.sliceAdjust lo hi c (items.toList.length : Int)).2 c) == items.size) = true) := by
    intro q
    rw [Bool.and_eq_true, Bool.and_eq_true] at q
    exact c1 (eq_of_beq q.1.2)
  show wpAny _ _ (if ((Builtin.Slice.sliceAdjust lo hi c (items.toList.length : Int)).1 == 0 && c == 1 && (Builtin.Slice.slicePlaces (Builtin.Slice.sliceAdjust lo hi c (items.toList.length : Int)).1 (Builtin.Slice.sliceAdjust lo hi c (items.toList.length : Int)).2 c) == items.size) = true then _ else _) _ _ s
  rw [if_neg notWhole]
  have same : ((List.range (Builtin.Slice.slicePlaces (Builtin.Slice.sliceAdjust lo hi c (items.toList.length : Int)).1 (Builtin.Slice.sliceAdjust lo hi c (items.toList.length : Int)).2 c)).filterMap
      fun (k : Nat) => items[((Builtin.Slice.sliceAdjust lo hi c (items.toList.length : Int)).1 + (k : Int) * c).toNat]?) = picked items.toList lo hi c := by
    unfold picked
    refine congrFun (congrArg List.filterMap (funext fun k => ?_)) _
    rw [Array.getElem?_toList]
  rw [same]
  first
    | exact wpAny_bind (m := Builtin.Tuple.tupleExact _) (wpAny_newObj_type (wpAny_pure ⟨_, rfl, wpAny_pure h⟩) fits)
    | exact wpAny_bind (m := Builtin.Tuple.tupleExact _) (wpAny_newObj_type (wpAny_bind (wpAny_pure (wpAny_pure ⟨_, rfl, wpAny_pure h⟩))) fits)
    | exact wpAny_bind (wpAny_bind (m := Builtin.Tuple.tupleExact _) (wpAny_newObj_type (wpAny_pure (wpAny_pure ⟨_, rfl, wpAny_pure h⟩)) fits))
    | exact wpAny_bind (wpAny_bind (m := Builtin.Tuple.tupleExact _) (wpAny_newObj_type (wpAny_pure ⟨_, rfl, wpAny_pure h⟩) fits))
end
end PySem.Tr11
namespace Tr
open PySem PySem.Spec PyProof.Rows L2 PySem.Tr11
/-- t[lo:hi:-1] -/
def tSlR (K : PySem.W.Frag) (te : TE) (tl tu : TO) : TE := fun σ H Q => te σ H fun x H1 => tl σ H1 fun lo H2 => tu σ H2 fun hi H3 => ∃ a xs, x = .ref a ∧ SqT K H3 a xs ∧ (picked xs lo hi (-1)).length ≤ sizeLine ∧ ∀ p, H3 p = none → Q (.ref p) (upd H3 p (.tup (picked xs lo hi (-1))))
theorem filterMap_vals {xs : List V} {us : List Value} (r : Vals xs us) (f : Nat → Nat) : ∀ l : List Nat, Vals (l.filterMap fun k => xs[f k]?) (l.filterMap fun k => us[f k]?)
  | [] => .nil
  | k :: l => by
    have ih := filterMap_vals r f l
    cases h : xs[f k]? with
    | none =>
      simp only [List.filterMap_cons, h, r.none_of h]
      exact ih
    | some x =>
      obtain ⟨u, hu, ru⟩ := r.get h
      simp only [List.filterMap_cons, h, hu]
      exact .cons ru ih
theorem picked_vals {xs : List V} {us : List Value} (r : Vals xs us) (lo hi : Option Int) (c : Int) : Vals (picked xs lo hi c) (picked us lo hi c) := by
  unfold picked
  rw [r.length]
  exact filterMap_vals r (fun k => ((Builtin.Slice.sliceAdjust lo hi c (us.length : Int)).1 + (k : Int) * c).toNat) _
theorem pe_slR {X : Cx} {e : Expr} {l u : Option Expr} {te : TE} {tl tu : TO} {k : Nat} {p1 p2 p3 pos : Pos} (he : PE X e te) (hl : PO X l tl) (hu : PO X u tu)
    (ht : ∀ a b, subscripted (.Slice l u (some (.UnaryOp .USub (.Constant (.int 1) k p1) p2)) p3) false (.ref a) (.ref b) = operate [.ref a, .ref b] (getItem (.ref a) (.ref b)) := by intro _ _; with_unfolding_all rfl) :
    PE X (.Subscript e (.Slice l u (some (.UnaryOp .USub (.Constant (.int 1) k p1) p2)) p3) pos) (tSlR X.K te tl tu) := by
  refine ⟨fun pins s σ H Q I h => ?_⟩
  refine Subscript_ (thn (he.run pins s σ H _ I h) fun v s1 ⟨x, H1, I1, r1, q1⟩ => ?_)
  have third : PO X (some (.UnaryOp .USub (.Constant (.int 1) k p1) p2)) (tPart (tUn (rU fun i => .int (-i)) (tC (.int 1)))) := po_some (pe_un un_neg pe_int)
  refine wpAny_Slice (thn (hl.run pins s1 σ H1 _ I1 q1) fun vl s2 ⟨lo, H2, I2, pl, q2⟩ => thn (hu.run pins s2 σ H2 _ I2 q2) fun vu s3 ⟨hi, H3, I3, pu, q3⟩ => ?_)
  refine thn (third.run pins s3 σ H3 (fun o H4 => o = some (-1) ∧ H4 = H3) I3 ⟨1, rfl, -1, rfl, rfl, rfl⟩) fun vs s4 ⟨o, H4, I4, ps, eo, e4⟩ => ?_
  subst eo e4
  obtain ⟨a, xs, ex, hx, hz, q⟩ := q3
  subst ex
  cases r1
  have I5 : Inv X pins σ H4 { s4 with heap := s4.heap.push { cls := .type "slice", data := .fields #[vl, vu, vs] } } := I4.kept (t' := s4.toks) fun b ob z => Heap.get?_push_of_some _ z
  obtain ⟨its, r, tup, _⟩ := I5.tuple hx
  have rp := picked_vals r lo hi (-1)
  show wpAny (model X.prog X.w) X.A (subscriptTail e _ (.ref a) (.ref s4.heap.objs.size)) (EP X pins σ Q) X.xe { s4 with heap := s4.heap.push { cls := .type "slice", data := .fields #[vl, vu, vs] } }
  refine tail_any (ops := [.ref a, .ref s4.heap.objs.size]) tup.typeIs PyProof.Rows.slot_tuple_getitem.lookup ?_ (ht _ _)
  refine getItem_step tup (Heap.IsSliceOf.new _ vl vu vs) pl pu ps (by decide) (by decide) ?_ (by rw [List.toList_toArray, ← rp.length]; exact hz)
  refine ⟨.ref _, _, I5.laid (t' := s4.toks) (o := .tup (picked xs lo hi (-1))) (fun b ob z => Heap.get?_push_of_some _ z) (Nat.le_refl _) ?_, rfl, q _ (I5.hok.fresh (Nat.le_refl _))⟩
  exact ⟨hz, _, rp, IsTup.new _ _⟩
theorem picked3 (x y z : V) : picked [x, y, z] (some 1) none (-1) = [y, x] := by rfl
/-- set(t) -/
def rSetT (K : PySem.W.Frag) (w : World) : List V → Hp → VK → Prop := fun xs H Q => ∃ (p : Addr) (ns : List Int), xs = [.ref p] ∧ SqT K H p (ns.map V.int) ∧ ns.length ≤ 1000 ∧
  ∀ a c, H a = none → c ≤ ns.length → Q (.ref a) (upd H a (SetO w a (fun j => decide (j ∈ ns)) c))
theorem cr_setT {X : Cx} (hc : X.calm = true) : CallR X (.type "set") (rSetT X.K X.w) := by
  rintro pins s σ H xs us Q I r ⟨p, ns, rfl, hq, hl, q⟩
  obtain ⟨u, rfl, ru⟩ := vals1 r
  have eu : u = .ref p := ru
  subst eu
  obtain ⟨its, rv, tup, _⟩ := I.tuple hq
  refine call_set_tupI ns (I.ok.hd hc) (show s.heap.IsTuple p its.toArray from tup) (ints_of_vals rv) (by unfold scanBound; omega) fun h' tk c R le old => ?_
  exact ⟨.ref _, _, I.laid (t' := tk) old (Nat.le_refl _) (setO_new R), rfl, q _ c (I.hok.fresh (Nat.le_refl _)) le⟩
end Tr

/-! ### A12. x in a tuple of data; the branches of two edges; a branch and a path -/
namespace Tr
open PySem PySem.Spec PyProof.Rows L2
def rInT (K : PySem.W.Frag) : R2 := fun x y H Q => ∃ d ds, Dp K H x d ∧ Dp K H y (.tuple ds) ∧ SeqAt.shaped d = true ∧ SeqAt.shaped (.tuple ds) = true ∧ Q (.bl (ds.any fun z => PyData.eqv z d)) H
theorem op_inT {X : Cx} (hu : X.A.units + 65 < cLine) : OpR X (compareOp .In) (rInT X.K) := by
  rintro pins s σ H x y v u Q I rx ry ⟨d, ds, hd, he, sd, se, q⟩
  obtain ⟨as, r1⟩ := Dp.reads I d x v hd rx
  obtain ⟨bs, r2⟩ := Dp.reads I (.tuple ds) y u he ry
  exact SeqAt.in_tuple_reads r2 r1 (SeqAt.canLay_of_shaped se) (SeqAt.canLay_of_shaped sd) (room_in_shaped sd hu) ⟨.bl _, H, I, rfl, q⟩
theorem room65 {k : Nat} {A : Around} (r : Room k A) : A.units + 65 < cLine := by
  have := r.un
  omega
theorem eqvA_ints : ∀ a b : List Int, PyData.eqvAll (a.map PyData.int) (b.map PyData.int) = decide (a = b)
  | [], [] => rfl
  | [], _ :: _ => rfl
  | _ :: _, [] => rfl
  | x :: a, y :: b => by
    show ((x == y) && PyData.eqvAll (a.map PyData.int) (b.map PyData.int)) = _
    rw [eqvA_ints a b]
    by_cases h : x = y <;> by_cases g : a = b <;> simp [h, g]
theorem eqvT_ints (a b : List Int) : PyData.eqv (.tuple (a.map PyData.int)) (.tuple (b.map PyData.int)) = decide (a = b) := eqvA_ints a b
theorem eqvL_ints (a b : List Int) : PyData.eqv (.list (a.map PyData.int)) (.list (b.map PyData.int)) = decide (a = b) := eqvA_ints a b
theorem layA_ints : ∀ l : List Int, PyData.canLayAll0 (l.map PyData.int) = true
  | [] => rfl
  | _ :: l => layA_ints l
theorem depA_ints : ∀ l : List Int, PyData.depthAll (l.map PyData.int) = 0
  | [] => rfl
  | x :: l => by
    show max 0 (PyData.depthAll (l.map PyData.int)) = 0
    rw [depA_ints l]
    rfl
theorem shT_ints (l : List Int) : SeqAt.shaped (.tuple (l.map PyData.int)) = true := by
  have e : decide ((PyData.tuple (l.map PyData.int)).depth ≤ 64) = true := decide_eq_true (by show PyData.depthAll (l.map PyData.int) + 1 ≤ 64; rw [depA_ints]; decide)
  show (PyData.canLayAll0 (l.map PyData.int) && decide ((PyData.tuple (l.map PyData.int)).depth ≤ 64)) = true
  rw [layA_ints, e]
  rfl
theorem shL_ints (l : List Int) : SeqAt.shaped (.list (l.map PyData.int)) = true := by
  have e : decide ((PyData.list (l.map PyData.int)).depth ≤ 64) = true := decide_eq_true (by show PyData.depthAll (l.map PyData.int) + 1 ≤ 64; rw [depA_ints]; decide)
  show (PyData.canLayAll0 (l.map PyData.int) && decide ((PyData.list (l.map PyData.int)).depth ≤ 64)) = true
  rw [layA_ints, e]
  rfl
theorem dpT {K : PySem.W.Frag} {H : Hp} {p : Addr} {l : List Int} (h : H p = some (.tup (l.map V.int))) : Dp K H (.ref p) (.tuple (l.map PyData.int)) := .tup (SqT.of h) (dps_ints l)
theorem dpL {K : PySem.W.Frag} {H : Hp} {p : Addr} {l : List Int} (h : H p = some (.lst (l.map V.int))) : Dp K H (.ref p) (.list (l.map PyData.int)) := .lst (SqL.of h) (dps_ints l)
theorem flat_ints (l : List Int) : (l.map V.int).all flatV = true := by
  rw [List.all_map, List.all_eq_true]
  intro x _
  rfl
theorem inV_ints (x : Int) (l : List Int) : inV (.int x) (l.map V.int) = decide (x ∈ l) := by
  unfold inV
  rw [List.any_map]
  by_cases h : x ∈ l
  · rw [decide_eq_true h, List.any_eq_true]
    exact ⟨x, h, by show eqV (.int x) (.int x) = true; simp [eqV]⟩
  · rw [decide_eq_false h, List.any_eq_false]
    intro y hy z
    have : y = x := by simpa [eqV, Function.comp] using z
    exact h (this ▸ hy)
/-- all numbers below n in order -/
theorem all_sorted {n : Nat} {a l : List Int} (p : l.Perm a) (so : l.Pairwise (· ≤ ·)) (nd : a.Nodup) (h : ∀ u, u ∈ a ↔ 0 ≤ u ∧ u < (n : Int)) : l = rI n :=
  strict_eq (strict_of so (p.nodup_iff.mpr nd)) (rI_strict n) fun u => p.mem_iff.trans ((h u).trans mem_rI.symm)
section
variable {n : Nat} {es : List Ed}
theorem Wood.either (W : Wood n es) {a b z : Int} (ad : Adj es a b) (hz : 0 ≤ z ∧ z < (n : Int)) : InC es a b z ∨ InC es b a z := by
  have ra := W.rng a b ad
  rcases conn_first (W.all a z ra.1 ra.2 hz.1 hz.2) with e | ⟨w, hw, hc⟩
  · exact .inl (e ▸ .refl _)
  · by_cases e : w = b
    · exact .inr (e ▸ hc)
    · exact .inl ((W.inC ad).mpr (.inr ⟨w, hw, e, hc⟩))
theorem Wood.notBoth (W : Wood n es) {a b z : Int} (ad : Adj es a b) (h : InC es a b z) (h' : InC es b a z) : False := by
  have h1 : Conn (cutE es a b) a z := h
  have h2 : Conn (cutE es b a) b z := h'
  rw [cut_symm] at h2
  exact W.br a b ad (h1.trans h2.symm)
theorem inC_end {a b z : Int} (h : InC es a b z) : Conn (cutE es a b) a z := h
/-- where an edge does not belong to a branch, the branch is joined without it -/
theorem aside {a b c d z : Int} (hc : ¬ InC es a b c) (h : InC es a b z) : Conn (cutE es c d) a z := by
  change Conn (cutE es a b) a z at h
  induction h with
  | refl => exact .refl _
  | @step x y hx hs ih =>
    obtain ⟨h1, h2⟩ := adj_cut.mp hs
    refine ih.step (adj_cut.mpr ⟨h1, ?_⟩)
    rintro (⟨e1, e2⟩ | ⟨e1, e2⟩)
    · exact hc (e1 ▸ hx)
    · exact hc (e2 ▸ (hx.step hs))
/-- two branches: one contains the other one, or they have no common vertex, or they have all vertices -/
theorem Wood.two (W : Wood n es) {a b c d : Int} (ab : Adj es a b) (cd : Adj es c d) :
    (∀ z, InC es a b z → InC es c d z) ∨ (∀ z, InC es c d z → InC es a b z) ∨ (∀ z, InC es a b z → InC es c d z → False) ∨ (∀ z, 0 ≤ z ∧ z < (n : Int) → InC es a b z ∨ InC es c d z) := by
  have rc := W.rng c d cd
  have ra := W.rng a b ab
  have rb := W.rng b a ab.symm
  -- sides of the first edge
  by_cases hc : InC es a b c
  · -- c on a's side: the other side of the first edge is joined without the second edge
    have nb : ¬ InC es b a c := fun h => W.notBoth ab hc h
    have side : ∀ z, InC es b a z → Conn (cutE es c d) b z := fun z hz => aside nb hz
    by_cases hb : InC es c d b
    · refine .inr (.inr (.inr fun z hz => ?_))
      rcases W.either ab hz with h | h
      · exact .inl h
      · exact .inr (Conn.trans hb (side z h))
    · -- b on d's side: so is all behind the first edge
      refine .inr (.inl fun z hz => ?_)
      have rz := W.range rc hz
      rcases W.either ab rz with h | h
      · exact h
      · exact absurd (Conn.trans hz (side z h).symm) hb
  · have side : ∀ z, InC es a b z → Conn (cutE es c d) a z := fun z hz => aside hc hz
    by_cases ha : InC es c d a
    · exact .inl fun z hz => Conn.trans ha (side z hz)
    · exact .inr (.inr (.inl fun z hz hz' => ha (Conn.trans hz' (side z hz).symm)))
/-- the second vertex of a path -/
theorem Wood.second (W : Wood n es) {s u w : Int} {l : List Int} (p : PathTo es s u l) (hw : Adj es u w) : ((l.drop 1).take 1 = [w]) ↔ InC es w u s := by
  cases p with
  | here =>
    constructor
    · intro h
      cases h
    · intro h
      exact absurd h (W.notIn hw)
  | @step _ c l h q =>
    obtain ⟨r, rfl⟩ := q.head
    show [c] = [w] ↔ _
    constructor
    · intro e
      have : c = w := by simpa using e
      exact this ▸ h.2
    · intro hin
      rw [W.nx_uniq h ⟨hw, hin⟩]
end
theorem cut12 {l : List Int} (h : 1 ≤ l.length) : cutV (l.map V.int) (some 1) (some 2) = ((l.drop 1).take 1).map V.int := by
  unfold cutV
  rw [List.length_map, show HT.sIx l.length 0 (some 1) = min 1 l.length from HT.sIx_nat l.length 0 1, show HT.sIx l.length l.length (some 2) = min 2 l.length from HT.sIx_nat l.length l.length 2, ← List.map_drop, ← List.map_take,
    show min 1 l.length = 1 by omega]
  by_cases e : l.length = 1
  · rw [e, List.drop_eq_nil_of_le (by omega)]
    rfl
  · rw [show min 2 l.length - 1 = 1 by omega]
theorem cut12_ok {n : Nat} (h : 1 ≤ n) : ¬ (HT.sIx n 0 (some 1) = 0 ∧ HT.sIx n n (some 2) = n) := by
  rw [show HT.sIx n 0 (some 1) = min 1 n from HT.sIx_nat n 0 1]
  omega
end Tr

/-! ### A13. sorted(t) of a tuple of numbers -/
namespace PySem.Tr13
open PySem PySem.Spec PyProof.Rows
section
variable {prog : Program} {w : World} {A : Around} {E : Value → Shared → Prop} {s : Shared}
theorem collect_tup {l : Addr} {vs : List Value} {Q : List Value → Shared → Prop} (ht : IsTup s.heap l vs.toArray) (hz : vs.length ≤ sizeLine)
    (h : Q vs { s with heap := (s.heap.push (seqObj "list" #[] 0)).update s.heap.objs.size (Obj.mapSeq (· ++ vs.toArray)) }) : wpAny (model prog w) A (collect (.ref l)) Q E s := by
  obtain ⟨ob, at_l, cl, k, dat⟩ := id ht
  unfold collect
  refine wpAny_bind (wpAny_runValue (codeAny_builtin entry_proto_collect' ?_))
  show wpAny _ _ (do again (.builtin "list.__iadd__" ⟨[← newList [], .ref l], []⟩)) _ _ s
  refine wpAny_bind (wpAny_newList (wpAny_pure ⟨Code.quiet_builtin _ (by decide +kernel), codeAny_builtin entry_list_iadd' ?_⟩))
  show wpAny _ _ (Builtin.List.listExtendWith (.ref s.heap.objs.size) (.ref l) (.ref s.heap.objs.size)) _ _ { s with heap := s.heap.push (seqObj "list" #[] 0) }
  unfold Builtin.List.listExtendWith
  have at_l' : (s.heap.push (seqObj "list" #[] 0)).get? l = some ob := Heap.get?_push_of_some _ at_l
  have new : (s.heap.push (seqObj "list" #[] 0)).get? s.heap.objs.size = some (seqObj "list" #[] 0) := Heap.get?_push_size _ rfl
  refine wpAny_bind (wpAny_typeOf (T := "tuple") ⟨ob, at_l', cl⟩ ?_)
  have isT : (Value.type "tuple" == Value.type "tuple") = true := by rfl
  rw [if_pos (by rw [isT]; simp)]
  refine wpAny_bind (listItems_at at_l' dat (wpAny_bind (listItems_at (xs := #[]) (n := 0) new rfl ?_)))
  rw [if_neg (by simp)]
  refine wpAny_bind (listUpdate_at (xs := #[]) (n := 0) new rfl (wpAny_pure ?_) (Nat.zero_le _) (by show (#[] ++ vs.toArray).size ≤ sizeLine + 1; simp only [Array.size_append, List.size_toArray, List.length_nil]; omega))
  have back : ((#[] : Array Value) ++ vs.toArray).toList = vs := by simp
  show wpAny (model prog w) A (load s.heap.objs.size >>= fun o => match o.data with
      | .seq xs _ => pure xs.toList
      | _ => unsupported "internal:collect") Q E { s with heap := (s.heap.push (seqObj "list" #[] 0)).update s.heap.objs.size (Obj.mapSeq (· ++ vs.toArray)) }
  refine wpAny_bind (wpAny_load (get?_update_seq new _) ?_)
  show wpAny _ _ (pure ((#[] : Array Value) ++ vs.toArray).toList) Q E _
  rw [back]
  exact wpAny_pure h
theorem sorted_tupI {l : Addr} {vs : List Value} {ns : List Int} {Q : Value → Shared → Prop} (ht : IsTup s.heap l vs.toArray) (hI : IntsAre vs ns) (few : vs.length < 64)
    (h : ∀ (out : Array Value) (ns' : List Int), IntsAre out.toList ns' → ns'.Perm ns → ns'.Pairwise (· ≤ ·) → Q (.ref (s.heap.objs.size + 1)) { s with heap := sortedAll s.heap vs out }) :
    wpAny (model prog w) A (call (.builtin "sorted") [.ref l]) Q E s := by
  refine Calls.call_function_entry kind_sorted plain_sorted entry_sorted (args_sorted1 _) ?_
  unfold Builtin.«sorted»
  refine wpAny_bind (m := checkCount "sorted" 1 1 _) (wpAny_pure (wpAny_bind (collect_tup ht (by rw [sizeLine_eq]; omega) (wpAny_bind (wpAny_newList ?_)))))
  have size1 : ((s.heap.push (seqObj "list" #[] 0)).update s.heap.objs.size (Obj.mapSeq (· ++ vs.toArray))).objs.size = s.heap.objs.size + 1 := (Heap.size_update ..).trans (size_push' ..)
  have stands : (((s.heap.push (seqObj "list" #[] 0)).update s.heap.objs.size (Obj.mapSeq (· ++ vs.toArray))).push (seqObj "list" vs.toArray 0)).get? (s.heap.objs.size + 1) = some (seqObj "list" vs.toArray 0) := size1 ▸ Heap.get?_push_size _ rfl
  show wpAny _ _ _ _ _ { s with heap := ((s.heap.push (seqObj "list" #[] 0)).update s.heap.objs.size (Obj.mapSeq (· ++ vs.toArray))).push (seqObj "list" vs.toArray 0) }
  rw [size1]
  exact wpAny_bind (wpAny_holding (wpAny_call_entry slot_list_sort ⟨_, stands, rfl⟩ entry_list_sort (list_sort_tree stands hI few fun out ns' a1 a2 a3 => ⟨_, rfl, wpAny_pure ⟨_, rfl, h out ns' a1 a2 a3⟩⟩) (args_list_sort _)))
end
end PySem.Tr13
namespace Tr
open PySem PySem.Spec PyProof.Rows L2
def rSortedTI (K : PySem.W.Frag) : List V → Hp → VK → Prop := fun vs H Q => ∃ (a : Addr) (ns : List Int), vs = [V.ref a] ∧ SqT K H a (ns.map V.int) ∧ ns.length < 64 ∧
  ∀ (ns' : List Int) (p : Addr), ns'.Perm ns → ns'.Pairwise (· ≤ ·) → H p = none → Q (.ref p) (upd H p (.lst (ns'.map V.int)))
theorem cr_sortedTI {X : Cx} : CallR X (.builtin "sorted") (rSortedTI X.K) := by
  rintro pins s σ H vs us Q I r ⟨a, ns, rfl, hq, few, q⟩
  obtain ⟨its, rv, tup, _⟩ := I.tuple hq
  rw [Vals.ref1 r]
  have are := rv.ints
  refine PySem.Tr13.sorted_tupI tup are (by rw [are.length]; exact few) fun out ns' h1 h2 h3 => ?_
  obtain ⟨ep, at'⟩ := sortedAll_at s.heap its out
  have fits : (ns'.map V.int).length ≤ sizeLine := by
    rw [List.length_map, h2.length_eq]
    exact small64 few
  refine ⟨.ref _, upd H (s.heap.objs.size + 1) (.lst (ns'.map V.int)), I.laid (t' := s.toks) (fun _ _ => sortedAll_old) (Nat.le_succ _) ?_, rfl, q ns' _ h2 h3 (I.hok.fresh (Nat.le_succ _))⟩
  exact ⟨fits, out.toList, ep, vals_of_ints h1, at'⟩
end Tr

/-! ### A14. {k: v for ..}, the keys tuples of numbers -/
namespace L2
open PySem PySem.Spec PyProof.Rows
/-- the new dict gets a key that is a tuple -/
theorem put_tupT {X : Cx} {pins : List (Addr × Obj)} {σ : St} {H : Hp} {s : Shared} {E : Value → Shared → Prop} {D b : Addr} {kvs : List (List Key × V)} {k : List Key} {v : V} {r : Value} {Q : Unit → Shared → Prop}
    (hu : X.A.units < cLine) (I : Inv X pins σ H s) (at_D : H D = some (.dT kvs)) (at_b : H b = some (.tup (k.map kV))) (few : kvs.length < sizeLine) (rv : RelV v r)
    (done : ∀ s', Inv X pins σ (upd H D (.dT (putK kvs k v))) s' → Q () s') : wpAny (model X.prog X.w) X.A (dictSet D (.ref b) r) Q E s := by
  obtain ⟨z, notSys, xs, rel, dd⟩ := dt_of I.hok at_D
  have fits : (putK kvs k v).length ≤ sizeLine := by
    have := length_putK kvs k v
    omega
  refine wpAny_dictSet_heap (knd := tupleKind (mixKind X.prog X.w)) (hsz := Paired.length rel ▸ z) hu (key_of I.hok at_b) dd fun h' dd' but => done _ ?_
  obtain ⟨ob, es, ep, at', exact', dat, ents, _, nodup⟩ := dd'
  have rel' := (rel.put k at_b rv).keeps (H' := upd H D (.dT (putK kvs k v))) fun c ys ec => (upd_ne (ne_of ec at_D fun z => nomatch z)).trans ec
  exact d_write I (by rw [at_D]; exact True.intro) but ⟨ob, at'⟩ ⟨fits, notSys, _, rel', ob, es, ep, at', exact', dat, ents, nodup⟩
section
variable {X : Cx}
/-- what such a comprehension asks -/
def tDcT (wi : TI) (g : TG) (tt : TT) (tk tv : TE) (vs : List Nat) : TE := fun σ H Q => wi σ H fun J H1 => ∀ D, H1 D = none →
  ∃ W : Nat → Nat → Hp → Prop, (∃ m, W 0 m (upd H1 D (.dT []))) ∧ ∀ i m H, W i m H → (J.stop i H ∧ Q (.ref D) H) ∨
    (J.go i H ∧ ∃ Nx : Hp → Prop, (∀ H', Nx H' → ∃ m', m' < m ∧ W (i + 1) m' H') ∧ ∀ x H', J.yld i H x H' → g x (wipe σ vs) H' fun σ2 H2 => wipe σ2 vs = wipe σ vs ∧
      tt σ2 H2 fun b H3 => if b = true then tk σ2 H3 fun y H4 => tv σ2 H4 fun z H5 => ∃ kvs k b, y = .ref b ∧ H5 b = some (.tup (k.map kV)) ∧ H5 D = some (.dT kvs) ∧ kvs.length < sizeLine ∧ Nx (upd H5 D (.dT (putK kvs k z))) else Nx H3)
theorem dcT_core {pins : List (Addr × Obj)} {s : Shared} {σ : St} {H : Hp} {Q : VK} {pos' : Pos} {use : Option (Value → Sem Unit)} {Qf : Value → Shared → Prop} {kx vx tg iter : Expr} {ifs : List Expr} {scope : Scope} {own : List (Str × Nat)} {pos : Pos} {wi : TI} {g : TG} {tt : TT} {tk tv : TE} (hu : X.A.units < cLine) (hc : X.calm = true) (hN : X.N.Nodup) (I : Inv X pins σ H s) (hi : PI X tg iter wi) (ok : BlkOk X.N X.env.scope scope own)
    (hg : ∀ (s : Shared) (H : Hp) (C : Addr) (cl : List (Str × Addr)) (fp : List Addr), PG (X.blk s H scope (compEnvC scope cl C X.env) fp) tg g)
    (ht : ∀ (s : Shared) (H : Hp) (C : Addr) (cl : List (Str × Addr)) (fp : List Addr), PTs (X.blk s H scope (compEnvC scope cl C X.env) fp) ifs tt)
    (pk : ∀ (s : Shared) (H : Hp) (C : Addr) (cl : List (Str × Addr)) (fp : List Addr), PE (X.blk s H scope (compEnvC scope cl C X.env) fp) kx tk)
    (pvv : ∀ (s : Shared) (H : Hp) (C : Addr) (cl : List (Str × Addr)) (fp : List Addr), PE (X.blk s H scope (compEnvC scope cl C X.env) fp) vx tv) (hs : ∀ x, foldedSetIterable iter X.env x = pure x) (h : tDcT wi g tt tk tv (own.map (·.2)) σ H Q)
    (fin : ∀ D C s' m H', Inv X pins σ H' s' → Q (.ref D) H' → s'.heap.Ns C m → FpOk X pins H' C → compPost (model X.prog X.w) X.A X.xe use Qf (.ref D) C (.ok .next) s') :
    wpAny (model X.prog X.w) X.A (comprehension (.DictComp kx vx [⟨tg, iter, ifs, 0⟩] scope pos) scope X.env pos' newDict false (eval iter X.env) use) Qf X.xe s := by
  have frees : ∀ y ∈ scope.names, y.2 = .free → ∃ c, X.env.cells.lookup y.1 = some c := fun y hy e => (ok.free y hy e).elim (fun k => I.ok.has _ (.inl k)) fun k => I.ok.has _ (.inr k)
  refine wpAny_comprehension_free (use := use) rfl hs (closure_ok frees) ok.kind (fun y hy e => by rw [ok.uniq y hy, e]) (thn (hi.run pins s σ H _ I h) fun xv s1 hx => thn hx fun itv s2 h2 => ?_)
  obtain ⟨it, fp, tn, J, H2, rfl, I2, T, st2, fpOk, q⟩ := h2
  refine wpAny_newObj_type (newEnv_comp ?_)
  have newD : H2 s2.heap.objs.size = none := I2.hok.fresh (Nat.le_refl _)
  obtain ⟨W, ⟨m0, w0⟩, turn⟩ := q _ newD
  generalize eD : s2.heap.objs.size = D at newD w0 turn ⊢
  generalize e3 : ({ s2 with heap := s2.heap.push { cls := .type "dict", data := .dict #[] } } : Shared) = s3
  have heap3 : s3.heap = s2.heap.push { cls := .type "dict", data := .dict #[] } := by rw [← e3]
  have I3 : Inv X pins σ (upd H2 D (.dT [])) s3 := by
    subst e3 eD
    exact I2.laid (t' := s2.toks) (fun b o e => Heap.get?_push_of_some _ e) (Nat.le_refl _) (dt_empty s2.heap I2.big)
  have fp3 : ∀ b ∈ fp, FpOk X pins (upd H2 D (.dT [])) b ∧ b < s3.heap.objs.size := by
    intro b hb
    obtain ⟨o, eo, _⟩ := T.obj _ _ st2 b hb
    have lt := Heap.lt_size eo
    refine ⟨⟨(upd_ne (eD ▸ Nat.ne_of_lt lt)).trans (fpOk b hb).1, (fpOk b hb).2⟩, ?_⟩
    rw [heap3, Heap.size_push]
    exact Nat.lt_succ_of_lt lt
  have st3 : tn 0 s3.heap := T.keep _ _ _ st2 fun b _ o e => heap3 ▸ Heap.get?_push_of_some _ e
  have I4 := block_start I3 ok hN fp3
  generalize eCl : cellsFrom (s3.heap.objs.size + 1) scope.names (cloFrom X.env.cells scope.names []) = cl at I4
  have g1 := hg s3 (upd H2 D (.dT [])) s3.heap.objs.size cl fp
  have t1 := ht s3 (upd H2 D (.dT [])) s3.heap.objs.size cl fp
  have k1 := pk s3 (upd H2 D (.dT [])) s3.heap.objs.size cl fp
  have v1 := pvv s3 (upd H2 D (.dT [])) s3.heap.objs.size cl fp
  have none3 : ∀ b ∈ fp, (upd H2 D (.dT [])) b = none := fun b hb => (fp3 b hb).1.1
  show codeAny _ _ (.compStart _ 0 (.ref it) (.ref D) (compEnvC scope cl s3.heap.objs.size X.env)) (compPost (model X.prog X.w) X.A X.xe use Qf (.ref D) s3.heap.objs.size) { s3 with heap := pushCells (s3.heap.push { cls := .type "dict", data := .dict #[] }) scope.names }
  generalize eEnv : compEnvC scope cl s3.heap.objs.size X.env = ce at I4 g1 t1 k1 v1 ⊢
  have locals : ce.locals = s3.heap.objs.size := by rw [← eEnv] <;> rfl
  generalize upd H2 D (.dT []) = H3 at I3 I4 g1 t1 k1 v1 w0 none3 fp3
  generalize e4 : ({ s3 with heap := pushCells (s3.heap.push { cls := .type "dict", data := .dict #[] }) scope.names } : Shared) = s4 at I4 ⊢
  have st4 : tn 0 s4.heap := T.keep _ _ _ st3 fun b _ o e => e4 ▸ pushCells_keeps _ _ _ _ (Heap.get?_push_of_some _ e)
  let B := X.blk s3 H3 scope ce fp
  have station : ∀ {σ' : St} {H' : Hp} {s' : Shared}, Inv B [] σ' H' s' → (∀ b ∈ fp, H' b = none) → ∀ b ∈ fp, FpOk B [] H' b := fun I' hn b hb =>
    ⟨hn b hb, (I'.ok.exf b hb).1, I'.ok.exfs b hb, .inl hb, fun x c e => (I'.ok.exf b hb).2 x c e, fun p hp => absurd (show p ∈ ([] : List (Addr × Obj)) ++ [] from hp) (by simp)⟩
  have loop : codeAny (model X.prog X.w) X.A (.compLoop (.DictComp kx vx [⟨tg, iter, ifs, 0⟩] scope pos) 0 (.ref it) (.ref D) ce) (compPost (model X.prog X.w) X.A X.xe use Qf (.ref D) s3.heap.objs.size) s4 := by
    refine compLoop_anyD (fun n s' => ∃ i H', Inv B [] (wipe σ (own.map (·.2))) H' s' ∧ tn i s'.heap ∧ (∀ b ∈ fp, H' b = none) ∧ W i n H') ?_ m0 ⟨0, H3, I4, st4, none3, w0⟩
    rintro n s5 ⟨i, H5, I5, st5, none5, w5⟩
    rcases turn i n H5 w5 with ⟨stop, wish⟩ | ⟨go, Nx, next, step⟩
    · refine thnF (T.done B rfl rfl rfl hc i [] s5 _ H5 (fun _ _ => False) I5 (station I5 none5) st5 stop) fun r s6 ⟨er, I6⟩ => ?_
      subst er
      have I7 : Inv X pins σ H5 s6 := I3.call' (ch := fp) I6.os I6.base I6.hok I6.bare fun b hb => ⟨(fp3 b hb).1.2.2.2.1, (fp3 b hb).1.2.1, (fp3 b hb).1.2.2.2.2.1, (fp3 b hb).1.2.2.2.2.2⟩
      have noC : H5 s3.heap.objs.size = none := locals ▸ (show H5 ce.locals = none from I6.free)
      obtain ⟨mm, nsm, _⟩ := I6.loc
      have nsm' : s6.heap.Ns s3.heap.objs.size mm := locals ▸ (show s6.heap.Ns ce.locals mm from nsm)
      exact fin D s3.heap.objs.size s6 mm H5 I7 wish nsm' (I3.fpOk (Nat.le_refl _) noC)
    · refine thnF (T.item B rfl rfl rfl hc i [] s5 _ H5 (fun _ _ => False) I5 (station I5 none5) st5 go) fun r s6 ⟨u, er, h6⟩ => ?_
      subst er
      refine thnF h6 fun _ s7 ⟨x, H7, I7, r7, y7, st7, none7⟩ => ?_
      have I7' := I7.pinned (station I7 none7) (T.obj _ _ st7)
      refine thnF (g1.run _ s7 _ H7 x u _ I7' r7 (step x H7 y7)) fun _ s8 ⟨σ8, H8, I8, wiped, q8⟩ => thnF (t1.run _ s8 σ8 H8 _ I8 q8) fun b s9 ⟨H9, I9, q9⟩ => ?_
      have turned : ∀ {s' : Shared} {H' : Hp}, Inv B ([] ++ pinsAt fp s7.heap) σ8 H' s' → Nx H' → ∃ m, m < n ∧ ∃ i H', Inv B [] (wipe σ (own.map (·.2))) H' s' ∧ tn i s'.heap ∧ (∀ b ∈ fp, H' b = none) ∧ W i m H' := by
        intro s' H' I' nx
        obtain ⟨m', lt, w'⟩ := next H' nx
        have pinned : ∀ b ∈ fp, ∀ o, s7.heap.get? b = some o → s'.heap.get? b = some o ∧ H' b = none := fun b hb o e =>
          have z := I'.pin (b, o) (List.mem_append_right _ (List.mem_append_right _ (mem_pinsAt hb e)))
          ⟨z.1, z.2.1⟩
        have len : (wipe σ (own.map (·.2))).length = σ8.length := by rw [← wiped, wipe_length]
        have weak := (I'.unpinned (pins := [])).weak len fun j v e => by
          rw [← wiped] at e
          exact (wipe_some e).1
        refine ⟨m', lt, i + 1, H', weak, T.keep _ _ _ st7 fun b hb o e => (pinned b hb o e).1, fun b hb => ?_, w'⟩
        obtain ⟨o, e, _⟩ := T.obj _ _ st7 b hb
        exact (pinned b hb o e).2
      cases b
      · simp only [Bool.false_eq_true, if_false] at q9 ⊢
        exact turned I9 q9
      · simp only [if_true] at q9 ⊢
        refine thnF (k1.run _ s9 σ8 H9 _ I9 q9) fun z s10 ⟨yk, H10, I10, r10, q10⟩ => thnF (v1.run _ s10 σ8 H10 _ I10 q10) fun z2 s11 ⟨yv, H11, I11, r11, kvs, k, bb, ek, atb, atD, few, nx⟩ => ?_
        subst ek
        have er : z = .ref bb := r10
        subst er
        exact put_tupT (X := B) hu I11 atD atb few r11 fun s12 I12 => turned I12 nx
  exact codeAny_compStart_dict loop (T.self X.A 0 _ _ _ st4 loop)
/-- as a value -/
theorem pe_dcT {kx vx tg iter : Expr} {ifs : List Expr} {scope : Scope} {own : List (Str × Nat)} {pos : Pos} {wi : TI} {g : TG} {tt : TT} {tk tv : TE} (hu : X.A.units < cLine) (hc : X.calm = true) (hN : X.N.Nodup) (hi : PI X tg iter wi) (ok : BlkOk X.N X.env.scope scope own)
    (hg : ∀ (s : Shared) (H : Hp) (C : Addr) (cl : List (Str × Addr)) (fp : List Addr), PG (X.blk s H scope (compEnvC scope cl C X.env) fp) tg g)
    (ht : ∀ (s : Shared) (H : Hp) (C : Addr) (cl : List (Str × Addr)) (fp : List Addr), PTs (X.blk s H scope (compEnvC scope cl C X.env) fp) ifs tt)
    (pk : ∀ (s : Shared) (H : Hp) (C : Addr) (cl : List (Str × Addr)) (fp : List Addr), PE (X.blk s H scope (compEnvC scope cl C X.env) fp) kx tk)
    (pvv : ∀ (s : Shared) (H : Hp) (C : Addr) (cl : List (Str × Addr)) (fp : List Addr), PE (X.blk s H scope (compEnvC scope cl C X.env) fp) vx tv) (hs : ∀ x, foldedSetIterable iter X.env x = pure x := by intro _; rfl) :
    PE X (.DictComp kx vx [⟨tg, iter, ifs, 0⟩] scope pos) (tDcT wi g tt tk tv (own.map (·.2))) := by
  refine ⟨fun pins s σ H Q I h => ?_⟩
  rw [arm_eval_DictComp]
  refine dcT_core hu hc hN I hi ok hg ht pk pvv hs h fun D C s' m H' J wish names free => ⟨m, names, fun h'' sb => ?_⟩
  exact ⟨.ref D, H', J.turned (t' := s'.toks) (fun b o hb e => (sb.2 b hb).trans e) free.1 free.2.1 free.2.2.2.1 free.2.2.2.2.1 free.2.2.2.2.2, rfl, wish⟩
/-- given to a local name on the same row -/
theorem ps_setDcT {i : Nat} {y : Str} {py : Pos} {kx vx tg iter : Expr} {ifs : List Expr} {scope : Scope} {own : List (Str × Nat)} {pos spos : Pos} {wi : TI} {g : TG} {tt : TT} {tk tv : TE} (hu : X.A.units < cLine) (hc : X.calm = true) (hN : X.N.Nodup) (at_i : X.N[i]? = some y) (isLocal : X.env.scope.names.lookup y = some .local)
    (swaps : swapsWith (.DictComp kx vx [⟨tg, iter, ifs, 0⟩] scope pos) (some (.Name y py)) spos.line X.env = pure true) (hi : PI X tg iter wi) (ok : BlkOk X.N X.env.scope scope own)
    (hg : ∀ (s : Shared) (H : Hp) (C : Addr) (cl : List (Str × Addr)) (fp : List Addr), PG (X.blk s H scope (compEnvC scope cl C X.env) fp) tg g)
    (ht : ∀ (s : Shared) (H : Hp) (C : Addr) (cl : List (Str × Addr)) (fp : List Addr), PTs (X.blk s H scope (compEnvC scope cl C X.env) fp) ifs tt)
    (pk : ∀ (s : Shared) (H : Hp) (C : Addr) (cl : List (Str × Addr)) (fp : List Addr), PE (X.blk s H scope (compEnvC scope cl C X.env) fp) kx tk)
    (pvv : ∀ (s : Shared) (H : Hp) (C : Addr) (cl : List (Str × Addr)) (fp : List Addr), PE (X.blk s H scope (compEnvC scope cl C X.env) fp) vx tv) (hs : ∀ x, foldedSetIterable iter X.env x = pure x := by intro _; rfl) :
    PS X (.Assign [.Name y py] (.DictComp kx vx [⟨tg, iter, ifs, 0⟩] scope pos) spos) (tAsg (tDcT wi g tt tk tv (own.map (·.2))) (gName i)) := by
  refine ⟨fun pins s σ H K I h => ?_⟩
  rw [exec_Assign_Name_used _ _ _ _ swaps]
  refine wpAny_bind (wpAny_standAt (wpAny_bind ?_))
  show wpAny _ X.A (do let _ ← comprehension (.DictComp kx vx [⟨tg, iter, ifs, 0⟩] scope pos) scope X.env (firstIterPos [⟨tg, iter, ifs, 0⟩] pos) newDict false (eval iter X.env) (some (assign (.Name y py) X.env))) _ _ s
  have want : tDcT wi g tt tk tv (own.map (·.2)) σ H (fun x H1 => gName i x σ H1 K.nx) := h
  refine wpAny_bind (thn (dcT_core (Qf := fun _ s' => SP X pins K .next s') hu hc hN I hi ok hg ht pk pvv hs want fun D C s' m H' J wish names free => ?_) fun _ s' got => wpAny_pure (wpAny_pure got))
  show wpAny _ _ (assign (.Name y py) X.env (.ref D)) _ _ _
  refine wpAny_assign_Name (store_ok2 (v := V.ref D) J hN at_i (.inl isLocal) rfl (fun s2 J2 ⟨a, sb, ha⟩ => ?_) (.inr isLocal))
  have notA : C ≠ a := ha.elim (fun z => by rw [z]; exact free.2.1) fun z e => free.2.2.2.2.1 y a z e.symm
  exact ⟨m, names.sameBut sb notA, fun h3 sb3 => ⟨_, H', J2.turned (t' := s2.toks) (fun b o hb e => (sb3.2 b hb).trans e) free.1 free.2.1 free.2.2.2.1 free.2.2.2.2.1 free.2.2.2.2.2, wish⟩⟩
theorem sw_dict {kx vx : Expr} {gs : List Comprehension} {scope : Scope} {pos py : Pos} {y : Str} {l : Nat} {env : Env} (isFn : env.scope.kind = .function) (isLocal : env.scope.names.lookup y = some .local) (row : (py.line == pos.line) = true)
    (apart : (scope.names.any fun (n, k) => n == y && (k == .local || k == .cell)) = false) : swapsWith (.DictComp kx vx gs scope pos) (some (.Name y py)) l env = pure true := by
  have k1 : env.kindOf y = some .local := isLocal
  have k2 : env.blockKind = .function := by unfold Env.blockKind; rw [isFn]; rfl
  unfold swapsWith
  simp only [k2, k1, apart, Expr.pos, row]
  rfl
/-- over a tuple that stands -/
theorem dcT_tup {K : PySem.W.Frag} {a : Addr} {xs : List V} {g : TG} {tt : TT} {tk tv : TE} {vs : List Nat} {σ : St} {H1 : Hp} {D : Addr} {Qd : Hp → Prop} (Pv : Nat → Hp → Prop) (first : Pv 0 (upd H1 D (.dT [])))
    (stands : ∀ i H, i ≤ xs.length → Pv i H → SqT K H a xs)
    (turn : ∀ i x H, xs[i]? = some x → Pv i H → g x (wipe σ vs) H fun σ2 H2 => wipe σ2 vs = wipe σ vs ∧ tt σ2 H2 fun b H3 => if b = true then tk σ2 H3 fun y H4 => tv σ2 H4 fun z H5 =>
      ∃ kvs k b, y = .ref b ∧ H5 b = some (.tup (k.map kV)) ∧ H5 D = some (.dT kvs) ∧ kvs.length < sizeLine ∧ Pv (i + 1) (upd H5 D (.dT (putK kvs k z))) else Pv (i + 1) H3) (last : ∀ H, Pv xs.length H → Qd H) :
    ∃ W : Nat → Nat → Hp → Prop, (∃ m, W 0 m (upd H1 D (.dT []))) ∧ ∀ i m H, W i m H → ((Itt K a).stop i H ∧ Qd H) ∨
      ((Itt K a).go i H ∧ ∃ Nx : Hp → Prop, (∀ H', Nx H' → ∃ m', m' < m ∧ W (i + 1) m' H') ∧ ∀ x H', (Itt K a).yld i H x H' → g x (wipe σ vs) H' fun σ2 H2 => wipe σ2 vs = wipe σ vs ∧
        tt σ2 H2 fun b H3 => if b = true then tk σ2 H3 fun y H4 => tv σ2 H4 fun z H5 => ∃ kvs k b, y = .ref b ∧ H5 b = some (.tup (k.map kV)) ∧ H5 D = some (.dT kvs) ∧ kvs.length < sizeLine ∧ Nx (upd H5 D (.dT (putK kvs k z))) else Nx H3) := by
  refine ⟨fun i m H => m = xs.length - i ∧ i ≤ xs.length ∧ Pv i H, ⟨xs.length, rfl, Nat.zero_le _, first⟩, ?_⟩
  rintro i m H ⟨em, hi, p⟩
  have sq := stands i H hi p
  by_cases lt : i < xs.length
  · refine .inr ⟨⟨xs, xs[i], sq, List.getElem?_eq_getElem lt⟩, Pv (i + 1), fun H' p' => ⟨xs.length - (i + 1), by omega, rfl, lt, p'⟩, ?_⟩
    rintro x H' ⟨rfl, ex⟩
    exact turn i x _ (ex xs sq) p
  · have e : i = xs.length := by omega
    subst e
    exact .inl ⟨⟨xs, sq, Nat.le_refl _⟩, last H p⟩
end
end L2

/-! ### A15. Delays of edges, lengths of paths, what edges part -/
namespace Tr
open PySem PySem.Spec PyProof.Rows L2
theorem isE_symm (x y : Int) (e : Ed) : isE x y e = isE y x e := by
  unfold isE
  exact decide_eq_decide.mpr ⟨Or.symm, Or.symm⟩
theorem isE_iff {x y : Int} {e : Ed} : isE x y e = true ↔ (e.1 = x ∧ e.2.1 = y) ∨ (e.1 = y ∧ e.2.1 = x) := by
  unfold isE
  exact decide_eq_true_iff
theorem adj_isE {es : List Ed} {x y : Int} : Adj es x y ↔ ∃ e ∈ es, isE x y e = true :=
  ⟨fun ⟨e, he, q⟩ => ⟨e, he, isE_iff.mpr q⟩, fun ⟨e, he, q⟩ => ⟨e, he, isE_iff.mp q⟩⟩
theorem isE_nb {x y : Int} {e : Ed} (h : isE x y e = true) : y ∈ nbE x e := by
  unfold nbE
  rcases isE_iff.mp h with ⟨a, b⟩ | ⟨a, b⟩
  · rw [if_pos a, b]
    simp
  · rw [if_pos b, a]
    simp
theorem nbrs_cons (e : Ed) (es : List Ed) (v : Int) : nbrs (e :: es) v = nbE v e ++ nbrs es v := by
  unfold nbrs
  rw [List.flatMap_cons]
theorem only_nd {x y : Int} : ∀ {es : List Ed}, (nbrs es x).Nodup → ∀ {e f : Ed}, e ∈ es → f ∈ es → isE x y e = true → isE x y f = true → e = f
  | [], _, _, _, he, _, _, _ => by cases he
  | g :: r, nd, e, f, he, hf, h1, h2 => by
    rw [nbrs_cons] at nd
    obtain ⟨_, ndr, dis⟩ := List.nodup_append.mp nd
    have far : ∀ {f : Ed}, f ∈ r → isE x y f = true → isE x y g = true → False := fun {f} hf hh hg =>
      dis y (isE_nb hg) y (mem_nbrs.mpr (adj_isE.mpr ⟨f, hf, hh⟩)) rfl
    rcases List.mem_cons.mp he with e1 | he <;> rcases List.mem_cons.mp hf with e2 | hf
    · rw [e1, e2]
    · exact (far hf h2 (e1 ▸ h1)).elim
    · exact (far he h1 (e2 ▸ h2)).elim
    · exact only_nd ndr he hf h1 h2
theorem nd_nd : ∀ {es : List Ed}, (∀ v, (nbrs es v).Nodup) → es.Nodup
  | [], _ => List.nodup_nil
  | g :: r, h => by
    refine List.nodup_cons.mpr ⟨fun hg => ?_, nd_nd fun v => ?_⟩
    · have nd := h g.1
      rw [nbrs_cons] at nd
      have hh : isE g.1 g.2.1 g = true := isE_iff.mpr (.inl ⟨rfl, rfl⟩)
      exact (List.nodup_append.mp nd).2.2 g.2.1 (isE_nb hh) g.2.1 (mem_nbrs.mpr (adj_isE.mpr ⟨g, hg, hh⟩)) rfl
    · have nd := h v
      rw [nbrs_cons] at nd
      exact (List.nodup_append.mp nd).2.1
/-- the delay of the edge between x and y -/
def dlE (es : List Ed) (x y : Int) : Int := ((es.find? (isE x y)).map (·.2.2)).getD 0
theorem dlE_symm (es : List Ed) (x y : Int) : dlE es x y = dlE es y x := by
  unfold dlE
  rw [show isE x y = isE y x from funext (isE_symm x y)]
section
variable {n : Nat} {es : List Ed}
theorem Wood.only (W : Wood n es) {x y : Int} {e f : Ed} (he : e ∈ es) (hf : f ∈ es) (h1 : isE x y e = true) (h2 : isE x y f = true) : e = f := only_nd (W.nd x) he hf h1 h2
theorem Wood.dl (W : Wood n es) {x y : Int} {e : Ed} (he : e ∈ es) (h : isE x y e = true) : dlE es x y = e.2.2 := by
  unfold dlE
  cases q : es.find? (isE x y) with
  | none => exact absurd h (by have := List.find?_eq_none.mp q e he; simpa using this)
  | some f =>
    have e1 := W.only (List.mem_of_find?_eq_some q) he (List.find?_some q) h
    rw [e1]
    rfl
end
/-- the length of a path -/
def distL (es : List Ed) : List Int → Int
  | x :: y :: l => dlE es x y + distL es (y :: l)
  | _ => 0
theorem distL_cons (es : List Ed) (x y : Int) (l : List Int) : distL es (x :: y :: l) = dlE es x y + distL es (y :: l) := rfl
theorem distL_app (es : List Ed) (t : Int) (b : List Int) : ∀ a : List Int, distL es (a ++ t :: b) = distL es (a ++ [t]) + distL es (t :: b)
  | [] => by show distL es (t :: b) = 0 + distL es (t :: b); omega
  | [x] => by
    show dlE es x t + distL es (t :: b) = dlE es x t + 0 + distL es (t :: b)
    omega
  | x :: y :: a => by
    show dlE es x y + distL es (y :: a ++ t :: b) = dlE es x y + distL es (y :: a ++ [t]) + distL es (t :: b)
    rw [distL_app es t b (y :: a)]
    omega
theorem distL_rev (es : List Ed) : ∀ l : List Int, distL es l.reverse = distL es l
  | [] => rfl
  | [_] => rfl
  | x :: y :: l => by
    have ih := distL_rev es (y :: l)
    have e1 : (x :: y :: l).reverse = l.reverse ++ y :: [x] := by simp
    have e2 : (y :: l).reverse = l.reverse ++ [y] := by simp
    have e3 : distL es (y :: [x]) = dlE es x y := by
      show dlE es y x + 0 = _
      rw [dlE_symm es y x]
      omega
    have e4 := distL_app es y [x] l.reverse
    rw [← e2, ih, e3] at e4
    rw [e1, e4, distL_cons es x y l]
    omega
section
open Classical
/-- 1 if the edge parts the two vertices -/
noncomputable def sep (es : List Ed) (e : Ed) (u s : Int) : Int := if InC es e.1 e.2.1 u ↔ InC es e.1 e.2.1 s then 0 else 1
noncomputable def dS (es : List Ed) (u s : Int) : Int := (es.map fun e => e.2.2 * sep es e u s).sum
theorem sep_symm (es : List Ed) (e : Ed) (u s : Int) : sep es e u s = sep es e s u := by
  unfold sep
  by_cases h : InC es e.1 e.2.1 u ↔ InC es e.1 e.2.1 s
  · rw [if_pos h, if_pos h.symm]
  · rw [if_neg h, if_neg (fun z => h z.symm)]
theorem sep_self (es : List Ed) (e : Ed) (u : Int) : sep es e u u = 0 := if_pos Iff.rfl
theorem dS_symm (es : List Ed) (u s : Int) : dS es u s = dS es s u := by
  unfold dS
  rw [show (fun e : Ed => e.2.2 * sep es e u s) = fun e => e.2.2 * sep es e s u from funext fun e => by rw [sep_symm]]
theorem sep_left {es : List Ed} {e : Ed} {u c : Int} (h : InC es e.1 e.2.1 u ↔ InC es e.1 e.2.1 c) (s : Int) : sep es e u s = sep es e c s := by
  unfold sep
  by_cases k : InC es e.1 e.2.1 c ↔ InC es e.1 e.2.1 s
  · rw [if_pos k, if_pos (h.trans k)]
  · rw [if_neg k, if_neg (fun z => k (h.symm.trans z))]
theorem sum_zero {f : Ed → Int} : ∀ {l : List Ed}, (∀ e ∈ l, f e = 0) → (l.map f).sum = 0
  | [], _ => rfl
  | e :: l, h => by
    rw [List.map_cons, List.sum_cons, h e List.mem_cons_self, sum_zero fun e he => h e (List.mem_cons_of_mem _ he)]
    rfl
theorem sum_le {f g : Ed → Int} : ∀ {l : List Ed}, (∀ e ∈ l, f e ≤ g e) → (l.map f).sum ≤ (l.map g).sum
  | [], _ => Int.le_refl _
  | e :: l, h => by
    have h1 := h e List.mem_cons_self
    have h2 := sum_le (l := l) fun e he => h e (List.mem_cons_of_mem _ he)
    rw [List.map_cons, List.sum_cons, List.map_cons, List.sum_cons]
    omega
theorem sum_lt {f g : Ed → Int} {e0 : Ed} : ∀ {l : List Ed}, (∀ e ∈ l, f e ≤ g e) → e0 ∈ l → f e0 < g e0 → (l.map f).sum < (l.map g).sum
  | [], _, m, _ => by cases m
  | e :: l, h, m, lt => by
    have h1 := h e List.mem_cons_self
    have h2 := sum_le (l := l) fun e he => h e (List.mem_cons_of_mem _ he)
    rw [List.map_cons, List.sum_cons, List.map_cons, List.sum_cons]
    rcases List.mem_cons.mp m with e1 | m
    · rw [e1] at lt
      omega
    · have := sum_lt (l := l) (fun e he => h e (List.mem_cons_of_mem _ he)) m lt
      omega
theorem sum_eq {f g : Ed → Int} {l : List Ed} (h : ∀ e ∈ l, f e = g e) : (l.map f).sum = (l.map g).sum := by
  rw [List.map_congr_left h]
theorem sum_add (f g : Ed → Int) : ∀ l : List Ed, (l.map f).sum + (l.map g).sum = (l.map fun e => f e + g e).sum
  | [] => rfl
  | e :: l => by
    have := sum_add f g l
    rw [List.map_cons, List.sum_cons, List.map_cons, List.sum_cons, List.map_cons, List.sum_cons]
    omega
theorem sum_one {g h : Ed → Int} {f : Ed} {w : Int} : ∀ {l : List Ed}, l.Nodup → f ∈ l → (∀ e ∈ l, e ≠ f → g e = h e) → g f = h f + w → (l.map g).sum = (l.map h).sum + w
  | [], _, m, _, _ => by cases m
  | e :: l, nd, m, q, qf => by
    have nd' := List.nodup_cons.mp nd
    rw [List.map_cons, List.sum_cons, List.map_cons, List.sum_cons]
    rcases List.mem_cons.mp m with e1 | m
    · subst e1
      rw [sum_eq (l := l) fun e he => q e (List.mem_cons_of_mem _ he) fun z => nd'.1 (z ▸ he), qf]
      omega
    · rw [sum_one nd'.2 m (fun e he => q e (List.mem_cons_of_mem _ he)) qf, q e List.mem_cons_self fun z => nd'.1 (z ▸ m)]
      omega
variable {n : Nat} {es : List Ed}
/-- neighbours are on the same side of each other edge -/
theorem Wood.near (W : Wood n es) {u c : Int} {e f : Ed} (he : e ∈ es) (hf : f ∈ es) (h : isE u c f = true) (hne : e ≠ f) : InC es e.1 e.2.1 u ↔ InC es e.1 e.2.1 c := by
  have ad : Adj (cutE es e.1 e.2.1) u c := adj_isE.mpr ⟨f, mem_cut.mpr ⟨hf, fun z => hne (W.only he hf (isE_iff.mpr (.inl ⟨rfl, rfl⟩)) (isE_iff.mpr z))⟩, h⟩
  exact ⟨fun q => Conn.step q ad, fun q => Conn.step q ad.symm⟩
/-- the path's length, edge by edge -/
theorem Wood.dist (W : Wood n es) {s u : Int} {l : List Int} (p : PathTo es s u l) : distL es l = dS es u s := by
  induction p with
  | here => exact (sum_zero fun e _ => by rw [sep_self, Int.mul_zero]).symm
  | @step u c l h q ih =>
    obtain ⟨r, rfl⟩ := q.head
    obtain ⟨f, hf, hh⟩ := adj_isE.mp h.1
    rw [distL_cons, ih, W.dl hf hh]
    unfold dS
    have parts : sep es f u s = 1 ∧ sep es f c s = 0 := by
      unfold sep
      rcases isE_iff.mp hh with ⟨a, b⟩ | ⟨a, b⟩ <;> rw [a, b]
      · have hu : InC es u c u := .refl _
        have hc : ¬ InC es u c c := W.notIn h.1.symm
        have hs : ¬ InC es u c s := fun z => W.notBoth h.1 z h.2
        rw [if_neg (fun z => hs (z.mp hu)), if_pos (iff_of_false hc hs)]
        exact ⟨rfl, rfl⟩
      · have hu : ¬ InC es c u u := W.notIn h.1
        have hc : InC es c u c := .refl _
        rw [if_neg (fun z => hu (z.mpr h.2)), if_pos (iff_of_true hc h.2)]
        exact ⟨rfl, rfl⟩
    rw [Int.add_comm]
    refine (sum_one (nd_nd W.nd) hf (fun e he hne => ?_) ?_).symm
    · rw [sep_left (W.near he hf hh hne) s]
    · show f.2.2 * sep es f u s = f.2.2 * sep es f c s + f.2.2
      rw [parts.1, parts.2, Int.mul_one, Int.mul_zero, Int.zero_add]
theorem sep_01 (e : Ed) (u s : Int) : 0 ≤ sep es e u s ∧ sep es e u s ≤ 1 := by
  unfold sep
  split <;> decide
theorem sep_tri (e : Ed) (u s t : Int) : sep es e u s ≤ sep es e u t + sep es e t s := by
  unfold sep
  by_cases a : InC es e.1 e.2.1 u <;> by_cases b : InC es e.1 e.2.1 s <;> by_cases c : InC es e.1 e.2.1 t <;> simp [a, b, c]
/-- delays are at least 1 -/
def Pos (es : List Ed) : Prop := ∀ e ∈ es, 1 ≤ e.2.2
theorem mul_mono {w a b : Int} (hw : 1 ≤ w) (h : a ≤ b) : w * a ≤ w * b := Int.mul_le_mul_of_nonneg_left h (by omega)
theorem dS_tri (hp : Pos es) (u s t : Int) : dS es u s ≤ dS es u t + dS es t s := by
  unfold dS
  rw [sum_add]
  refine sum_le fun e he => ?_
  rw [← Int.mul_add]
  exact mul_mono (hp e he) (sep_tri e u s t)
/-- a chain does not go along an edge to a vertex that it lacks -/
theorem Chain.avoid {P : List Int} (h : Chain es P) {x y : Int} (hy : y ∉ P) : ∀ p ∈ P, ∀ q ∈ P, Conn (cutE es x y) p q := by
  induction h with
  | one u =>
    intro p hp q hq
    have e1 : p = u := by simpa using hp
    have e2 : q = u := by simpa using hq
    rw [e1, e2]
    exact .refl _
  | @cons a b l ad _ ih =>
    have ih := ih fun z => hy (List.mem_cons_of_mem _ z)
    have ya : a ≠ y := fun z => hy (z ▸ List.mem_cons_self)
    have yb : b ≠ y := fun z => hy (z ▸ List.mem_cons_of_mem _ List.mem_cons_self)
    have first : Adj (cutE es x y) a b := adj_cut.mpr ⟨ad, fun z => z.elim (fun k => yb k.2) fun k => ya k.1⟩
    have toB : ∀ p ∈ a :: b :: l, Conn (cutE es x y) p b := fun p hp => by
      rcases List.mem_cons.mp hp with e | hp
      · exact e ▸ .one first
      · exact ih p hp b List.mem_cons_self
    exact fun p hp q hq => (toB p hp).trans (toB q hq).symm
/-- an edge between a path and a vertex that is not on it -/
theorem Wood.leave (W : Wood n es) {P : List Int} (h : Chain es P) {t : Int} {a : Int} {l : List Int} (p : PathTo es t a l) : a ∈ P → t ∉ P → ∃ x y, x ∈ P ∧ y ∉ P ∧ Adj es x y ∧ (∀ p ∈ P, InC es x y p) ∧ InC es y x t := by
  induction p with
  | here => exact fun h1 h2 => absurd h1 h2
  | @step u c l hx q ih =>
    intro hu ht
    by_cases hc : c ∈ P
    · exact ih hc ht
    · exact ⟨u, c, hu, hc, hx.1, fun p hp => h.avoid hc u hu p hp, hx.2⟩
/-- an edge's side, told from either end -/
theorem Wood.sides (W : Wood n es) {x y : Int} {e : Ed} (he : e ∈ es) (h : isE x y e = true) {p t : Int} (hp : InC es x y p) (ht : InC es y x t) : ¬ (InC es e.1 e.2.1 p ↔ InC es e.1 e.2.1 t) := by
  have ad : Adj es x y := adj_isE.mpr ⟨e, he, h⟩
  rcases isE_iff.mp h with ⟨a, b⟩ | ⟨a, b⟩ <;> rw [a, b]
  · exact fun z => W.notBoth ad (z.mp hp) ht
  · exact fun z => W.notBoth ad hp (z.mpr ht)
theorem Wood.oneSide (W : Wood n es) {x y : Int} {e : Ed} (he : e ∈ es) (h : isE x y e = true) {p t : Int} (hp : InC es x y p) (ht : InC es x y t) : InC es e.1 e.2.1 p ↔ InC es e.1 e.2.1 t := by
  have ad : Adj es x y := adj_isE.mpr ⟨e, he, h⟩
  rcases isE_iff.mp h with ⟨a, b⟩ | ⟨a, b⟩ <;> rw [a, b]
  · exact iff_of_true hp ht
  · exact iff_of_false (fun z => W.notBoth ad hp z) fun z => W.notBoth ad ht z
theorem path_mem {s u : Int} {l : List Int} (p : PathTo es s u l) : u ∈ l ∧ s ∈ l := by
  obtain ⟨r, e⟩ := p.head
  exact ⟨e ▸ List.mem_cons_self, List.mem_of_getLast? p.last⟩
/-- a vertex that is not on the path is a detour -/
theorem Wood.detour (W : Wood n es) (hp : Pos es) {s u t : Int} {l : List Int} (p : PathTo es s u l) (hu : 0 ≤ u ∧ u < (n : Int)) (ht : 0 ≤ t ∧ t < (n : Int)) (h : t ∉ l) : dS es u s < dS es u t + dS es t s := by
  obtain ⟨m, pm, _⟩ := W.path ht hu
  obtain ⟨x, y, _, _, ad, inP, inT⟩ := W.leave p.chain pm (path_mem p).1 h
  obtain ⟨e, he, hh⟩ := adj_isE.mp ad
  have a := W.oneSide he hh (inP u (path_mem p).1) (inP s (path_mem p).2)
  have b := W.sides he hh (inP u (path_mem p).1) inT
  have c := W.sides he hh (inP s (path_mem p).2) inT
  unfold dS
  rw [sum_add]
  refine sum_lt (e0 := e) (fun e he => ?_) he ?_
  · rw [← Int.mul_add]
    exact mul_mono (hp e he) (sep_tri e u s t)
  · have := hp e he
    unfold sep
    rw [if_pos a, if_neg b, if_neg (fun z => c z.symm), Int.mul_zero, Int.mul_one]
    omega
/-- a vertex on the path is none -/
theorem Wood.onPath (W : Wood n es) {s u t : Int} {l : List Int} (p : PathTo es s u l) (h : t ∈ l) : dS es u s = dS es u t + dS es t s := by
  induction p with
  | here =>
    have : t = s := by simpa using h
    rw [this]
    have z : dS es s s = 0 := sum_zero fun e _ => by rw [sep_self, Int.mul_zero]
    omega
  | @step u c l hx q ih =>
    rcases List.mem_cons.mp h with e | h
    · rw [e]
      have z : dS es u u = 0 := sum_zero fun e _ => by rw [sep_self, Int.mul_zero]
      omega
    · have ih := ih h
      obtain ⟨f, hf, hh⟩ := adj_isE.mp hx.1
      have ht : InC es c u t := W.path_in q u hx t h
      have step : ∀ z, InC es c u z → dS es u z = dS es c z + f.2.2 := fun z hz => by
        unfold dS
        refine sum_one (nd_nd W.nd) hf (fun e he hne => ?_) ?_
        · rw [sep_left (W.near he hf hh hne) z]
        · have a := W.sides hf hh (.refl u) hz
          have b := W.oneSide hf ((isE_symm c u f).trans hh) (.refl c) hz
          unfold sep
          rw [if_neg a, if_pos b, Int.mul_one, Int.mul_zero, Int.zero_add]
      rw [step s hx.2, step t ht, ih]
      omega
theorem Wood.dS_zero (W : Wood n es) (hp : Pos es) {s u : Int} (hu : 0 ≤ u ∧ u < (n : Int)) (hs : 0 ≤ s ∧ s < (n : Int)) : dS es u s = 0 ↔ u = s := by
  constructor
  · intro z
    refine Decidable.byContradiction fun hne => ?_
    have := W.detour hp (.here : PathTo es u u [u]) hu hs (by simpa using fun z => hne z.symm)
    rw [dS_symm es s u] at this
    have k : dS es u u = 0 := sum_zero fun e _ => by rw [sep_self, Int.mul_zero]
    omega
  · rintro rfl
    exact sum_zero fun e _ => by rw [sep_self, Int.mul_zero]
/-- the edge has a and b on one side, c and d on the other one -/
def Typ (es : List Ed) (e : Ed) (a b c d : Int) : Prop := (InC es e.1 e.2.1 a ↔ InC es e.1 e.2.1 b) ∧ (InC es e.1 e.2.1 c ↔ InC es e.1 e.2.1 d) ∧ ¬ (InC es e.1 e.2.1 a ↔ InC es e.1 e.2.1 c)
theorem Wood.noCross (W : Wood n es) {e f : Ed} (he : e ∈ es) (hf : f ∈ es) {a b c d : Int} (ra : 0 ≤ a ∧ a < (n : Int)) (rb : 0 ≤ b ∧ b < (n : Int)) (rc : 0 ≤ c ∧ c < (n : Int)) (rd : 0 ≤ d ∧ d < (n : Int))
    (h : Typ es e a b c d) (k : Typ es f a c b d) : False := by
  have ae : Adj es e.1 e.2.1 := ⟨e, he, .inl ⟨rfl, rfl⟩⟩
  have af : Adj es f.1 f.2.1 := ⟨f, hf, .inl ⟨rfl, rfl⟩⟩
  obtain ⟨h1, h2, h3⟩ := h
  obtain ⟨k1, k2, k3⟩ := k
  have two := W.two ae af
  generalize InC es e.1 e.2.1 = P at h1 h2 h3 two
  generalize InC es f.1 f.2.1 = Q at k1 k2 k3 two
  have two' : (∀ z ∈ [a, b, c, d], P z → Q z) ∨ (∀ z ∈ [a, b, c, d], Q z → P z) ∨ (∀ z ∈ [a, b, c, d], P z → Q z → False) ∨ (∀ z ∈ [a, b, c, d], P z ∨ Q z) := by
    refine two.imp (fun q z _ => q z) (Or.imp (fun q z _ => q z) (Or.imp (fun q z _ => q z) fun q z hz => q z ?_))
    simp only [List.mem_cons, List.not_mem_nil, or_false] at hz
    rcases hz with rfl | rfl | rfl | rfl <;> assumption
  simp only [List.mem_cons, List.not_mem_nil, or_false, forall_eq_or_imp, forall_eq] at two'
  by_cases pa : P a <;> by_cases qa : Q a <;> simp_all
theorem four_split (hp : Pos es) {a b c d : Int} (hY : ∀ e ∈ es, ¬ Typ es e a c b d) (hZ : ∀ e ∈ es, ¬ Typ es e a d b c) :
    dS es a c + dS es b d = dS es a d + dS es b c ∧ dS es a b + dS es c d ≤ dS es a c + dS es b d := by
  unfold dS
  simp only [sum_add]
  constructor
  · refine sum_eq fun e he => ?_
    have y := hY e he
    have z := hZ e he
    rw [← Int.mul_add, ← Int.mul_add]
    congr 1
    unfold Typ at y z
    unfold sep
    by_cases p1 : InC es e.1 e.2.1 a <;> by_cases p2 : InC es e.1 e.2.1 b <;> by_cases p3 : InC es e.1 e.2.1 c <;> by_cases p4 : InC es e.1 e.2.1 d <;> simp_all
  · refine sum_le fun e he => ?_
    have y := hY e he
    have z := hZ e he
    rw [← Int.mul_add, ← Int.mul_add]
    refine mul_mono (hp e he) ?_
    unfold Typ at y z
    unfold sep
    by_cases p1 : InC es e.1 e.2.1 a <;> by_cases p2 : InC es e.1 e.2.1 b <;> by_cases p3 : InC es e.1 e.2.1 c <;> by_cases p4 : InC es e.1 e.2.1 d <;> simp_all
theorem Typ.flip {e : Ed} {a b c d : Int} (h : Typ es e a b c d) : Typ es e a b d c :=
  ⟨h.1, h.2.1.symm, fun z => h.2.2 (z.trans h.2.1.symm)⟩
/-- of the three sums the two greatest are equal -/
theorem Wood.four (W : Wood n es) (hp : Pos es) {a b c d : Int} (ra : 0 ≤ a ∧ a < (n : Int)) (rb : 0 ≤ b ∧ b < (n : Int)) (rc : 0 ≤ c ∧ c < (n : Int)) (rd : 0 ≤ d ∧ d < (n : Int)) :
    (dS es a c + dS es b d = dS es a d + dS es b c ∧ dS es a b + dS es c d ≤ dS es a c + dS es b d) ∨ (dS es a b + dS es c d = dS es a d + dS es b c ∧ dS es a c + dS es b d ≤ dS es a b + dS es c d) ∨
    (dS es a b + dS es c d = dS es a c + dS es b d ∧ dS es a d + dS es b c ≤ dS es a b + dS es c d) := by
  by_cases X : ∃ e ∈ es, Typ es e a b c d
  · obtain ⟨e, he, h⟩ := X
    refine .inl (four_split hp (fun f hf k => W.noCross he hf ra rb rc rd h k) fun f hf k => W.noCross he hf ra rb rd rc h.flip k)
  · by_cases Y : ∃ e ∈ es, Typ es e a c b d
    · obtain ⟨e, he, h⟩ := Y
      have := four_split (a := a) (b := c) (c := b) (d := d) hp (fun f hf k => X ⟨f, hf, k⟩) fun f hf k => W.noCross he hf ra rc rd rb h.flip k
      rw [dS_symm es c b] at this
      exact .inr (.inl ⟨this.1, this.2⟩)
    · have := four_split (a := a) (b := d) (c := b) (d := c) hp (fun f hf k => X ⟨f, hf, k.flip⟩) fun f hf k => Y ⟨f, hf, k.flip⟩
      rw [dS_symm es d c, dS_symm es d b] at this
      exact .inr (.inr ⟨this.1, this.2⟩)
/-- where two paths have no common vertex, their sum is less -/
theorem Wood.apartPaths (W : Wood n es) (hp : Pos es) {a b c d : Int} {l m : List Int} (ra : 0 ≤ a ∧ a < (n : Int)) (rc : 0 ≤ c ∧ c < (n : Int)) (p : PathTo es b a l) (q : PathTo es d c m) (dis : ∀ x ∈ l, x ∉ m)
    (rb : 0 ≤ b ∧ b < (n : Int)) (rd : 0 ≤ d ∧ d < (n : Int)) : dS es a b + dS es c d < dS es a c + dS es b d ∧ dS es a c + dS es b d = dS es a d + dS es b c := by
  obtain ⟨k, pk, _⟩ := W.path rc ra
  obtain ⟨x, y, hx, hy, ad, inP, inC⟩ := W.leave p.chain pk (path_mem p).1 fun z => dis c z (path_mem q).1
  obtain ⟨e, he, hh⟩ := adj_isE.mp ad
  have inD : InC es y x d := by
    have := q.chain.avoid (x := y) (dis x hx) c (path_mem q).1 d (path_mem q).2
    exact Conn.trans inC this
  have t : Typ es e a b c d := by
    refine ⟨W.oneSide he hh (inP a (path_mem p).1) (inP b (path_mem p).2), ?_, W.sides he hh (inP a (path_mem p).1) inC⟩
    exact W.oneSide he ((isE_symm y x e).trans hh) inC inD
  have noY : ∀ f ∈ es, ¬ Typ es f a c b d := fun f hf k => W.noCross he hf ra rb rc rd t k
  have noZ : ∀ f ∈ es, ¬ Typ es f a d b c := fun f hf k => W.noCross he hf ra rb rd rc t.flip k
  refine ⟨?_, (four_split hp noY noZ).1⟩
  unfold dS
  simp only [sum_add]
  refine sum_lt (e0 := e) (fun f hf => ?_) he ?_
  · have y := noY f hf
    have z := noZ f hf
    rw [← Int.mul_add, ← Int.mul_add]
    refine mul_mono (hp f hf) ?_
    unfold Typ at y z
    unfold sep
    by_cases p1 : InC es f.1 f.2.1 a <;> by_cases p2 : InC es f.1 f.2.1 b <;> by_cases p3 : InC es f.1 f.2.1 c <;> by_cases p4 : InC es f.1 f.2.1 d <;> simp_all
  · have := hp e he
    obtain ⟨t1, t2, t3⟩ := t
    have t4 : ¬ (InC es e.1 e.2.1 b ↔ InC es e.1 e.2.1 d) := fun z => t3 (t1.trans (z.trans t2.symm))
    unfold sep
    rw [if_pos t1, if_pos t2, if_neg t3, if_neg t4]
    omega
end
end Tr

/-! ### A16. len(set(t)) of a tuple of different numbers; t[::-1] -/
namespace Tr
open PySem PySem.Spec PyProof.Rows L2 PySem.Tr11
/-- set(t), the numbers different -/
def rSetTN (K : PySem.W.Frag) (w : World) : List V → Hp → VK → Prop := fun xs H Q => ∃ (p : Addr) (ns : List Int), xs = [.ref p] ∧ SqT K H p (ns.map V.int) ∧ ns.length ≤ 1000 ∧ ns.Nodup ∧
  ∀ a, H a = none → Q (.ref a) (upd H a (SetO w a (fun j => decide (j ∈ ns)) ns.length))
theorem cr_setTN {X : Cx} (hc : X.calm = true) : CallR X (.type "set") (rSetTN X.K X.w) := by
  rintro pins s σ H xs us Q I r ⟨p, ns, rfl, hq, few, nd, q⟩
  obtain ⟨u, rfl, ru⟩ := vals1 r
  have eu : u = .ref p := ru
  subst eu
  obtain ⟨its, rv, tup, _⟩ := I.tuple hq
  refine call_set_tupI ns (I.ok.hd hc) (show s.heap.IsTuple p its.toArray from tup) (ints_of_vals rv) (by unfold scanBound; omega) fun h' tk c R le old => ?_
  have same : c = ns.length := by
    obtain ⟨o, es, ep, t, _, _, _, _, ndk, mem, _, _, size, _⟩ := R
    have sub := nodup_le nd fun x hx => (mem x).mp (decide_eq_true hx)
    have k : (es.toList.map keyOf).length = es.size := by rw [List.length_map]; exact Array.length_toList ..
    omega
  subst same
  exact ⟨.ref _, _, I.laid (t' := tk) old (Nat.le_refl _) (setO_new R), rfl, q _ (I.hok.fresh (Nat.le_refl _))⟩
/-- len of a set -/
def rLenO (w : World) : List V → Hp → VK → Prop := fun xs H Q => ∃ (p : Addr) (S : Int → Bool) (c : Nat), xs = [.ref p] ∧ H p = some (SetO w p S c) ∧ c ≤ 1000 ∧ Q (.int c) H
theorem cr_lenO {X : Cx} : CallR X (.builtin "len") (rLenO X.w) := by
  rintro pins s σ H xs us Q I r ⟨p, S, c, rfl, hp, few, q⟩
  obtain ⟨u, rfl, ru⟩ := vals1 r
  have eu : u = .ref p := ru
  subst eu
  have R : SetR X.w s.heap p S c := (I.hok p _ hp).1
  obtain ⟨o, es, ep, t, at_p, exact', data, _, _, _, _, fits, size, _⟩ := R
  exact call_len_set at_p exact' data fits (by omega) ⟨.int c, H, I.tok _, ⟨_, by rw [size]⟩, q⟩
/-- all of it, backwards -/
theorem picked_rev {α : Type} (xs : List α) : picked xs none none (-1) = xs.reverse := by
  have lo : (Builtin.Slice.sliceAdjust none none (-1) (xs.length : Int)).1 = (xs.length : Int) - 1 := rfl
  have hi : (Builtin.Slice.sliceAdjust none none (-1) (xs.length : Int)).2 = -1 := rfl
  have many : Builtin.Slice.slicePlaces ((xs.length : Int) - 1) (-1) (-1) = xs.length := by
    unfold Builtin.Slice.slicePlaces
    rw [if_neg (by decide)]
    by_cases c : (xs.length : Int) - 1 > -1
    · rw [if_pos c]
      show (((xs.length : Int) - 1 - -1 - 1) / 1 + 1).toNat = _
      rw [Int.ediv_one]
      omega
    · rw [if_neg c]
      show 0 = _
      omega
  unfold picked
  rw [lo, hi, many]
  have one : ∀ k ∈ List.range xs.length, xs[((xs.length : Int) - 1 + (k : Int) * -1).toNat]? = xs.reverse[k]? := fun k hk => by
    have lt := List.mem_range.mp hk
    rw [List.getElem?_reverse lt]
    congr 1
    omega
  refine List.ext_getElem? fun j => ?_
  have all : ∀ (m : Nat), m ≤ xs.length → (List.range m).filterMap (fun (k : Nat) => xs[((xs.length : Int) - 1 + (k : Int) * -1).toNat]?) = xs.reverse.take m := by
    intro m
    induction m with
    | zero => intro _; rfl
    | succ m ih =>
      intro hm
      have lt : m < xs.reverse.length := by rw [List.length_reverse]; omega
      rw [List.range_succ, List.filterMap_append, ih (by omega), List.take_add_one]
      congr 1
      rw [List.filterMap_cons, one m (List.mem_range.mpr (by omega)), List.getElem?_eq_getElem lt]
      rfl
  rw [all xs.length (Nat.le_refl _), List.take_of_length_le (by rw [List.length_reverse]; exact Nat.le_refl _)]
end Tr

namespace Tr
open PySem
def topS (i : Nat) : Stmt := PySem.Challenge.pw_tellrounds_k03_paths_and_distances.main.body.getD i (.Pass ⟨0, 0, 0, 0⟩)
end Tr

namespace Tr
open PySem PySem.Spec PyProof.Rows L2
abbrev s_law_next : Stmt := topS 8
theorem sc_law_next : FnScope ["_law_drawn", "_law_many", "_law_cells", "_law_turn", "_law_rests", "_law_spot", "_law_digit", "_law_mixed", "_law_again"] ["_law_drawn", "_law_many"] (defScope s_law_next) := ⟨rfl, rfl, rfl, by decide +kernel, rfl, by decide +kernel, by decide +kernel⟩
section
variable {P : Program} {w : World} {K : PySem.W.Frag} {mg : Str → Option Value} {base : Heap}
theorem ok_law_next (bt : Bt mg) {f : Addr} {fd : FuncData} (F : Fun K "_law_next" "_law_next" s_law_next f fd) : FnG P w K mg base CX0 1 f fd ["_law_drawn", "_law_many"] sp_law_next := by
  refine fnG F sc_law_next (fun vs H Q E h => ?_) (fun cdv A outer s H vs Q E hr gg h => ?_)
  · obtain ⟨d, c, r, N, m, rfl, _⟩ := h
    rfl
  obtain ⟨d, c, r, N, m, rfl, ⟨n, hn, D⟩, hN, hm0, hm1, q⟩ := h
  obtain ⟨cs, rs, hc, hrs, hl, hl0, hl1⟩ := D.hc
  refine ⟨_, (pss_cons (ps_asg (pv 0) (pg_unl rfl (pgs_cons (pg_name (i := 2) sc_law_next.nd rfl (.inl rfl)) (pgs_cons (pg_name (i := 3) sc_law_next.nd rfl (.inl rfl)) (pgs_cons (pg_name (i := 4) sc_law_next.nd rfl (.inl rfl)) pgs_nil)))))
      (pss_cons (ps_set (i := 5) sc_law_next.nd rfl (.inl rfl) (pe_op (op_modN) (pv 3) (pe_callB (call_len_seq) (by rfl) bt.len bb_len (pa_cons (pv 2) pa_nil))))
      (pss_cons (ps_asg (pe_op (op_add) (pv 3) pe_int) (pg_sub (pv 0) pe_int set_list))
      (pss_cons (ps_if (pt_cmpR (op_gt) (pe_ix ix_list (pv 4) (pv 5) (fun _ _ => rfl)) pe_int (nomark _)) (pss_cons (ps_set (i := 6) sc_law_next.nd rfl (.inl rfl) (pe_op (op_modN) (pe_ix ix_list (pv 4) (pv 5) (fun _ _ => rfl)) (pv 1)))
      (pss_cons (ps_asg (pe_op (op_fdivN) (pe_ix ix_list (pv 4) (pv 5) (fun _ _ => rfl)) (pv 1)) (pg_sub (pv 4) (pv 5) set_list))
      (pss_one (ps_ret (pv 6))))) pss_nil)
      (pss_cons (ps_set (i := 7) sc_law_next.nd rfl (.inl rfl) (pe_op (op_modN) (pe_op (op_pow) (pe_op (op_add) (pe_op (op_add) (pe_op (op_modN) (pe_ix ix_list (pv 2) (pv 5) (fun _ _ => rfl)) pe_int) (pe_op (op_mul) pe_int (pv 3))) pe_int) pe_int) pe_int))
      (pss_cons (ps_set (i := 8) sc_law_next.nd rfl (.inl rfl) (pe_op (op_modN) (pe_op (op_pow) (pe_op (op_add) (pe_op (op_add) (pv 7) (pe_op (op_mul) (pe_op (op_mul) pe_int (pv 3)) (pv 3))) pe_int) pe_int) pe_int))
      (pss_one (ps_ret (pe_op (op_modN) (pe_op (op_modN) (pe_op (op_add) (pe_op (op_mul) (pv 8) pe_int) (pv 7)) pe_int) (pv 1)))))))))), ?_⟩
  have sqd : SqL K H d [.ref c, .int n, .ref r] := SqL.of D.hd
  have sqc : SqL K H c (cs.map V.int) := SqL.of hc
  refine ⟨_, rfl, d, _, rfl, sqd, rfl, _, _, rfl, _, _, rfl, _, _, rfl, rfl, ?_⟩
  -- spot = turn % len(cells)
  have hlc : (cs.map V.int).length = cs.length := List.length_map _
  refine ⟨_, rfl, _, rfl, c, _, rfl, .inl sqc, _, _, rfl, rfl, by rw [hlc]; omega, ?_⟩
  obtain ⟨k0, k1⟩ := fmod_bounds (a := (n : Int)) (b := (((cs.map V.int).length : Nat) : Int)) (by rw [hlc]; omega)
  have k2 : (n : Int).fmod (((cs.map V.int).length : Nat) : Int) < (cs.length : Int) := by rw [← hlc]; exact k1
  -- drawn[1] = turn + 1
  have D1 : Dr (upd H d (.lst [.ref c, .int ((n : Int) + 1), .ref r])) d c r (n + 1) :=
    ⟨upd_same, ⟨cs, rs, (upd_ne D.cd).trans hc, (upd_ne D.rd).trans hrs, hl, hl0, hl1⟩, D.cr⟩
  have K1 : Kp d r H (upd H d (.lst [.ref c, .int ((n : Int) + 1), .ref r])) := fun b o e n1 _ => (upd_ne n1).trans e
  refine ⟨_, rfl, _, _, rfl, rfl, _, rfl, d, _, _, 1, rfl, rfl, D.hd, rfl, ?_⟩
  show _
  have hr1 := (upd_ne (o := .lst [.ref c, .int ((n : Int) + 1), .ref r]) D.rd).trans hrs
  have hc1 := (upd_ne (o := .lst [.ref c, .int ((n : Int) + 1), .ref r]) D.cd).trans hc
  obtain ⟨jr, zr, ej, hjr, hgr, har⟩ := at_mod (l := rs) k0 (by omega)
  obtain ⟨jc, zc, _, hjc, hgc, hac⟩ := at_mod (l := cs) k0 k2
  refine ⟨_, rfl, _, rfl, r, _, _, _, rfl, rfl, SqL.of hr1, har, _, _, rfl, rfl, _, rfl, ?_⟩
  refine ite2 (fun e => ?_) (fun e => ?_)
  · -- a rest is left
    refine ⟨_, rfl, _, rfl, r, _, _, _, rfl, rfl, SqL.of hr1, har, _, rfl, _, _, rfl, rfl, by omega, ?_⟩
    refine ⟨_, rfl, _, rfl, r, _, _, _, rfl, rfl, SqL.of hr1, har, _, rfl, _, _, rfl, rfl, ⟨by omega, by omega⟩, ?_⟩
    have hx : ixN (rs.map V.int).length ((n : Int).fmod (((cs.map V.int).length : Nat) : Int)) = some jr := by
      rw [List.length_map, ej]
      unfold ixN
      rw [if_pos (by omega), if_pos (by omega)]
      simp
    refine ⟨_, rfl, _, rfl, r, _, _, jr, rfl, rfl, hr1, hx, ?_⟩
    obtain ⟨f0, f1⟩ := fmod_bounds (a := zr) hm0
    refine ⟨_, rfl, q _ _ f0 f1 ⟨n + 1, by omega, ?_⟩ ?_⟩
    · have em : (rs.map V.int).set jr (.int (zr.fdiv m)) = (rs.set jr (zr.fdiv m)).map V.int := by rw [List.map_set]
      rw [em]
      exact ⟨(upd_ne D1.rd.symm).trans D1.hd, ⟨cs, rs.set jr (zr.fdiv m), (upd_ne D1.cr).trans hc1, upd_same, by rw [List.length_set]; exact hl, hl0, hl1⟩, D1.cr⟩
    · exact fun b o e n1 n2 => (upd_ne n2).trans (K1 b o e n1 n2)
  · -- the mixed numbers
    have hnb : n < 2 ^ 24 := Nat.lt_of_le_of_lt hn hN
    have hn0 : (0 : Int) ≤ (n : Int) := Int.natCast_nonneg n
    have hn1 : (n : Int) < 16777216 := by omega
    obtain ⟨P0, P1⟩ := sq_bounds hn0 hn1
    refine ⟨_, rfl, _, rfl, c, _, _, _, rfl, rfl, SqL.of hc1, hac, _, _, rfl, rfl, nz_a, ?_⟩
    obtain ⟨a0, a1⟩ := fmod_bounds (a := zc) (b := 2147483629) (by decide)
    refine ⟨_, rfl, _, _, rfl, rfl, .inl ⟨by decide, by decide⟩, _, _, rfl, rfl, _, _, rfl, rfl, _, _, rfl, rfl, ⟨by decide, by decide, nat64 (by omega) (by omega)⟩, _, _, rfl, rfl, nz_b, ?_⟩
    have M0 : 0 ≤ ((zc.fmod 2147483629 + 39119 * (n : Int) + 9901) ^ Int.toNat 3).fmod 2147483587 := (fmod_bounds (by decide)).1
    have M1 : ((zc.fmod 2147483629 + 39119 * (n : Int) + 9901) ^ Int.toNat 3).fmod 2147483587 < 2147483587 := (fmod_bounds (by decide)).2
    refine ⟨_, rfl, _, rfl, _, _, rfl, rfl, .inl ⟨by decide, by decide⟩, _, rfl, _, _, rfl, rfl, .inl ⟨mul_lo hn0, mul_hi hn1⟩, _, _, rfl, rfl, _, _, rfl, rfl, _, _, rfl, rfl, ⟨by decide, by decide, nat64 (by omega) (by omega)⟩, _, _, rfl, rfl, nz_c, ?_⟩
    refine ⟨_, rfl, _, _, rfl, rfl, .inl (mid_mul (fmod_bounds (by decide))), _, rfl, _, _, rfl, rfl, _, _, rfl, rfl, nz_d, _, rfl, _, _, rfl, rfl, Int.ne_of_gt hm0, ?_⟩
    exact q _ _ (fmod_bounds hm0).1 (fmod_bounds hm0).2 ⟨n + 1, by omega, D1⟩ K1
end
end Tr

namespace Tr
open PySem PySem.Spec PyProof.Rows L2
abbrev s_law_draws : Stmt := topS 7
theorem sc_law_draws : FnScope ["_law_script", "_law_cells", "_law_cell"] ["_law_script"] (defScope s_law_draws) := ⟨rfl, rfl, rfl, by decide +kernel, rfl, by decide +kernel, by decide +kernel⟩
theorem int_of_bl (b : Bool) : (0 : Int) ≤ (if b then 1 else 0) ∧ (if b then 1 else 0 : Int) ≤ 1 := by cases b <;> decide
theorem cut63 (xs : List V) (h : xs.length ≤ 63) : cutV xs none (some 63) = xs := by
  unfold cutV
  rw [HT.sIx_none, show HT.sIx xs.length xs.length (some 63) = min 63 xs.length from HT.sIx_nat xs.length xs.length 63, List.drop_zero]
  exact List.take_of_length_le (by omega)
section
variable {P : Program} {w : World} {K : PySem.W.Frag} {mg : Str → Option Value} {base : Heap}
/-- from the cells on -/
theorem draws_end {cs : List Int} {c r p : Addr} {rs : List Int} {H1 : Hp} (h1 : H1 c = some (.lst (cs.map V.int))) (h2 : H1 r = some (.lst (rs.map V.int))) (h3 : c ≠ r) (h4 : rs.length = cs.length) (h5 : 0 < cs.length) (h6 : cs.length ≤ 63)
    (hp : H1 p = none) : Dn p c r 0 (upd H1 p (.lst [.ref c, .int 0, .ref r])) :=
  ⟨0, Nat.le_refl 0, ⟨upd_same, ⟨cs, rs, (upd_ne (ne_of_none h1 hp)).trans h1, (upd_ne (ne_of_none h2 hp)).trans h2, h4, h5, h6⟩, h3⟩⟩
theorem ok_law_draws (bt : Bt mg) {f : Addr} {fd : FuncData} (F : Fun K "_law_draws" "_law_draws" s_law_draws f fd) : FnG P w K mg base CX0 1 f fd ["_law_script"] (sp_law_draws K) := by
  refine fnG F sc_law_draws (fun vs H Q E h => ?_) (fun cdv A outer s H vs Q E hr gg h => ?_)
  · obtain ⟨a, ns, rfl, _⟩ := h
    rfl
  obtain ⟨a, ns, rfl, sq, h63, q⟩ := h
  refine ⟨_, (pss_cons (ps_set (i := 1) sc_law_draws.nd rfl (.inl rfl) (pe_op (op_cat) (pe_callTy (call_list_of) (by rfl) bt.list bb_list (pa_cons (pe_slice sl_list (pv 0) po_none (po_some pe_int)) pa_nil)) (pe_op (op_rep) (pe_lst (pa_cons pe_int pa_nil)) (pe_callTy (call_int1) (by rfl) bt.int bb_int (pa_cons (pe_cmpR (op_eq) (pe_callB (call_len_seq) (by rfl) bt.len bb_len (pa_cons (pv 0) pa_nil)) pe_int (nomark _)) pa_nil)))))
      (pss_one (ps_ret (pe_lst (pa_cons (pv 1) (pa_cons pe_int (pa_cons (pe_lc (own := [("_law_cell", 2)]) (tt := tYes) rfl sc_law_draws.nd (pi_list (pv 1)) (blkOk_by (own := [("_law_cell", 2)]) (N := ["_law_script", "_law_cells", "_law_cell"]) (sc := defScope s_law_draws) (by decide +kernel)) (fun _ _ _ _ _ => (pg_name (i := 2) sc_law_draws.nd rfl (.inl rfl))) (fun _ _ _ _ _ => pts_nil) (fun _ _ _ _ _ => (pe_op (op_mul) (pv 2) (pe_callTy (call_int1) (by rfl) bt.int bb_int (pa_cons (pe_cmpR (op_ge) (pv 2) (pe_op (op_pow) pe_int pe_int) (nomark _)) pa_nil))))) pa_nil))))))), ?_⟩
  refine ⟨.ref a, rfl, 63, rfl, a, ns.map V.int, rfl, sq, fun p1 n1 => ?_⟩
  have s1 := same_new (o := .lst (cutV (ns.map V.int) none (some 63))) n1
  refine ⟨p1, _, rfl, .inl (SqL.of upd_same), fun p2 n2 => ?_⟩
  have s2 := s1.trans (same_new (o := .lst (cutV (ns.map V.int) none (some 63))) n2)
  have e2 : (upd (upd H p1 (.lst (cutV (ns.map V.int) none (some 63)))) p2 (.lst (cutV (ns.map V.int) none (some 63)))) p2 = _ := upd_same
  generalize (upd (upd H p1 (.lst (cutV (ns.map V.int) none (some 63)))) p2 (.lst (cutV (ns.map V.int) none (some 63)))) = H2 at s2 e2 ⊢
  refine ⟨(by show 1 ≤ sizeLine; decide), fun p3 n3 => ?_⟩
  have s3 := s2.trans (same_new (o := .lst [.int 0]) n3)
  refine ⟨_, rfl, a, _, rfl, .inl (s3.seq sq), rfl, .inr ⟨_, rfl, ?_⟩⟩
  obtain ⟨k0, k1⟩ := int_of_bl (decide (V.int (((ns.map V.int).length : Nat) : Int) = V.int 0))
  refine ⟨_, _, _, rfl, rfl, upd_same, by omega, by omega, ?_, fun p4 n4 => ?_⟩
  · have : ([V.int 0] : List V).length = 1 := rfl
    rw [this]
    exact Nat.le_trans (show 1 * Int.toNat _ ≤ 1 by omega) (by decide)
  have ek : (if decide (V.int (((ns.map V.int).length : Nat) : Int) = V.int 0) = true then 1 else 0 : Int) = if ns.length = 0 then 1 else 0 := by
    rw [List.length_map]
    by_cases z : ns.length = 0
    · rw [if_pos z, z]
      exact if_pos (decide_eq_true rfl)
    · rw [if_neg z]
      exact if_neg (fun y => z (by have := V.int.inj (of_decide_eq_true y); omega))
  rw [ek] at k0 k1 ⊢
  obtain ⟨cs, ec, c0, c1⟩ : ∃ cs : List Int, cutV (ns.map V.int) none (some 63) ++ (List.replicate (if ns.length = 0 then 1 else 0 : Int).toNat [V.int 0]).flatten = cs.map V.int ∧ 0 < cs.length ∧ cs.length ≤ 63 := by
    rw [cut63 _ (by rw [List.length_map]; exact h63)]
    by_cases z : ns.length = 0
    · have zn : ns = [] := List.eq_nil_of_length_eq_zero z
      subst zn
      exact ⟨[0], rfl, by decide, by decide⟩
    · rw [if_neg z]
      exact ⟨ns, by simp, by omega, h63⟩
  have e4 : (upd (upd H2 p3 (.lst [V.int 0])) p4 (.lst (List.replicate (if ns.length = 0 then 1 else 0 : Int).toNat [V.int 0]).flatten)) p2 = _ := (same_new n4) _ _ ((same_new n3) _ _ e2)
  have s4 := s3.trans (same_new (o := .lst (List.replicate (if ns.length = 0 then 1 else 0 : Int).toNat [V.int 0]).flatten) n4)
  refine ⟨p2, p4, _, _, rfl, rfl, e4, upd_same, ?_, fun p5 n5 => ?_⟩
  · have hle := congrArg List.length ec
    rw [List.length_append, List.length_map] at hle
    exact Nat.le_trans (by omega) (show 63 ≤ sizeLine by decide)
  rw [ec]
  have s5 := s4.trans (same_new (o := .lst (cs.map V.int)) n5)
  have e5 := @upd_same (upd (upd H2 p3 (.lst [V.int 0])) p4 (.lst (List.replicate (if ns.length = 0 then 1 else 0 : Int).toNat [V.int 0]).flatten)) p5 (.lst (cs.map V.int))
  generalize upd (upd (upd H2 p3 (.lst [V.int 0])) p4 (.lst (List.replicate (if ns.length = 0 then 1 else 0 : Int).toNat [V.int 0]).flatten)) p5 (.lst (cs.map V.int)) = H5 at s5 e5 ⊢
  -- the display
  refine ⟨_, rfl, _, rfl, p5, rfl, ⟨_, SqL.of e5⟩, fun D nD => ?_⟩
  have p5D : p5 ≠ D := ne_of_none e5 nD
  refine lc_list (K := K) (a := p5) (xs := cs.map V.int) (fun i H' => i ≤ cs.length ∧ Same H5 H' ∧ ∃ rs : List Int, rs.length = i ∧ H' D = some (.lst (rs.map V.int)))
    ⟨Nat.zero_le _, same_new nD, [], rfl, upd_same⟩ (fun i H' _ h => SqL.of (h.2.1 _ _ e5)) (fun i x H' hx h => ?_) (fun H' h => ?_)
  · obtain ⟨hi, sm, rs, hrs, hD⟩ := h
    rw [List.getElem?_map] at hx
    obtain ⟨z, hz, rfl⟩ := Option.map_eq_some_iff.mp hx
    have hlt : i < cs.length := (List.getElem?_eq_some_iff.mp hz).1
    refine ⟨rfl, ?_⟩
    refine ⟨_, rfl, _, rfl, _, _, rfl, rfl, ⟨by decide, by decide, by decide⟩, _, _, rfl, rfl, .inr ⟨_, rfl, ?_⟩⟩
    obtain ⟨b0, b1⟩ := int_of_bl (decide (((10 : Int) ^ (18 : Int).toNat) ≤ z))
    refine ⟨_, _, rfl, rfl, .inr ⟨by omega, by omega⟩, _, hD, ?_, ?_⟩
    · rw [List.length_map, hrs]
      exact Nat.lt_of_lt_of_le (show i < 63 by omega) (by decide)
    · exact ⟨hlt, fun b o e => (upd_ne (ne_of_none e nD)).trans (sm b o e), rs ++ [_], by rw [List.length_append, hrs]; rfl, by rw [List.map_append]; exact upd_same⟩
  · obtain ⟨_, sm, rs, hrs, hD⟩ := h
    rw [List.length_map] at hrs
    refine ⟨(by show 3 ≤ sizeLine; decide), fun p hp => q _ _ _ _ (draws_end (sm _ _ e5) hD p5D hrs c0 c1 hp) ?_⟩
    exact (s5.trans sm).trans (same_new hp)
end
end Tr

namespace Tr
open PySem PySem.Spec PyProof.Rows L2
abbrev s_law_size : Stmt := topS 12
theorem sc_law_size : FnScope ["_law_drawn", "_law_great", "_law_few"] ["_law_drawn", "_law_great"] (defScope s_law_size) := ⟨rfl, rfl, rfl, by decide +kernel, rfl, by decide +kernel, by decide +kernel⟩
abbrev s_law_delay : Stmt := topS 13
theorem sc_law_delay : FnScope ["_law_drawn", "_law_great"] ["_law_drawn", "_law_great"] (defScope s_law_delay) := ⟨rfl, rfl, rfl, by decide +kernel, rfl, by decide +kernel, by decide +kernel⟩
/-- _law_size, _law_delay -/
def sp_law_size : Sp := fun vs H Q _ => ∃ (d c r : Addr) (N : Nat) (g : Int), vs = [.ref d, .int g] ∧ Dn d c r N H ∧ N + 3 ≤ TT ∧ 0 ≤ g ∧ g + 1 < 2 ^ 30 ∧
  ∀ (H' : Hp) (k : Int), 0 ≤ k → k ≤ g → Dn d c r (N + 3) H' → Kp d r H H' → Q (.int k) H'
def sp_law_delay : Sp := fun vs H Q _ => ∃ (d c r : Addr) (N : Nat) (g : Int), vs = [.ref d, .int g] ∧ Dn d c r N H ∧ N + 3 ≤ TT ∧ 1 ≤ g ∧ g < 2 ^ 30 ∧
  ∀ (H' : Hp) (k : Int), 1 ≤ k → k ≤ g → Dn d c r (N + 3) H' → Kp d r H H' → Q (.int k) H'
/-- an item of a display of ints -/
theorem item_of {K : PySem.W.Frag} {H : Hp} {p : Addr} {l : List Int} {i : Int} (h : H p = some (.lst (l.map V.int))) (h0 : 0 ≤ i) (h1 : i < (l.length : Int)) :
    ∃ z, z ∈ l ∧ SqL K H p (l.map V.int) ∧ atI (l.map V.int) i = some (.int z) := by
  obtain ⟨j, z, _, _, e, q⟩ := at_mod h0 h1
  exact ⟨z, List.mem_of_getElem? e, SqL.of h, q⟩
section
variable {P : Program} {w : World} {K : PySem.W.Frag} {mg : Str → Option Value} {base : Heap}
theorem ok_law_size (bt : Bt mg) (c_law_next : Cal P w K mg base "_law_next" ["_law_drawn", "_law_many"] 1 sp_law_next) {f : Addr} {fd : FuncData} (F : Fun K "_law_size" "_law_size" s_law_size f fd) :
    FnG P w K mg base CX0 2 f fd ["_law_drawn", "_law_great"] sp_law_size := by
  obtain ⟨f_law_next, fd_law_next, G_law_next, m_law_next, k_law_next, b_law_next⟩ := c_law_next
  refine fnG F sc_law_size (fun vs H Q E h => ?_) (fun cdv A outer s H vs Q E hr gg h => ?_)
  · obtain ⟨d, c, r, N, m, rfl, _⟩ := h
    rfl
  obtain ⟨d, c, r, N, g, rfl, D, hN, g0, g1, q⟩ := h
  refine ⟨_, (pss_cons (ps_set (i := 2) sc_law_size.nd rfl (.inl rfl) (pe_callG G_law_next gg (hr.mono (by first | decide | omega)) (by rfl) m_law_next k_law_next b_law_next .nil pass0 (pa_cons (pv 0) (pa_cons (pe_op (op_add) (pe_callB (call_min2 rfl) (by rfl) bt.min bb_min (pa_cons (pv 1) (pa_cons pe_int pa_nil))) pe_int) pa_nil))))
      (pss_one (ps_ret (pe_ix ix_list (pe_lst (pa_cons (pv 2) (pa_cons (pe_op (op_sub) (pv 1) (pv 2)) (pa_cons (pe_callG G_law_next gg (hr.mono (by first | decide | omega)) (by rfl) m_law_next k_law_next b_law_next .nil pass0 (pa_cons (pv 0) (pa_cons (pe_op (op_add) (pv 1) pe_int) pa_nil))) pa_nil)))) (pe_callG G_law_next gg (hr.mono (by first | decide | omega)) (by rfl) m_law_next k_law_next b_law_next .nil pass0 (pa_cons (pv 0) (pa_cons pe_int pa_nil))) (fun _ _ => rfl))))), ?_⟩
  refine ⟨_, rfl, _, rfl, _, _, rfl, _, _, rfl, rfl, d, c, r, N, _, rfl, D, by omega, ?_, ?_, fun H1 k b0 b1 D1 K1 => ?_⟩
  · split <;> omega
  · split <;> omega
  have b2 : k ≤ g := by
    split at b1 <;> omega
  refine ⟨_, rfl, _, rfl, _, rfl, _, _, rfl, rfl, _, rfl, _, rfl, _, _, rfl, rfl, d, c, r, N + 1, _, rfl, D1, by omega, by omega, by omega, fun H2 k2 c0 c1 D2 K2 => ?_⟩
  refine ⟨(by show 3 ≤ sizeLine; decide), fun p hp => ?_⟩
  refine ⟨_, rfl, d, c, r, N + 2, _, rfl, D2.new hp, by omega, by decide, by decide, fun H3 k3 e0 e1 D3 K3 => ?_⟩
  have np := D2.new_ne hp
  have at_p : H3 p = some (.lst (([k, g - k, k2] : List Int).map V.int)) := K3 p _ upd_same np.1 np.2.1
  obtain ⟨z, hz, sz, az⟩ := item_of (K := K) at_p e0 (show k3 < 3 from e1)
  refine ⟨p, _, _, _, rfl, rfl, sz, az, ?_⟩
  have kk : Kp d r H H3 := ((K1.trans K2).trans (Kp.of (same_new hp))).trans K3
  have zb : 0 ≤ z ∧ z ≤ g := by
    rcases List.mem_cons.mp hz with e | hz
    · omega
    rcases List.mem_cons.mp hz with e | hz
    · omega
    rcases List.mem_cons.mp hz with e | hz
    · omega
    · cases hz
  exact q _ _ zb.1 zb.2 D3 kk
theorem ok_law_delay (bt : Bt mg) (c_law_size : Cal P w K mg base "_law_size" ["_law_drawn", "_law_great"] 2 sp_law_size) {f : Addr} {fd : FuncData} (F : Fun K "_law_delay" "_law_delay" s_law_delay f fd) :
    FnG P w K mg base CX0 3 f fd ["_law_drawn", "_law_great"] sp_law_delay := by
  obtain ⟨f_law_size, fd_law_size, G_law_size, m_law_size, k_law_size, b_law_size⟩ := c_law_size
  refine fnG F sc_law_delay (fun vs H Q E h => ?_) (fun cdv A outer s H vs Q E hr gg h => ?_)
  · obtain ⟨d, c, r, N, m, rfl, _⟩ := h
    rfl
  obtain ⟨d, c, r, N, g, rfl, D, hN, g0, g1, q⟩ := h
  refine ⟨_, (pss_one (ps_ret (pe_op (op_add) pe_int (pe_callG G_law_size gg (hr.mono (by first | decide | omega)) (by rfl) m_law_size k_law_size b_law_size .nil pass0 (pa_cons (pv 0) (pa_cons (pe_op (op_sub) (pv 1) pe_int) pa_nil)))))), ?_⟩
  refine ⟨_, rfl, _, rfl, _, _, rfl, rfl, d, c, r, N, _, rfl, D, by omega, by omega, by omega, fun H1 k b0 b1 D1 K1 => ?_⟩
  exact ⟨_, _, rfl, rfl, q _ _ (by omega) (by omega) D1 K1⟩
end
end Tr

namespace Tr
open PySem PySem.Spec PyProof.Rows L2
abbrev s_law_parents : Stmt := topS 14
theorem sc_law_parents : FnScope ["_law_drawn", "_law_count", "_law_way", "_law_found", "_law_k", "_law_near_here"] ["_law_drawn", "_law_count"] (defScope s_law_parents) := ⟨rfl, rfl, rfl, by decide +kernel, rfl, by decide +kernel, by decide +kernel⟩
/-- _law_parents: each number is at most its place -/
def sp_law_parents : Sp := fun vs H Q _ => ∃ (d c r : Addr) (N n : Nat), vs = [.ref d, .int n] ∧ Dn d c r N H ∧ N + (1 + 4 * n) ≤ TT ∧ 1 ≤ n ∧ n ≤ 1000 ∧
  ∀ (H' : Hp) (p : Addr) (l : List Int), l.length + 1 = n → (∀ (i : Nat) (z : Int), l[i]? = some z → 0 ≤ z ∧ z ≤ (i : Int)) → H p = none → H' p = some (.lst (l.map V.int)) → p ≠ d → p ≠ r → Dn d c r (N + (1 + 4 * n)) H' → Kp d r H H' → Q (.ref p) H'
theorem mem4 {a b c e z : Int} (h : z ∈ [a, b, c, e]) : z = a ∨ z = b ∨ z = c ∨ z = e := by simpa using h
theorem mem5 {a b c e f z : Int} (h : z ∈ [a, b, c, e, f]) : z = a ∨ z = b ∨ z = c ∨ z = e ∨ z = f := by simpa using h
theorem max0_b {x y : Int} (h : x ≤ y) (h2 : 0 ≤ y) : 0 ≤ (if x > 0 then x else 0 : Int) ∧ (if x > 0 then x else 0 : Int) ≤ y := by split <;> omega
theorem half_b {k : Int} (h : 1 ≤ k) : 0 ≤ k.fdiv 2 ∧ k.fdiv 2 ≤ k - 1 := by
  rw [Int.fdiv_eq_ediv_of_nonneg _ (by decide)]
  omega
section
variable {P : Program} {w : World} {K : PySem.W.Frag} {mg : Str → Option Value} {base : Heap}
theorem ok_law_parents (bt : Bt mg) (c_law_next : Cal P w K mg base "_law_next" ["_law_drawn", "_law_many"] 1 sp_law_next) {f : Addr} {fd : FuncData} (F : Fun K "_law_parents" "_law_parents" s_law_parents f fd) :
    FnG P w K mg base CX0 2 f fd ["_law_drawn", "_law_count"] sp_law_parents := by
  obtain ⟨f_law_next, fd_law_next, G_law_next, m_law_next, k_law_next, b_law_next⟩ := c_law_next
  refine fnG F sc_law_parents (fun vs H Q E h => ?_) (fun cdv A outer s H vs Q E hr gg h => ?_)
  · obtain ⟨d, c, r, N, m, rfl, _⟩ := h
    rfl
  obtain ⟨d, c, r, N, n, rfl, D, hN, n0, n1, q⟩ := h
  refine ⟨_, (pss_cons (ps_par (i := 2) (j := 3) (by rfl) sc_law_parents.nd rfl rfl (by decide) rfl rfl (pa_cons (pe_callG G_law_next gg (hr.mono (by first | decide | omega)) (by rfl) m_law_next k_law_next b_law_next .nil pass0 (pa_cons (pv 0) (pa_cons pe_int pa_nil))) (pa_cons (pe_lst pa_nil) pa_nil)) (by rfl))
      (pss_cons (ps_for PassesOwn.never rfl (pi_range2 (by rfl) bt.range (pa_cons pe_int (pa_cons (pv 1) pa_nil))) (pg_name (i := 4) sc_law_parents.nd rfl (.inl rfl))
        (pss_cons (ps_set (i := 5) sc_law_parents.nd rfl (.inl rfl) (pe_ix ix_list (pe_lst (pa_cons (pe_callG G_law_next gg (hr.mono (by first | decide | omega)) (by rfl) m_law_next k_law_next b_law_next .nil pass0 (pa_cons (pv 0) (pa_cons (pv 4) pa_nil))) (pa_cons (pe_op (op_sub) (pv 4) pe_int) (pa_cons pe_int (pa_cons (pe_callB (call_max2 rfl) (by rfl) bt.max bb_max (pa_cons pe_int (pa_cons (pe_op (op_sub) (pe_op (op_sub) (pv 4) pe_int) (pe_callG G_law_next gg (hr.mono (by first | decide | omega)) (by rfl) m_law_next k_law_next b_law_next .nil pass0 (pa_cons (pv 0) (pa_cons pe_int pa_nil)))) pa_nil))) (pa_cons (pe_op (op_fdivN) (pv 4) pe_int) pa_nil)))))) (pv 2) (fun _ _ => rfl)))
      (pss_one (ps_expr (pe_bm PySem.F.plainAttrs_list PySem.F.slot_list_append PySem.F.type_list_append mt_append (pv 3) (pa_cons (pe_ix ix_list (pe_lst (pa_cons (pv 5) (pa_cons (pv 5) (pa_cons (pv 5) (pa_cons (pe_callG G_law_next gg (hr.mono (by first | decide | omega)) (by rfl) m_law_next k_law_next b_law_next .nil pass0 (pa_cons (pv 0) (pa_cons (pv 4) pa_nil))) pa_nil))))) (pe_callG G_law_next gg (hr.mono (by first | decide | omega)) (by rfl) m_law_next k_law_next b_law_next .nil pass0 (pa_cons (pv 0) (pa_cons pe_int pa_nil))) (fun _ _ => rfl)) pa_nil))))))
      (pss_one (ps_ret (pv 3))))), ?_⟩
  refine ⟨_, rfl, d, c, r, N, _, rfl, D, by omega, by decide, by decide, fun H1 way w0 w1 D1 K1 => ?_⟩
  refine ⟨Nat.zero_le _, fun o no => ?_⟩
  have D2 := D1.new (o := .lst []) no
  have K2 : Kp d r H (upd H1 o (.lst [])) := K1.trans (Kp.of (same_new no))
  have ne := D1.new_ne no
  have noH : H o = none := by
    cases e : H o with
    | none => rfl
    | some u => exact absurd (K1 o u e ne.1 ne.2.1) (by rw [no]; exact fun z => nomatch z)
  refine ⟨_, _, rfl, _, rfl, 1, (n : Int), rfl, ⟨by omega, by omega, by omega, by omega⟩, ?_⟩
  refine for_range (lo := 1) (n := ((n : Int) - 1).toNat) (fun i σ H' => ∃ y4 y5, σ = [some (.ref d), some (.int n), some (.int way), some (.ref o), y4, y5] ∧ Dn d c r (N + 1 + 4 * i) H' ∧ Kp d r H H' ∧
      ∃ l : List Int, l.length = i ∧ (∀ (j : Nat) (z : Int), l[j]? = some z → 0 ≤ z ∧ z ≤ (j : Int)) ∧ H' o = some (.lst (l.map V.int)))
    ⟨none, none, rfl, D2, K2, [], rfl, fun j z h => by simp at h, upd_same⟩ (fun i σ H' hi h => ?_) (fun σ H' h => ?_)
  · obtain ⟨y4, y5, rfl, D3, K3, l, hl, hb, ho⟩ := h
    have hi' : i + 1 < n := by omega
    -- the display of five
    refine ⟨_, rfl, _, rfl, d, c, r, _, _, rfl, D3, by omega, by omega, by omega, fun H4 a a0 a1 D4 K4 => ?_⟩
    refine ⟨_, rfl, _, _, rfl, rfl, ?_⟩
    refine ⟨_, rfl, _, _, rfl, rfl, _, rfl, d, c, r, _, _, rfl, D4, by omega, by decide, by decide, fun H5 b b0 b1 D5 K5 => ?_⟩
    refine ⟨_, _, rfl, rfl, _, _, rfl, _, rfl, _, _, rfl, rfl, ⟨by decide, by decide⟩, (by show 5 ≤ sizeLine; decide), fun p hp => ?_⟩
    have ho5 := K5 o _ (K4 o _ ho ne.1 ne.2.1) ne.1 ne.2.1
    have ho6 := (same_new (o := .lst (([a, (1 + (i : Int)) - 1, 0, (if (1 + (i : Int)) - 1 - b > 0 then (1 + (i : Int)) - 1 - b else 0), (1 + (i : Int)).fdiv 2] : List Int).map V.int)) hp) _ _ ho5
    obtain ⟨z, hz, sz, az⟩ := item_of (K := K) (H := upd H5 p (.lst (([a, (1 + (i : Int)) - 1, 0, (if (1 + (i : Int)) - 1 - b > 0 then (1 + (i : Int)) - 1 - b else 0), (1 + (i : Int)).fdiv 2] : List Int).map V.int))) upd_same w0 (show way < 5 from w1)
    have zb : 0 ≤ z ∧ z ≤ (i : Int) := by
      obtain ⟨m0, m1⟩ := max0_b (x := (1 + (i : Int)) - 1 - b) (y := (i : Int)) (by omega) (by omega)
      obtain ⟨h0, h1⟩ := half_b (k := 1 + (i : Int)) (by omega)
      rcases mem5 hz with e | e | e | e | e
      · omega
      · omega
      · omega
      · rw [e]; exact ⟨m0, m1⟩
      · omega
    refine ⟨_, rfl, p, _, _, _, rfl, rfl, sz, az, ?_⟩
    have D6 := D5.new (o := .lst (([a, (1 + (i : Int)) - 1, 0, (if (1 + (i : Int)) - 1 - b > 0 then (1 + (i : Int)) - 1 - b else 0), (1 + (i : Int)).fdiv 2] : List Int).map V.int)) hp
    have K6 : Kp d r H _ := ((K3.trans K4).trans K5).trans (Kp.of (same_new (o := .lst (([a, (1 + (i : Int)) - 1, 0, (if (1 + (i : Int)) - 1 - b > 0 then (1 + (i : Int)) - 1 - b else 0), (1 + (i : Int)).fdiv 2] : List Int).map V.int)) hp))
    clear sz az D3 D4 K4 D5 K5 ho5 hp
    -- found.append(..)
    refine ⟨_, rfl, .inl ⟨rfl, _, SqL.of ho6⟩, _, rfl, _, rfl, _, rfl, _, rfl, _, rfl, d, c, r, _, _, rfl, D6, by omega, by omega, by omega, fun H7 e e0 e1 D7 K7 => ?_⟩
    refine ⟨(by show 4 ≤ sizeLine; decide), fun p2 hp2 => ?_⟩
    have D8 := D7.new (o := .lst (([z, z, z, e] : List Int).map V.int)) hp2
    have n8 := D7.new_ne hp2
    refine ⟨_, rfl, d, c, r, _, _, rfl, D8, by omega, by decide, by decide, fun H9 g g0 g1 D9 K9 => ?_⟩
    have at2 : H9 p2 = some (.lst (([z, z, z, e] : List Int).map V.int)) := K9 p2 _ upd_same n8.1 n8.2.1
    obtain ⟨y, hy, sy, ay⟩ := item_of (K := K) at2 g0 (show g < 4 from g1)
    have yb : 0 ≤ y ∧ y ≤ (i : Int) := by
      rcases mem4 hy with e | e | e | e <;> omega
    refine ⟨p2, _, _, _, rfl, rfl, sy, ay, ?_⟩
    have ho9 := K9 o _ (same_new (o := .lst (([z, z, z, e] : List Int).map V.int)) hp2 _ _ (K7 o _ ho6 ne.1 ne.2.1)) ne.1 ne.2.1
    refine ⟨o, _, _, rfl, rfl, ho9, ?_, ?_⟩
    · rw [List.length_map]
      exact small1000 (by omega)
    refine ⟨_, _, rfl, (D9.upd ne).mono (by omega), ?_, l ++ [y], by rw [List.length_append, hl]; rfl, ?_, by rw [List.map_append]; exact upd_same⟩
    · exact fun x u ex n1 n2 => (upd_ne (fun q => by rw [q, noH] at ex; cases ex)).trans ((K6.trans (K7.trans ((Kp.of (same_new hp2)).trans K9))) x u ex n1 n2)
    · intro j x hx
      rcases Nat.lt_or_ge j l.length with hj | hj
      · rw [List.getElem?_append_left hj] at hx
        exact hb j x hx
      · rw [List.getElem?_append_right hj] at hx
        have hj0 : j - l.length = 0 := by
          rcases Nat.eq_zero_or_pos (j - l.length) with q | q
          · exact q
          · rw [List.getElem?_eq_none (by simp; omega)] at hx
            cases hx
        rw [hj0] at hx
        have : y = x := Option.some.inj hx
        omega
  · obtain ⟨y4, y5, rfl, D3, K3, l, hl, hb, ho⟩ := h
    exact ⟨_, rfl, q _ _ l (by omega) hb noH ho ne.1 ne.2.1 (D3.mono (by omega)) K3⟩
end
end Tr

namespace Tr
open PySem PySem.Spec PyProof.Rows L2
abbrev s_law_shuffled : Stmt := topS 15
theorem sc_law_shuffled : FnScope ["_law_drawn", "_law_count", "_law_left", "_law_k"] ["_law_drawn", "_law_count"] (defScope s_law_shuffled) := ⟨rfl, rfl, rfl, by decide +kernel, rfl, by decide +kernel, by decide +kernel⟩
theorem rgV_rI (n : Nat) : rgV 0 (n : Int) = (rI n).map V.int := by
  unfold rgV rI
  rw [List.map_map, show ((n : Int) - 0).toNat = n by omega]
  refine List.map_congr_left fun i _ => ?_
  show V.int (0 + (i : Int)) = V.int (Int.ofNat i)
  rw [Int.zero_add] <;> rfl
/-- _law_shuffled: some order of all numbers below n -/
def sp_law_shuffled : Sp := fun vs H Q _ => ∃ (d c r : Addr) (N n : Nat), vs = [.ref d, .int n] ∧ Dn d c r N H ∧ N + n ≤ TT ∧ n ≤ 1000 ∧
  ∀ (H' : Hp) (p : Addr) (l : List Int), l.Perm (rI n) → H p = none → H' p = some (.lst (l.map V.int)) → p ≠ d → p ≠ r → Dn d c r (N + n) H' → Kp d r H H' → Q (.ref p) H'
theorem kp_free {d r : Addr} {H H1 : Hp} {o : Addr} (K1 : Kp d r H H1) (no : H1 o = none) (n1 : o ≠ d) (n2 : o ≠ r) : H o = none := by
  cases e : H o with
  | none => rfl
  | some u => exact absurd (K1 o u e n1 n2) (by rw [no]; exact fun z => nomatch z)
theorem kp_wr {d r : Addr} {H H1 : Hp} {o : Addr} {u : HO} (K1 : Kp d r H H1) (no : H o = none) : Kp d r H (upd H1 o u) := fun b x e n1 n2 => (upd_ne (ne_of_none e no)).trans (K1 b x e n1 n2)
theorem seq_ix {n j : Nat} (h : j < n) : seqIndex? (j : Int) n = some j := by
  have e : ixN n (j : Int) = some j := by
    unfold ixN
    rw [if_pos (by omega), if_pos (by omega)]
    simp
  exact (ixN_seq e).1
theorem map_erase {α β : Type} (f : α → β) : ∀ (l : List α) (j : Nat), (l.map f).eraseIdx j = (l.eraseIdx j).map f
  | [], _ => rfl
  | _ :: _, 0 => rfl
  | a :: l, j + 1 => by
    show f a :: (l.map f).eraseIdx j = f a :: (l.eraseIdx j).map f
    rw [map_erase f l j]
theorem perm_erase {a l : List Int} {z : Int} {j : Nat} {t : List Int} (h : (a ++ l).Perm t) (e : l[j]? = some z) : ((a ++ [z]) ++ l.eraseIdx j).Perm t := by
  obtain ⟨hj, ez⟩ := List.getElem?_eq_some_iff.mp e
  have p1 : (z :: l.eraseIdx j).Perm l := by
    rw [← ez]
    exact erase_perm l j _ (List.getElem?_eq_getElem hj)
  rw [List.append_assoc]
  exact ((List.Perm.append_left a p1)).trans h
section
variable {P : Program} {w : World} {K : PySem.W.Frag} {mg : Str → Option Value} {base : Heap}
theorem ok_law_shuffled (bt : Bt mg) (c_law_next : Cal P w K mg base "_law_next" ["_law_drawn", "_law_many"] 1 sp_law_next) {f : Addr} {fd : FuncData} (F : Fun K "_law_shuffled" "_law_shuffled" s_law_shuffled f fd) :
    FnG P w K mg base CX0 2 f fd ["_law_drawn", "_law_count"] sp_law_shuffled := by
  obtain ⟨f_law_next, fd_law_next, G_law_next, m_law_next, k_law_next, b_law_next⟩ := c_law_next
  refine fnG F sc_law_shuffled (fun vs H Q E h => ?_) (fun cdv A outer s H vs Q E hr gg h => ?_)
  · obtain ⟨d, c, r, N, m, rfl, _⟩ := h
    rfl
  obtain ⟨d, c, r, N, n, rfl, D, hN, n1, q⟩ := h
  refine ⟨_, (pss_cons (ps_set (i := 2) sc_law_shuffled.nd rfl (.inr rfl) (pe_listRg rfl (by rfl) bt.list (prg_1 (by rfl) bt.range (pv 1))))
      (pss_one (ps_ret (pe_lc (own := [("_law_k", 3)]) (tt := tYes) rfl sc_law_shuffled.nd (pi_range1 (by rfl) bt.range (pa_cons (pv 1) pa_nil)) (blkOk_by (own := [("_law_k", 3)]) (N := ["_law_drawn", "_law_count", "_law_left", "_law_k"]) (sc := defScope s_law_shuffled) (by decide +kernel)) (fun _ _ _ _ _ => (pg_name (i := 3) sc_law_shuffled.nd rfl (.inl rfl))) (fun _ _ _ _ _ => pts_nil) (fun _ _ _ _ _ => (pe_bm PySem.F.plainAttrs_list PySem.F.slot_list_pop PySem.F.type_list_pop mt_popAt (pv 2) (pa_cons (pe_callG G_law_next gg (hr.mono (by first | decide | omega)) (by rfl) m_law_next k_law_next b_law_next .nil pass0 (pa_cons (pv 0) (pa_cons (pe_callB ((q_len : CallR _ _ (qLen K))) (by rfl) bt.len bb_len (pa_cons (pv 2) pa_nil)) pa_nil))) pa_nil) : PE _ _ (tBM K "list" rPopAt _ _))))))), ?_⟩
  refine ⟨_, rfl, _, rfl, RgOk.of_le (by decide) (by omega) (by decide) (by omega), fun o no => ?_⟩
  rw [rgV_rI]
  have D1 := D.new (o := .lst ((rI n).map V.int)) no
  have ne := D.new_ne no
  have K1 : Kp d r H (upd H o (.lst ((rI n).map V.int))) := Kp.of (same_new no)
  have e1 : (upd H o (.lst ((rI n).map V.int))) o = _ := upd_same
  generalize upd H o (.lst ((rI n).map V.int)) = H1 at D1 K1 e1 ⊢
  refine ⟨_, rfl, _, rfl, by omega, by omega, fun Z nZ => ?_⟩
  have neZ := D1.new_ne nZ
  have oZ : o ≠ Z := ne_of_none e1 nZ
  have freeZ := kp_free K1 nZ neZ.1 neZ.2.1
  refine lc_range (lo := 0) (n := Int.toNat n) (fun i H' => Dn d c r (N + i) H' ∧ Kp d r H H' ∧ ∃ a l : List Int, a.length = i ∧ (a ++ l).Perm (rI n) ∧ H' Z = some (.lst (a.map V.int)) ∧ H' o = some (.lst (l.map V.int)))
    ⟨D1.new nZ, K1.trans (Kp.of (same_new nZ)), [], rI n, rfl, List.Perm.refl _, upd_same, (upd_ne oZ).trans e1⟩ (fun i H' hi h => ?_) (fun H' h => ?_)
  · obtain ⟨D2, K2, a, l, ha, pm, hZ, ho⟩ := h
    have hl : a.length + l.length = n := by
      have := pm.length_eq
      rw [List.length_append, rI_len] at this
      exact this
    have hi' : i < n := by omega
    refine ⟨rfl, ?_⟩
    refine ⟨_, rfl, .inl ⟨rfl, _, SqL.of ho⟩, _, rfl, _, rfl, o, _, rfl, .inl (SqL.of ho), d, c, r, _, _, rfl, D2, by omega, ?_, ?_, fun H3 k k0 k1 D3 K3 => ?_⟩
    · rw [List.length_map]; omega
    · rw [List.length_map]; omega
    rw [List.length_map] at k1
    obtain ⟨j, rfl⟩ := Int.eq_ofNat_of_zero_le k0
    have hj : j < l.length := by omega
    have ho3 := K3 o _ ho ne.1 ne.2.1
    have hZ3 := K3 Z _ hZ neZ.1 neZ.2.1
    refine ⟨o, _, _, j, .int l[j], rfl, rfl, ho3, by omega, by omega, ?_, get_int hj, ?_⟩
    · rw [List.length_map]
      exact seq_ix hj
    have em : (l.map V.int).eraseIdx j = (l.eraseIdx j).map V.int := map_erase V.int l j
    rw [em]
    refine ⟨a.map V.int, (upd_ne oZ.symm).trans hZ3, ?_, ?_⟩
    · rw [List.length_map]
      exact small1000 (by omega)
    refine ⟨((D3.upd ne).upd neZ).mono (by omega), kp_wr (kp_wr (K2.trans K3) (kp_free (Kp.refl d r H) no ne.1 ne.2.1)) freeZ, a ++ [l[j]], l.eraseIdx j, by rw [List.length_append, ha]; rfl, perm_erase pm (List.getElem?_eq_getElem hj), by rw [List.map_append]; exact upd_same, (upd_ne oZ).trans upd_same⟩
  · obtain ⟨D2, K2, a, l, ha, pm, hZ, ho⟩ := h
    have hl : a.length + l.length = n := by
      have := pm.length_eq
      rw [List.length_append, rI_len] at this
      exact this
    have l0 : l = [] := List.eq_nil_of_length_eq_zero (by omega)
    subst l0
    rw [List.append_nil] at pm
    exact q _ _ a pm freeZ hZ neZ.1 neZ.2.1 (D2.mono (by omega)) K2
end
end Tr

namespace Tr
open PySem PySem.Spec PyProof.Rows L2
abbrev s_law_made : Stmt := topS 16
theorem sc_law_made : FnScope ["_law_count", "_law_edges", "_law_one", "_law_other", "_law_delay_here"] ["_law_count", "_law_edges"] (defScope s_law_made) := ⟨rfl, rfl, rfl, by decide +kernel, rfl, by decide +kernel, by decide +kernel⟩
/-- _law_made -/
def sp_law_made : Sp := fun vs H Q _ => ∃ (n : Nat) (o : Addr) (as : List Addr) (xs : List Ed), vs = [.int n, .ref o] ∧ H o = some (.lst (as.map V.ref)) ∧ EdsAt H as xs ∧ xs.length < 64 ∧ (∀ x ∈ xs, EdIn x) ∧
  ∀ (H' : Hp) (t : Addr) (es : List Ed), es.Perm (xs.map nrm) → es.Pairwise edLe → TrAt H' t n es → Same H H' → Q (.ref t) H'
section
variable {P : Program} {w : World} {K : PySem.W.Frag} {mg : Str → Option Value} {base : Heap}
theorem ok_law_made (bt : Bt mg) {f : Addr} {fd : FuncData} (F : Fun K "_law_made" "_law_made" s_law_made f fd) : FnG P w K mg base CX0 1 f fd ["_law_count", "_law_edges"] sp_law_made := by
  refine fnG F sc_law_made (fun vs H Q E h => ?_) (fun cdv A outer s H vs Q E hr gg h => ?_)
  · obtain ⟨n, o, as, xs, rfl, _⟩ := h
    rfl
  obtain ⟨n, o, as, xs, rfl, ho, hx, h64, hin, q⟩ := h
  refine ⟨_, (pss_one (ps_ret (pe_tup (pa_cons (pv 0) (pa_cons (pe_callTy (call_tuple_of) (by rfl) bt.tuple bb_tuple (pa_cons (pe_callB (cr_sortT (d := 3) (B := BB) (by decide)) (by rfl) bt.sorted bb_sorted (pa_cons (pe_lc (own := [("_law_one", 2), ("_law_other", 3), ("_law_delay_here", 4)]) (tt := tYes) rfl sc_law_made.nd (pi_list (pv 1)) (blkOk_by (own := [("_law_one", 2), ("_law_other", 3), ("_law_delay_here", 4)]) (N := ["_law_count", "_law_edges", "_law_one", "_law_other", "_law_delay_here"]) (sc := defScope s_law_made) (by decide +kernel)) (fun _ _ _ _ _ => (pg_tup rfl (pgs_cons (pg_name (i := 2) sc_law_made.nd rfl (.inl rfl)) (pgs_cons (pg_name (i := 3) sc_law_made.nd rfl (.inl rfl)) (pgs_cons (pg_name (i := 4) sc_law_made.nd rfl (.inl rfl)) pgs_nil))) : PG _ _ (gTup K 3 _))) (fun _ _ _ _ _ => pts_nil) (fun _ _ _ _ _ => (pe_tup (pa_cons (pe_callB (call_min2 rfl) (by rfl) bt.min bb_min (pa_cons (pv 2) (pa_cons (pv 3) pa_nil))) (pa_cons (pe_callB (call_max2 rfl) (by rfl) bt.max bb_max (pa_cons (pv 2) (pa_cons (pv 3) pa_nil))) (pa_cons (pv 4) pa_nil)))))) pa_nil)) pa_nil)) pa_nil))))), ?_⟩
  refine ⟨_, rfl, _, rfl, o, rfl, ⟨_, SqL.of ho⟩, fun Z nZ => ?_⟩
  have hla := hx.length
  refine lc_list (K := K) (a := o) (xs := as.map V.ref) (fun i H' => i ≤ xs.length ∧ Same H H' ∧ ∃ bs : List Addr, H' Z = some (.lst (bs.map V.ref)) ∧ EdsAt H' bs ((xs.take i).map nrm))
    ⟨Nat.zero_le _, same_new nZ, [], upd_same, eds_nil⟩ (fun i H' _ h => SqL.of (h.2.1 _ _ ho)) (fun i x H' hx1 h => ?_) (fun H' h => ?_)
  · obtain ⟨hi, sm, bs, hZ, hb⟩ := h
    rw [List.getElem?_map] at hx1
    obtain ⟨a, ha, rfl⟩ := Option.map_eq_some_iff.mp hx1
    obtain ⟨e, he, hae⟩ := hx.get' ha
    have hlt : i < xs.length := (List.getElem?_eq_some_iff.mp he).1
    refine ⟨a, _, rfl, SqT.of (sm _ _ hae), rfl, _, _, rfl, _, _, rfl, _, _, rfl, rfl, rfl, ?_⟩
    refine ⟨_, rfl, _, rfl, _, _, rfl, _, rfl, _, rfl, _, _, rfl, _, rfl, (by show 3 ≤ sizeLine; decide), fun p hp => ?_⟩
    have hl := hb.length
    rw [List.length_map, List.length_take] at hl
    have Zp : Z ≠ p := ne_of_none hZ hp
    refine ⟨_, (upd_ne Zp).trans hZ, ?_, hlt, ?_, bs ++ [p], ?_, ?_⟩
    · rw [List.length_map]
      exact Nat.lt_of_lt_of_le (show bs.length < 64 by omega) (by decide)
    · exact fun b u eb => (upd_ne (ne_of_none eb nZ)).trans (((same_new hp) b u (sm b u eb)))
    · rw [List.map_append]
      exact upd_same
    · have es1 : (xs.take (i + 1)).map nrm = (xs.take i).map nrm ++ [nrm e] := by
        rw [List.take_add_one, he, List.map_append]
        rfl
      rw [es1]
      refine EdsAt.snoc (hb.keep fun b ys eb => ?_) ?_
      · exact (upd_ne (fun z => by rw [z, hZ] at eb; cases eb)).trans ((upd_ne (ne_of_none eb hp)).trans eb)
      · exact (upd_ne Zp.symm).trans upd_same
  · obtain ⟨_, sm, bs, hZ, hb⟩ := h
    rw [List.length_map, hla, List.take_length] at hb
    have hl := hb.length
    rw [List.length_map] at hl
    refine ⟨Z, bs.map V.ref, rfl, SqL.of hZ, by rw [List.length_map]; omega, fun x hx2 => ?_, fun ys p pm so hp => ?_⟩
    · obtain ⟨b, hb1, rfl⟩ := List.mem_map.mp hx2
      obtain ⟨e, he, hbe⟩ := hb.mem hb1
      obtain ⟨e0, he0, rfl⟩ := List.mem_map.mp he
      exact ⟨edV (nrm e0), ⟨b, rfl, SqT.of hbe⟩, rfl, bd_of (nrm_in (hin e0 he0))⟩
    obtain ⟨cs, rfl, pc⟩ := perm_pull V.ref pm bs rfl
    obtain ⟨fs, hf, pf⟩ := hb.perm pc
    have sorted_fs := eds_sorted hf so
    have s1 := same_new (o := .lst (cs.map V.ref)) hp
    refine ⟨p, _, rfl, .inl ⟨SqL.of upd_same, fun l hl1 => ?_⟩⟩
    refine ⟨(by show 2 ≤ sizeLine; decide), fun t ht => ?_⟩
    have s2 := same_new (o := .tup (cs.map V.ref)) hl1
    have s3 := same_new (o := .tup [.int n, .ref l]) ht
    refine q _ t fs pf sorted_fs ⟨l, cs, upd_same, s3 _ _ upd_same, hf.keep fun a xs e => s3 _ _ (s2 _ _ (s1 _ _ e))⟩ (((sm.trans s1).trans s2).trans s3)
end
end Tr

namespace Tr
open PySem PySem.Spec PyProof.Rows L2
abbrev s_law_tree : Stmt := topS 17
theorem sc_law_tree : FnScope ["_law_drawn", "_law_most", "_law_count", "_law_great", "_law_names", "_law_edges", "_law_k", "_law_near_here"] ["_law_drawn", "_law_most"] (defScope s_law_tree) := ⟨rfl, rfl, rfl, by decide +kernel, rfl, by decide +kernel, by decide +kernel⟩
/-- _law_tree -/
def sp_law_tree : Sp := fun vs H Q _ => ∃ (d c r : Addr) (N m : Nat), vs = [.ref d, .int m] ∧ Dn d c r N H ∧ N + (5 + 8 * m) ≤ TT ∧ 1 ≤ m ∧ m ≤ 60 ∧
  ∀ (H' : Hp) (t : Addr) (n : Nat) (es : List Ed), IsTree n es → n ≤ m → TrAt H' t n es → Dn d c r (N + (5 + 8 * m)) H' → Kp d r H H' → Q (.ref t) H'
section
variable {P : Program} {w : World} {K : PySem.W.Frag} {mg : Str → Option Value} {base : Heap}
theorem ok_law_tree (bt : Bt mg) (c_law_next : Cal P w K mg base "_law_next" ["_law_drawn", "_law_many"] 1 sp_law_next) (c_law_size : Cal P w K mg base "_law_size" ["_law_drawn", "_law_great"] 2 sp_law_size)
    (c_law_delay : Cal P w K mg base "_law_delay" ["_law_drawn", "_law_great"] 3 sp_law_delay) (c_law_parents : Cal P w K mg base "_law_parents" ["_law_drawn", "_law_count"] 2 sp_law_parents)
    (c_law_shuffled : Cal P w K mg base "_law_shuffled" ["_law_drawn", "_law_count"] 2 sp_law_shuffled) (c_law_made : Cal P w K mg base "_law_made" ["_law_count", "_law_edges"] 1 sp_law_made)
    {f : Addr} {fd : FuncData} (F : Fun K "_law_tree" "_law_tree" s_law_tree f fd) : FnG P w K mg base CX0 4 f fd ["_law_drawn", "_law_most"] sp_law_tree := by
  obtain ⟨f_law_next, fd_law_next, G_law_next, m_law_next, k_law_next, b_law_next⟩ := c_law_next
  obtain ⟨f_law_size, fd_law_size, G_law_size, m_law_size, k_law_size, b_law_size⟩ := c_law_size
  obtain ⟨f_law_delay, fd_law_delay, G_law_delay, m_law_delay, k_law_delay, b_law_delay⟩ := c_law_delay
  obtain ⟨f_law_parents, fd_law_parents, G_law_parents, m_law_parents, k_law_parents, b_law_parents⟩ := c_law_parents
  obtain ⟨f_law_shuffled, fd_law_shuffled, G_law_shuffled, m_law_shuffled, k_law_shuffled, b_law_shuffled⟩ := c_law_shuffled
  obtain ⟨f_law_made, fd_law_made, G_law_made, m_law_made, k_law_made, b_law_made⟩ := c_law_made
  refine fnG F sc_law_tree (fun vs H Q E h => ?_) (fun cdv A outer s H vs Q E hr gg h => ?_)
  · obtain ⟨d, c, r, N, m, rfl, _⟩ := h
    rfl
  obtain ⟨d, c, r, N, m, rfl, D, hN, m0, m1, q⟩ := h
  refine ⟨_, (pss_cons (ps_set (i := 2) sc_law_tree.nd rfl (.inl rfl) (pe_op (op_add) pe_int (pe_callG G_law_size gg (hr.mono (by first | decide | omega)) (by rfl) m_law_size k_law_size b_law_size .nil pass0 (pa_cons (pv 0) (pa_cons (pe_op (op_sub) (pv 1) pe_int) pa_nil)))))
      (pss_cons (ps_set (i := 3) sc_law_tree.nd rfl (.inl rfl) (pe_ix ix_list (pe_lst (pa_cons pe_int (pa_cons pe_int (pa_cons (pe_op (op_pow) pe_int pe_int) pa_nil)))) (pe_callG G_law_next gg (hr.mono (by first | decide | omega)) (by rfl) m_law_next k_law_next b_law_next .nil pass0 (pa_cons (pv 0) (pa_cons pe_int pa_nil))) (fun _ _ => rfl)))
      (pss_cons (ps_set (i := 4) sc_law_tree.nd rfl (.inl rfl) (pe_callG G_law_shuffled gg (hr.mono (by first | decide | omega)) (by rfl) m_law_shuffled k_law_shuffled b_law_shuffled .nil pass0 (pa_cons (pv 0) (pa_cons (pv 2) pa_nil))))
      (pss_cons (ps_set (i := 5) sc_law_tree.nd rfl (.inl rfl) (pe_lst pa_nil))
      (pss_cons (ps_for PassesOwn.never rfl (pi_enum (by rfl) bt.enumerate (pa_cons (pe_callG G_law_parents gg (hr.mono (by first | decide | omega)) (by rfl) m_law_parents k_law_parents b_law_parents .nil pass0 (pa_cons (pv 0) (pa_cons (pv 2) pa_nil))) pa_nil)) (pg_tup rfl (pgs_cons (pg_name (i := 6) sc_law_tree.nd rfl (.inl rfl)) (pgs_cons (pg_name (i := 7) sc_law_tree.nd rfl (.inl rfl)) pgs_nil)))
        (pss_one (ps_expr (pe_bm PySem.F.plainAttrs_list PySem.F.slot_list_append PySem.F.type_list_append mt_append (pv 5) (pa_cons (pe_tup (pa_cons (pe_ix ix_list (pv 4) (pe_op (op_add) (pv 6) pe_int) (fun _ _ => rfl)) (pa_cons (pe_ix ix_list (pv 4) (pv 7) (fun _ _ => rfl)) (pa_cons (pe_callG G_law_delay gg (hr.mono (by first | decide | omega)) (by rfl) m_law_delay k_law_delay b_law_delay .nil pass0 (pa_cons (pv 0) (pa_cons (pv 3) pa_nil))) pa_nil)))) pa_nil)))))
      (pss_one (ps_ret (pe_callG G_law_made gg (hr.mono (by first | decide | omega)) (by rfl) m_law_made k_law_made b_law_made .nil pass0 (pa_cons (pv 2) (pa_cons (pv 5) pa_nil)))))))))), ?_⟩
  -- count
  refine ⟨_, rfl, _, rfl, _, _, rfl, rfl, d, c, r, N, _, rfl, D, by omega, by omega, by omega, fun H1 k k0 k1 D1 K1 => ?_⟩
  obtain ⟨n, en⟩ : ∃ n : Nat, 1 + k = (n : Int) := ⟨(1 + k).toNat, by omega⟩
  refine ⟨_, _, rfl, rfl, ?_⟩
  have hv : V.int (1 + k) = V.int n := congrArg V.int en
  -- great
  refine ⟨_, _, rfl, rfl, ⟨by decide, by decide, by decide⟩, (by show 3 ≤ sizeLine; decide), fun p1 n1 => ?_⟩
  have D1' := D1.new (o := .lst [.int 1, .int 3, .int ((10 : Int) ^ (9 : Int).toNat)]) n1
  have ne1 := D1.new_ne n1
  refine ⟨_, rfl, d, c, r, _, _, rfl, D1', by omega, by decide, by decide, fun H2 gi g0 g1 D2 K2 => ?_⟩
  have at1 : H2 p1 = some (.lst (([1, 3, (10 : Int) ^ (9 : Int).toNat] : List Int).map V.int)) := K2 p1 _ upd_same ne1.1 ne1.2.1
  obtain ⟨G, hG, sG, aG⟩ := item_of (K := K) at1 g0 (show gi < 3 from g1)
  have Gb : 1 ≤ G ∧ G ≤ 1000000000 := by
    have e9 : (10 : Int) ^ (9 : Int).toNat = 1000000000 := by decide
    rw [e9] at hG
    have : G = 1 ∨ G = 3 ∨ G = 1000000000 := by simpa using hG
    omega
  refine ⟨p1, _, _, _, rfl, rfl, sG, aG, ?_⟩
  have K2' : Kp d r H H2 := (K1.trans (Kp.of (same_new n1))).trans K2
  clear sG aG at1 K1 K2 D1 D1'
  -- names
  refine ⟨_, rfl, _, rfl, d, c, r, _, n, congrArg (fun v => [V.ref d, v]) hv, D2, by omega, by omega, fun H3 pn l pm fn atn nd nr D3 K3 => ?_⟩
  refine ⟨Nat.zero_le _, fun o no => ?_⟩
  have D4 := D3.new (o := .lst []) no
  have neo := D3.new_ne no
  have K4 : Kp d r H (upd H3 o (.lst [])) := (K2'.trans K3).trans (Kp.of (same_new no))
  have pno : pn ≠ o := ne_of_none atn no
  have atn4 : (upd H3 o (.lst [])) pn = some (.lst (l.map V.int)) := (upd_ne pno).trans atn
  have ato4 : (upd H3 o (.lst [])) o = some (.lst []) := upd_same
  have freeo : H o = none := kp_free (K2'.trans K3) no neo.1 neo.2.1
  generalize upd H3 o (.lst []) = H4 at D4 K4 atn4 ato4 ⊢
  clear D3 no
  -- parents
  have hn1 : 1 ≤ n := by omega
  refine ⟨_, rfl, _, rfl, d, c, r, _, n, congrArg (fun v => [V.ref d, v]) hv, D4, by omega, hn1, by omega, fun H5 pp ps hps hpb fp atp pd pr D5 K5 => ?_⟩
  have atn5 := K5 pn _ atn4 nd nr
  have ato5 := K5 o _ ato4 neo.1 neo.2.1
  have ppo : pp ≠ o := fun z => by rw [z, ato4] at fp; cases fp
  have hll : l.length = n := by rw [pm.length_eq, rI_len]
  refine ⟨pp, _, rfl, SqL.of atp, ?_⟩
  refine for_it (walk_enum (K := K) (a := pp) (xs := ps.map V.int)) (fun i σ H' => ∃ y6 y7, σ = [some (.ref d), some (.int m), some (.int (1 + k)), some (.int G), some (.ref pn), some (.ref o), y6, y7] ∧ Dn d c r (N + 3 + 1 + n + (1 + 4 * n) + 3 * i) H' ∧ Kp d r H H' ∧
      H' pn = some (.lst (l.map V.int)) ∧ H' pp = some (.lst (ps.map V.int)) ∧ ∃ (as : List Addr) (xs : List Ed), H' o = some (.lst (as.map V.ref)) ∧ EdsAt H' as xs ∧ xs.length = i ∧ (∀ x ∈ xs, EdIn x) ∧ Grow (l.take (i + 1)) (xs.map nrm))
    ⟨none, none, rfl, D5.mono (by omega), K4.trans K5, atn5, atp, [], [], ato5, eds_nil, rfl, fun x h => (by cases h), ?_⟩ (fun i σ H' _ h => ?_) (fun i x σ H6 H7 hi h hy => ?_) (fun σ H6 h => ?_)
  · cases l with
    | nil => simp at hll; omega
    | cons a l => exact Grow.one a
  · obtain ⟨_, _, _, _, _, _, h5, _⟩ := h
    exact SqL.of h5
  · obtain ⟨y6, y7, rfl, D6, K6, atn6, atp6, as, xs, ato6, hx, hxl, hin, gr⟩ := h
    obtain ⟨T, a, b, rfl, fT, rfl, ea, eb⟩ := hy
    obtain rfl : V.int (i : Nat) = a := Option.some.inj ea
    have eb : (ps.map V.int)[i]? = some b := eb
    rw [List.getElem?_map] at eb
    obtain ⟨z, hz, rfl⟩ := Option.map_eq_some_iff.mp eb
    have zb := hpb i z hz
    have hi' : i + 1 < n := by
      have := (List.getElem?_eq_some_iff.mp hz).1
      omega
    have D7 := D6.new (o := .tup [.int (i : Nat), .int z]) fT
    have oT : o ≠ T := ne_of_none ato6 fT
    have pnT : pn ≠ T := ne_of_none atn6 fT
    have ppT : pp ≠ T := ne_of_none atp6 fT
    have K7 : Kp d r H (upd H6 T (.tup [.int (i : Nat), .int z])) := K6.trans (Kp.of (same_new fT))
    have atn7 : (upd H6 T (.tup [.int (i : Nat), .int z])) pn = some (.lst (l.map V.int)) := (upd_ne pnT).trans atn6
    have atp7 : (upd H6 T (.tup [.int (i : Nat), .int z])) pp = some (.lst (ps.map V.int)) := (upd_ne ppT).trans atp6
    have ato7 : (upd H6 T (.tup [.int (i : Nat), .int z])) o = some (.lst (as.map V.ref)) := (upd_ne oT).trans ato6
    have hx7 : EdsAt (upd H6 T (.tup [.int (i : Nat), .int z])) as xs := hx.keep fun a ys e => (upd_ne (ne_of_none e fT)).trans e
    have tT : (upd H6 T (.tup [.int (i : Nat), .int z])) T = some (.tup [.int (i : Nat), .int z]) := upd_same
    generalize upd H6 T (.tup [.int (i : Nat), .int z]) = H8 at D7 K7 atn7 atp7 ato7 hx7 tT ⊢
    refine ⟨T, _, rfl, SqT.of tT, rfl, _, _, rfl, _, _, rfl, rfl, ?_⟩
    have g1 : l[i + 1]? = some l[i + 1] := List.getElem?_eq_getElem (by omega)
    have hzl : z.toNat < l.length := by omega
    have ez : z = ((z.toNat : Nat) : Int) := by omega
    have az : atI (l.map V.int) z = some (.int l[z.toNat]) := at_of ez (get_int hzl)
    refine ⟨_, rfl, .inl ⟨rfl, _, SqL.of ato7⟩, _, rfl, _, rfl, _, _, rfl, rfl, pn, _, _, _, rfl, rfl, SqL.of atn7, at_of (j := i + 1) (by omega) (get_int (by omega)), ?_⟩
    refine ⟨_, rfl, _, rfl, pn, _, _, _, rfl, rfl, SqL.of atn7, az, ?_⟩
    refine ⟨_, rfl, _, rfl, d, c, r, _, _, rfl, D7, by omega, Gb.1, by omega, fun H9 dl d0 d1 D9 K9 => ?_⟩
    have atn9 := K9 pn _ atn7 nd nr
    have atp9 := K9 pp _ atp7 pd pr
    have ato9 := K9 o _ ato7 neo.1 neo.2.1
    have hx9 : EdsAt H9 as xs := hx7.keep fun a ys e => K9.tup D7 e
    refine ⟨(by show 3 ≤ sizeLine; decide), fun T2 fT2 => ?_⟩
    have s9 := same_new (o := .tup [.int l[i + 1], .int l[z.toNat], .int dl]) fT2
    have oT2 : o ≠ T2 := ne_of_none ato9 fT2
    have pno' : pn ≠ o := pno
    refine ⟨o, _, _, rfl, rfl, s9 _ _ ato9, ?_, ?_⟩
    · rw [List.length_map, hx.length]
      exact small1000 (by omega)
    have hmem : ∀ {j : Nat} (hj : j < l.length), 0 ≤ l[j] ∧ l[j] < (n : Int) := fun hj => mem_rI.mp (pm.mem_iff.mp (List.getElem_mem hj))
    have b1 := hmem (j := i + 1) (by omega)
    have b2 := hmem hzl
    refine ⟨_, _, rfl, ((D9.new fT2).upd neo).mono (by omega), kp_wr ((K7.trans K9).trans (Kp.of s9)) freeo, (upd_ne pno).trans (s9 _ _ atn9), (upd_ne ppo).trans (s9 _ _ atp9), as ++ [T2], xs ++ [(l[i + 1], l[z.toNat], dl)], ?_, ?_, ?_, ?_, ?_⟩
    · rw [List.map_append]
      exact upd_same
    · refine EdsAt.snoc (hx9.keep fun a ys e => ?_) ?_
      · exact (upd_ne (fun q => by rw [q, ato9] at e; cases e)).trans (s9 _ _ e)
      · exact (upd_ne oT2.symm).trans upd_same
    · rw [List.length_append, hxl]
      rfl
    · intro x hx
      rcases List.mem_append.mp hx with hx | hx
      · exact hin x hx
      · have ex : x = (l[i + 1], l[z.toNat], dl) := by simpa using hx
        rw [ex]
        unfold EdIn BB
        exact ⟨⟨b1.1, by show l[i + 1] < _; omega⟩, ⟨b2.1, by show l[z.toNat] < _; omega⟩, ⟨by show 0 ≤ dl; omega, by show dl < _; omega⟩⟩
    · rw [List.map_append, List.take_add_one (i := i + 1), g1]
      have hlt : z.toNat < i + 1 := by omega
      have nd : l.Nodup := pm.nodup_iff.mpr (rI_nodup n)
      refine Grow.leaf (l[i + 1]) (l[z.toNat]) dl gr ?_ ?_ d0 (by omega)
      · exact List.mem_take_iff_getElem.mpr ⟨z.toNat, by omega, rfl⟩
      · intro hm
        obtain ⟨j, hj, ej⟩ := List.mem_take_iff_getElem.mp hm
        have hj2 : l[j]? = some l[i + 1] := by
          rw [← ej]
          exact List.getElem?_eq_getElem (by omega)
        have := nd_ix nd hj2 g1
        omega
  · obtain ⟨y6, y7, rfl, D6, K6, atn6, atp6, as, xs, ato6, hx, hxl, hin, gr⟩ := h
    rw [List.length_map] at hxl
    refine ⟨_, rfl, _, rfl, n, o, as, xs, congrArg (fun v => [v, V.ref o]) hv, ato6, hx, by omega, hin, fun H8 t es pe so tr s8 => ?_⟩
    refine q H8 t n es ⟨hn1, ⟨l, _, ?_, pm, pe⟩, so⟩ (by omega) tr ((D6.same s8).mono ?_) (K6.trans (Kp.of s8))
    · rw [List.length_map, List.take_of_length_le (by omega)] at gr
      exact gr
    · rw [List.length_map]; omega
end
end Tr

namespace Tr
open PySem PySem.Spec PyProof.Rows L2
abbrev s_law_equal : Stmt := topS 9
theorem sc_law_equal : FnScope ["_law_one", "_law_other", "_law_a", "_law_b"] ["_law_one", "_law_other"] (defScope s_law_equal) := ⟨rfl, rfl, rfl, by decide +kernel, rfl, by decide +kernel, by decide +kernel⟩
/-- _law_equal: of two values with the same data it says True -/
def sp_law_equal (K : PySem.W.Frag) (n : Nat) : Sp := fun vs H Q _ => ∃ (x y : V) (d : PyData), vs = [x, y] ∧ Dp K H x d ∧ Dp K H y d ∧ okd n d = true ∧ ∀ H', Same H H' → Q (.bl true) H'
section
variable {P : Program} {w : World} {K : PySem.W.Frag} {mg : Str → Option Value} {base : Heap}
theorem ok_law_equal_step (bt : Bt mg) {n : Nat} {f : Addr} {fd : FuncData} (F : Fun K "_law_equal" "_law_equal" s_law_equal f fd) (m_law_equal : mg "_law_equal" = some (.ref f)) (b_law_equal : Binds K fd ["_law_one", "_law_other"] [])
    (G_law_equal : FnG P w K mg base CX0 n f fd ["_law_one", "_law_other"] (sp_law_equal K n)) : FnG P w K mg base CX0 (n + 1) f fd ["_law_one", "_law_other"] (sp_law_equal K (n + 1)) := by
  have k_law_equal := F.kp
  refine fnG F sc_law_equal (fun vs H Q E h => ?_) (fun cdv A outer s H vs Q E hr gg h => ?_)
  · obtain ⟨x, y, d, rfl, _⟩ := h
    rfl
  obtain ⟨x, y, d, rfl, hx, hy, hd, q⟩ := h
  refine ⟨_, (pss_cons (ps_if (PW.pt (pw_and (pt_val (pe_callB (call_isi) (by rfl) bt.isinstance bb_isinstance (pa_cons (pv 0) (pa_cons (pe_bltn (v := .ty "tuple") (by rfl) bt.tuple bb_tuple rfl) pa_nil)))) (pw_and1 (pt_val (pe_callB (call_isi) (by rfl) bt.isinstance bb_isinstance (pa_cons (pv 1) (pa_cons (pe_bltn (v := .ty "tuple") (by rfl) bt.tuple bb_tuple rfl) pa_nil))))))) (pss_one (ps_ret (pe_and (pe_cmpR (op_eq) (pe_callB (call_len_seq) (by rfl) bt.len bb_len (pa_cons (pv 0) pa_nil)) (pe_callB (call_len_seq) (by rfl) bt.len bb_len (pa_cons (pv 1) pa_nil)) (nomark _)) (pe_one (pe_callB (cr_all rfl) (by rfl) bt.all bb_all (pa_cons (pe_lc (own := [("_law_a", 2), ("_law_b", 3)]) (tt := tYes) rfl sc_law_equal.nd (RZ.pi_zipA (by rfl) bt.zip (pa_cons (pv 0) (pa_cons (pv 1) pa_nil))) (blkOk_by (own := [("_law_a", 2), ("_law_b", 3)]) (N := ["_law_one", "_law_other", "_law_a", "_law_b"]) (sc := defScope s_law_equal) (by decide +kernel)) (fun _ _ _ _ _ => (pg_tup rfl (pgs_cons (pg_name (i := 2) sc_law_equal.nd rfl (.inl rfl)) (pgs_cons (pg_name (i := 3) sc_law_equal.nd rfl (.inl rfl)) pgs_nil)) : PG _ _ (gTup K 2 _))) (fun _ _ _ _ _ => pts_nil) (fun _ _ _ _ _ => (pe_callG G_law_equal gg (hr.mono (by first | decide | omega)) (by rfl) m_law_equal k_law_equal b_law_equal .nil pass0 (pa_cons (pv 2) (pa_cons (pv 3) pa_nil))))) pa_nil)))))) pss_nil)
      (pss_cons (ps_if (PW.pt (pw_or (pt_val (pe_callB (call_isi) (by rfl) bt.isinstance bb_isinstance (pa_cons (pv 0) (pa_cons (pe_bltn (v := .ty "bool") (by rfl) bt.bool bb_bool rfl) pa_nil)))) (pw_or1 (pt_val (pe_callB (call_isi) (by rfl) bt.isinstance bb_isinstance (pa_cons (pv 1) (pa_cons (pe_bltn (v := .ty "bool") (by rfl) bt.bool bb_bool rfl) pa_nil))))))) (pss_one (ps_ret (pe_and (pe_callB (call_isi) (by rfl) bt.isinstance bb_isinstance (pa_cons (pv 0) (pa_cons (pe_bltn (v := .ty "bool") (by rfl) bt.bool bb_bool rfl) pa_nil))) (pe_and (pe_callB (call_isi) (by rfl) bt.isinstance bb_isinstance (pa_cons (pv 1) (pa_cons (pe_bltn (v := .ty "bool") (by rfl) bt.bool bb_bool rfl) pa_nil))) (pe_one (pe_cmpR (op_eq) (pv 0) (pv 1) (nomark _))))))) pss_nil)
      (pss_cons (ps_if (pt_cmpR (op_ne) (pe_callB (call_isi) (by rfl) bt.isinstance bb_isinstance (pa_cons (pv 0) (pa_cons (pe_bltn (v := .ty "tuple") (by rfl) bt.tuple bb_tuple rfl) pa_nil))) (pe_callB (call_isi) (by rfl) bt.isinstance bb_isinstance (pa_cons (pv 1) (pa_cons (pe_bltn (v := .ty "tuple") (by rfl) bt.tuple bb_tuple rfl) pa_nil))) (nomark _)) (pss_one (ps_ret pe_bl)) pss_nil)
      (pss_cons (ps_if (pt_cmpR (op_ne) (pe_callB (call_isi) (by rfl) bt.isinstance bb_isinstance (pa_cons (pv 0) (pa_cons (pe_bltn (v := .ty "int") (by rfl) bt.int bb_int rfl) pa_nil))) (pe_callB (call_isi) (by rfl) bt.isinstance bb_isinstance (pa_cons (pv 1) (pa_cons (pe_bltn (v := .ty "int") (by rfl) bt.int bb_int rfl) pa_nil))) (nomark _)) (pss_one (ps_ret pe_bl)) pss_nil)
      (pss_one (ps_ret (pe_and (pe_cmpR (op_eq) (pe_callB (call_isi) (by rfl) bt.isinstance bb_isinstance (pa_cons (pv 0) (pa_cons (pe_bltn (v := .ty "str") (by rfl) bt.str bb_str rfl) pa_nil))) (pe_callB (call_isi) (by rfl) bt.isinstance bb_isinstance (pa_cons (pv 1) (pa_cons (pe_bltn (v := .ty "str") (by rfl) bt.str bb_str rfl) pa_nil))) (nomark _)) (pe_one (pe_cmpR (op_eq) (pv 0) (pv 1) (nomark _)))))))))), ?_⟩
  cases hx with
  | lst h1 h2 => exact absurd hd (by simp [okd])
  | tup h1 h2 =>
    rename_i a xs ds
    cases hy with
    | tup h3 h4 =>
    rename_i b ys
    have hd' : decide (ds.length ≤ 1000) = true ∧ ds.all (okd n) = true := by
      have : (decide (ds.length ≤ 1000) && ds.all (okd n)) = true := hd
      rwa [Bool.and_eq_true] at this
    have hlen : ds.length ≤ 1000 := of_decide_eq_true hd'.1
    have l1 := dps_len h2
    have l2 := dps_len h4
    refine ⟨_, rfl, _, _, _, _, true, rfl, .ty _, tyx_tup h1, kit_ty (by decide +kernel), _, rfl, iteT ⟨_, rfl, _, _, _, _, true, rfl, .ty _, tyx_tup h3, kit_ty (by decide +kernel), _, rfl, iteT ?_⟩⟩
    refine ⟨_, rfl, a, _, rfl, .inr h1, _, rfl, b, _, rfl, .inr h3, rfl, _, rfl, ?_⟩
    rw [show decide (V.int ((xs.length : Nat) : Int) = V.int ((ys.length : Nat) : Int)) = true from decide_eq_true (by rw [l1, l2])]
    refine iteT ⟨_, rfl, _, rfl, a, b, xs, ys, rfl, .inr ⟨h1, h3, fun Z nZ => ?_⟩⟩
    refine lc_it (walk_zipT (K := K) (a := a) (b := b) (xs := xs) (ys := ys) (by omega)) (fun i H' => i ≤ xs.length ∧ Same H H' ∧ ∃ bs : List Bool, bs.length = i ∧ (∀ b ∈ bs, b = true) ∧ H' Z = some (.lst (bs.map V.bl)))
      ⟨Nat.zero_le _, same_new nZ, [], rfl, fun b h => (by cases h), upd_same⟩ (fun i H' _ h => ⟨same_tup h.2.1 h1, same_tup h.2.1 h3⟩) (fun i x H' H2 hi h hy => ?_) (fun H' h => ?_)
    · obtain ⟨hi', sm, bs, hbl, hbt, hZ⟩ := h
      obtain ⟨T, u, v, rfl, fT, rfl, eu, ev⟩ := hy
      have ZT : Z ≠ T := ne_of_none hZ fT
      have sT := same_new (o := .tup [u, v]) fT
      refine ⟨T, _, rfl, SqT.of upd_same, rfl, _, _, rfl, _, _, rfl, rfl, rfl, ?_⟩
      have hdi : ds[i]? = some ds[i] := List.getElem?_eq_getElem (by omega)
      have hok : okd n ds[i] = true := List.all_eq_true.mp hd'.2 _ (List.getElem_mem _)
      have s2 := sm.trans sT
      refine ⟨_, rfl, _, rfl, u, v, ds[i], rfl, dp_same s2 (dps_get h2 eu hdi), dp_same s2 (dps_get h4 ev hdi), hok, fun H3 s3 => ?_⟩
      refine ⟨_, s3 _ _ ((upd_ne ZT).trans hZ), ?_, hi, ?_, bs ++ [true], ?_, ?_, ?_⟩
      · rw [List.length_map, hbl]
        exact small1000 (by omega)
      · exact fun c o e => (upd_ne (ne_of_none e nZ)).trans (s3 _ _ (s2 c o e))
      · rw [List.length_append, hbl]
        rfl
      · intro b hb
        rcases List.mem_append.mp hb with hb | hb
        · exact hbt b hb
        · simpa using hb
      · rw [List.map_append]
        exact upd_same
    · obtain ⟨_, sm, bs, _, hbt, hZ⟩ := h
      refine ⟨Z, bs, rfl, SqL.of hZ, ?_⟩
      rw [all_true hbt]
      exact q _ sm
  | non =>
    cases hy
    refine ⟨_, rfl, _, _, _, _, false, rfl, .ty _, (.base .non), kit_ty (by decide +kernel), _, rfl, iteF (iteF ?_)⟩
    refine ⟨_, rfl, _, _, _, _, false, rfl, .ty _, (.base .non), kit_ty (by decide +kernel), _, rfl, iteF ⟨_, rfl, _, _, _, _, false, rfl, .ty _, (.base .non), kit_ty (by decide +kernel), _, rfl, iteF ?_⟩⟩
    refine ⟨_, rfl, _, _, _, _, false, rfl, .ty _, (.base .non), kit_ty (by decide +kernel), _, rfl, _, _, _, _, false, rfl, .ty _, (.base .non), kit_ty (by decide +kernel), rfl, _, rfl, iteNS rfl ?_⟩
    refine ⟨_, rfl, _, _, _, _, false, rfl, .ty _, (.base .non), kit_ty (by decide +kernel), _, rfl, _, _, _, _, false, rfl, .ty _, (.base .non), kit_ty (by decide +kernel), rfl, _, rfl, iteNS rfl ?_⟩
    refine ⟨_, rfl, _, _, _, _, false, rfl, .ty _, (.base .non), kit_ty (by decide +kernel), _, rfl, _, _, _, _, false, rfl, .ty _, (.base .non), kit_ty (by decide +kernel), rfl, _, rfl, iteD rfl ⟨_, rfl, _, rfl, rfl, ?_⟩⟩
    exact q_dec rfl (q _ (Same.refl _))
  | bl b =>
    cases hy
    refine ⟨_, rfl, _, _, _, _, false, rfl, .ty _, (.base (.bl b)), kit_ty (by decide +kernel), _, rfl, iteF (iteF ?_)⟩
    refine ⟨_, rfl, _, _, _, _, true, rfl, .ty _, (.base (.bl b)), kit_ty (by decide +kernel), _, rfl, iteT (iteT ?_)⟩
    refine ⟨_, rfl, _, _, _, _, true, rfl, .ty _, (.base (.bl b)), kit_ty (by decide +kernel), _, rfl, iteT ⟨_, rfl, _, _, _, _, true, rfl, .ty _, (.base (.bl b)), kit_ty (by decide +kernel), _, rfl, iteT ⟨_, rfl, _, rfl, rfl, ?_⟩⟩⟩
    exact q_dec rfl (q _ (Same.refl _))
  | int i =>
    cases hy
    refine ⟨_, rfl, _, _, _, _, false, rfl, .ty _, (.base (.int i)), kit_ty (by decide +kernel), _, rfl, iteF (iteF ?_)⟩
    refine ⟨_, rfl, _, _, _, _, false, rfl, .ty _, (.base (.int i)), kit_ty (by decide +kernel), _, rfl, iteF ⟨_, rfl, _, _, _, _, false, rfl, .ty _, (.base (.int i)), kit_ty (by decide +kernel), _, rfl, iteF ?_⟩⟩
    refine ⟨_, rfl, _, _, _, _, false, rfl, .ty _, (.base (.int i)), kit_ty (by decide +kernel), _, rfl, _, _, _, _, false, rfl, .ty _, (.base (.int i)), kit_ty (by decide +kernel), rfl, _, rfl, iteNS rfl ?_⟩
    refine ⟨_, rfl, _, _, _, _, true, rfl, .ty _, (.base (.int i)), kit_ty (by decide +kernel), _, rfl, _, _, _, _, true, rfl, .ty _, (.base (.int i)), kit_ty (by decide +kernel), rfl, _, rfl, iteNS rfl ?_⟩
    refine ⟨_, rfl, _, _, _, _, false, rfl, .ty _, (.base (.int i)), kit_ty (by decide +kernel), _, rfl, _, _, _, _, false, rfl, .ty _, (.base (.int i)), kit_ty (by decide +kernel), rfl, _, rfl, iteD rfl ⟨_, rfl, _, rfl, rfl, ?_⟩⟩
    exact q_dec rfl (q _ (Same.refl _))
  | str z =>
    cases hy
    refine ⟨_, rfl, _, _, _, _, false, rfl, .ty _, (.base (.str z)), kit_ty (by decide +kernel), _, rfl, iteF (iteF ?_)⟩
    refine ⟨_, rfl, _, _, _, _, false, rfl, .ty _, (.base (.str z)), kit_ty (by decide +kernel), _, rfl, iteF ⟨_, rfl, _, _, _, _, false, rfl, .ty _, (.base (.str z)), kit_ty (by decide +kernel), _, rfl, iteF ?_⟩⟩
    refine ⟨_, rfl, _, _, _, _, false, rfl, .ty _, (.base (.str z)), kit_ty (by decide +kernel), _, rfl, _, _, _, _, false, rfl, .ty _, (.base (.str z)), kit_ty (by decide +kernel), rfl, _, rfl, iteNS rfl ?_⟩
    refine ⟨_, rfl, _, _, _, _, false, rfl, .ty _, (.base (.str z)), kit_ty (by decide +kernel), _, rfl, _, _, _, _, false, rfl, .ty _, (.base (.str z)), kit_ty (by decide +kernel), rfl, _, rfl, iteNS rfl ?_⟩
    refine ⟨_, rfl, _, _, _, _, true, rfl, .ty _, (.base (.str z)), kit_ty (by decide +kernel), _, rfl, _, _, _, _, true, rfl, .ty _, (.base (.str z)), kit_ty (by decide +kernel), rfl, _, rfl, iteD rfl ⟨_, rfl, _, rfl, rfl, ?_⟩⟩
    exact q_dec rfl (q _ (Same.refl _))
theorem ok_law_equal (bt : Bt mg) {f : Addr} {fd : FuncData} (F : Fun K "_law_equal" "_law_equal" s_law_equal f fd) (m : mg "_law_equal" = some (.ref f)) (b : Binds K fd ["_law_one", "_law_other"] []) :
    ∀ n, FnG P w K mg base CX0 n f fd ["_law_one", "_law_other"] (sp_law_equal K n)
  | 0 => by
    have no : ∀ vs H Q E, ¬ sp_law_equal K 0 vs H Q E := fun vs H Q E h => by
      obtain ⟨x, y, d, _, _, _, z, _⟩ := h
      cases z
    exact ⟨fun vs H Q E h => absurd h (no _ _ _ _), fun A _ o s H ar us vs Q E _ _ _ _ h => absurd h (no _ _ _ _)⟩
  | n + 1 => ok_law_equal_step bt F m b (ok_law_equal bt F m b n)
end
end Tr

namespace Tr
open PySem PySem.Spec PyProof.Rows L2
abbrev s_law_near : Stmt := topS 18
theorem sc_law_near : FnScope ["_law_tree_here", "_law_vertex", "_law_found", "_law_one", "_law_other", "_law_delay_here"] ["_law_tree_here", "_law_vertex"] (defScope s_law_near) := ⟨rfl, rfl, rfl, by decide +kernel, rfl, by decide +kernel, by decide +kernel⟩
/-- _law_near -/
def sp_law_near : Sp := fun vs H Q _ => ∃ (t : Addr) (n : Nat) (es : List Ed) (v : Int), vs = [.ref t, .int v] ∧ TrAt H t n es ∧ es.length ≤ 31 ∧
  ∀ (H' : Hp) (p : Addr) (l : List Int), l.Perm (nbrs es v) → l.Pairwise (· ≤ ·) → H p = none → H' p = some (.lst (l.map V.int)) → Same H H' → Q (.ref p) H'
theorem take_filter {p : Ed → Bool} {f : Ed → Int} {es : List Ed} {i : Nat} {e : Ed} (h : es[i]? = some e) :
    ((es.take (i + 1)).filter p).map f = ((es.take i).filter p).map f ++ (if p e = true then [f e] else []) := by
  rw [List.take_add_one, h, List.filter_append, List.map_append]
  show _ ++ ([e].filter p).map f = _
  by_cases hp : p e = true
  · rw [if_pos hp, List.filter_cons_of_pos hp]
    rfl
  · rw [if_neg hp, List.filter_cons_of_neg hp]
    rfl
section
variable {P : Program} {w : World} {K : PySem.W.Frag} {mg : Str → Option Value} {base : Heap}
theorem ok_law_near (bt : Bt mg) {f : Addr} {fd : FuncData} (F : Fun K "_law_near" "_law_near" s_law_near f fd) : FnG P w K mg base CX0 1 f fd ["_law_tree_here", "_law_vertex"] sp_law_near := by
  refine fnG F sc_law_near (fun vs H Q E h => ?_) (fun cdv A outer s H vs Q E hr gg h => ?_)
  · obtain ⟨t, n, es, v, rfl, _⟩ := h
    rfl
  obtain ⟨t, n, es, v, rfl, ⟨q0, as, ht, hq, he⟩, hl, q⟩ := h
  refine ⟨_, (pss_cons (ps_setLc (i := 2) (own := [("_law_one", 3), ("_law_other", 4), ("_law_delay_here", 5)]) rfl sc_law_near.nd rfl rfl (sw_true rfl rfl rfl (by decide +kernel)) (pi_tup (pe_ix ix_tup (pv 0) pe_int (fun _ _ => rfl))) (blkOk_by (own := [("_law_one", 3), ("_law_other", 4), ("_law_delay_here", 5)]) (N := ["_law_tree_here", "_law_vertex", "_law_found", "_law_one", "_law_other", "_law_delay_here"]) (sc := defScope s_law_near) (by decide +kernel)) (fun _ _ _ _ _ => (pg_tup rfl (pgs_cons (pg_name (i := 3) sc_law_near.nd rfl (.inl rfl)) (pgs_cons (pg_name (i := 4) sc_law_near.nd rfl (.inl rfl)) (pgs_cons (pg_name (i := 5) sc_law_near.nd rfl (.inl rfl)) pgs_nil))) : PG _ _ (gTup K 3 _))) (fun _ _ _ _ _ => (pts_one (pt_cmpR (op_eq) (pv 3) (pv 1) (nomark _)))) (fun _ _ _ _ _ => (pv 4)))
      (pss_one (ps_ret (pe_callB (cr_sorted) (by rfl) bt.sorted bb_sorted (pa_cons (pe_op (op_cat) (pv 2) (pe_lc (own := [("_law_one", 3), ("_law_other", 4), ("_law_delay_here", 5)]) rfl sc_law_near.nd (pi_tup (pe_ix ix_tup (pv 0) pe_int (fun _ _ => rfl))) (blkOk_by (own := [("_law_one", 3), ("_law_other", 4), ("_law_delay_here", 5)]) (N := ["_law_tree_here", "_law_vertex", "_law_found", "_law_one", "_law_other", "_law_delay_here"]) (sc := defScope s_law_near) (by decide +kernel)) (fun _ _ _ _ _ => (pg_tup rfl (pgs_cons (pg_name (i := 3) sc_law_near.nd rfl (.inl rfl)) (pgs_cons (pg_name (i := 4) sc_law_near.nd rfl (.inl rfl)) (pgs_cons (pg_name (i := 5) sc_law_near.nd rfl (.inl rfl)) pgs_nil))) : PG _ _ (gTup K 3 _))) (fun _ _ _ _ _ => (pts_one (pt_cmpR (op_eq) (pv 4) (pv 1) (nomark _)))) (fun _ _ _ _ _ => (pv 3)))) pa_nil))))), ?_⟩
  have hla := he.length
  have one : ∀ (p : Ed → Bool) (f : Ed → Int) (i : Nat), (((es.take i).filter p).map f).length ≤ 31 := fun p f i => by
    rw [List.length_map]
    refine Nat.le_trans (List.length_filter_le _ _) ?_
    rw [List.length_take]
    omega
  refine ⟨_, rfl, t, _, 1, .ref q0, rfl, rfl, SqT.of ht, atI_nat (j := 1) rfl, q0, rfl, ⟨_, SqT.of hq⟩, fun Z nZ => ?_⟩
  refine lc_tup (K := K) (a := q0) (xs := as.map V.ref) (fun i H' => Same H H' ∧ H' Z = some (.lst ((((es.take i).filter (upE v)).map (·.2.1)).map V.int)))
    ⟨same_new nZ, upd_same⟩ (fun i H' _ h => SqT.of (h.1 _ _ hq)) (fun i x H' hx h => ?_) (fun H1 h => ?_)
  · obtain ⟨sm, hZ⟩ := h
    rw [List.getElem?_map] at hx
    obtain ⟨a, ha, rfl⟩ := Option.map_eq_some_iff.mp hx
    obtain ⟨e, hee, hae⟩ := he.get' ha
    refine ⟨a, _, rfl, SqT.of (sm _ _ hae), rfl, _, _, rfl, _, _, rfl, _, _, rfl, rfl, rfl, ?_⟩
    refine ⟨_, rfl, _, rfl, rfl, _, rfl, ite2 (fun c => ?_) (fun c => ?_)⟩
    · have c1 : upE v e = true := decide_eq_true (V.int.inj (of_decide_eq_true c))
      refine ⟨_, rfl, _, hZ, ?_, fun b u eb => (upd_ne (ne_of_none eb nZ)).trans (sm b u eb), ?_⟩
      · rw [List.length_map]
        exact small1000 (Nat.le_trans (one _ _ _) (by decide))
      · rw [take_filter hee, if_pos c1, List.map_append]
        exact upd_same
    · have c1 : ¬ upE v e = true := fun z => c (decide_eq_true (congrArg V.int (of_decide_eq_true z)))
      refine ⟨sm, ?_⟩
      rw [take_filter hee, if_neg c1, List.append_nil]
      exact hZ
  obtain ⟨s1, hZ⟩ := h
  rw [List.length_map, hla, List.take_length] at hZ
  refine ⟨_, rfl, _, rfl, t, _, 1, .ref q0, rfl, rfl, SqT.of (s1 _ _ ht), atI_nat (j := 1) rfl, q0, rfl, ⟨_, SqT.of (s1 _ _ hq)⟩, fun Y nY => ?_⟩
  have hZY : Z ≠ Y := ne_of_none hZ nY
  refine lc_tup (K := K) (a := q0) (xs := as.map V.ref) (fun i H' => Same H1 H' ∧ H' Y = some (.lst ((((es.take i).filter (dnE v)).map (·.1)).map V.int)))
    ⟨same_new nY, upd_same⟩ (fun i H' _ h => SqT.of (h.1 _ _ (s1 _ _ hq))) (fun i x H' hx h => ?_) (fun H2 h => ?_)
  · obtain ⟨sm, hY⟩ := h
    rw [List.getElem?_map] at hx
    obtain ⟨a, ha, rfl⟩ := Option.map_eq_some_iff.mp hx
    obtain ⟨e, hee, hae⟩ := he.get' ha
    refine ⟨a, _, rfl, SqT.of (sm _ _ (s1 _ _ hae)), rfl, _, _, rfl, _, _, rfl, _, _, rfl, rfl, rfl, ?_⟩
    refine ⟨_, rfl, _, rfl, rfl, _, rfl, ite2 (fun c => ?_) (fun c => ?_)⟩
    · have c1 : dnE v e = true := decide_eq_true (V.int.inj (of_decide_eq_true c))
      refine ⟨_, rfl, _, hY, ?_, fun b u eb => (upd_ne (ne_of_none eb nY)).trans (sm b u eb), ?_⟩
      · rw [List.length_map]
        exact small1000 (Nat.le_trans (one _ _ _) (by decide))
      · rw [take_filter hee, if_pos c1, List.map_append]
        exact upd_same
    · have c1 : ¬ dnE v e = true := fun z => c (decide_eq_true (congrArg V.int (of_decide_eq_true z)))
      refine ⟨sm, ?_⟩
      rw [take_filter hee, if_neg c1, List.append_nil]
      exact hY
  obtain ⟨s2, hY⟩ := h
  rw [List.length_map, hla, List.take_length] at hY
  have o1 := one (upE v) (·.2.1) es.length
  have o2 := one (dnE v) (·.1) es.length
  rw [List.take_length] at o1 o2
  refine ⟨Z, Y, _, _, rfl, rfl, s2 _ _ hZ, hY, ?_, fun p hp => ?_⟩
  · refine Nat.le_of_lt (small1000 ?_)
    simp only [List.length_map] at o1 o2 ⊢
    omega
  rw [← List.map_append]
  refine ⟨p, _, rfl, SqL.of upd_same, ?_, fun l z pm so hz => ?_⟩
  · simp only [List.length_append, List.length_map] at o1 o2 ⊢
    omega
  have s3 := same_new (o := .lst (((es.filter (upE v)).map (·.2.1) ++ (es.filter (dnE v)).map (·.1)).map V.int)) hp
  have s4 := same_new (o := .lst (l.map V.int)) hz
  have s5 := (s1.trans s2).trans s3
  exact q _ z l (pm.trans (nbrs_perm v es).symm) so (s5.free hz) upd_same (s5.trans s4)
end
end Tr

namespace Tr
open PySem PySem.Spec PyProof.Rows L2
abbrev s_neighbours_of : Stmt := topS 1
theorem sc_neighbours_of : FnScope ["tree", "vertex", "neighbours", "one", "other", "delay"] ["tree", "vertex"] (defScope s_neighbours_of) := ⟨rfl, rfl, rfl, by decide +kernel, rfl, by decide +kernel, by decide +kernel⟩
/-- neighbours_of -/
def sp_neighbours_of : Sp := fun vs H Q _ => ∃ (t : Addr) (n : Nat) (es : List Ed) (v : Int), vs = [.ref t, .int v] ∧ TrAt H t n es ∧ es.length ≤ 31 ∧
  ∀ (H' : Hp) (p : Addr) (l : List Int), l.Perm (nbrs es v) → l.Pairwise (· ≤ ·) → H p = none → H' p = some (.tup (l.map V.int)) → Same H H' → Q (.ref p) H'
section
variable {P : Program} {w : World} {K : PySem.W.Frag} {mg : Str → Option Value} {base : Heap}
theorem ok_neighbours_of (bt : Bt mg) {f : Addr} {fd : FuncData} (F : Fun K "neighbours_of" "neighbours_of" s_neighbours_of f fd) : FnG P w K mg base CX0 1 f fd ["tree", "vertex"] sp_neighbours_of := by
  refine fnG F sc_neighbours_of (fun vs H Q E h => ?_) (fun cdv A outer s H vs Q E hr gg h => ?_)
  · obtain ⟨t, n, es, v, rfl, _⟩ := h
    rfl
  obtain ⟨t, n, es, v, rfl, ⟨q0, as, ht, hq, he⟩, hl, q⟩ := h
  refine ⟨_, (pss_cons (ps_set (i := 2) sc_neighbours_of.nd rfl (.inl rfl) (pe_lst pa_nil))
      (pss_cons (ps_for PassesOwn.never rfl (pi_tup (pe_ix ix_tup (pv 0) pe_int (fun _ _ => rfl))) (pg_tup rfl (pgs_cons (pg_name (i := 3) sc_neighbours_of.nd rfl (.inl rfl)) (pgs_cons (pg_name (i := 4) sc_neighbours_of.nd rfl (.inl rfl)) (pgs_cons (pg_name (i := 5) sc_neighbours_of.nd rfl (.inl rfl)) pgs_nil))))
        (pss_cons (ps_if (pt_cmpR (op_eq) (pv 3) (pv 1) (nomark _)) (pss_one (ps_expr (pe_bm PySem.F.plainAttrs_list PySem.F.slot_list_append PySem.F.type_list_append mt_append (pv 2) (pa_cons (pv 4) pa_nil)))) pss_nil)
      (pss_one (ps_if (pt_cmpR (op_eq) (pv 4) (pv 1) (nomark _)) (pss_one (ps_expr (pe_bm PySem.F.plainAttrs_list PySem.F.slot_list_append PySem.F.type_list_append mt_append (pv 2) (pa_cons (pv 3) pa_nil)))) pss_nil))))
      (pss_one (ps_ret (pe_callTy (call_tuple_of) (by rfl) bt.tuple bb_tuple (pa_cons (pe_callB (cr_sorted) (by rfl) bt.sorted bb_sorted (pa_cons (pv 2) pa_nil)) pa_nil)))))), ?_⟩
  refine ⟨Nat.zero_le _, fun o no => ?_⟩
  have s1 := same_new (o := .lst []) no
  have e1 : (upd H o (.lst [])) o = some (.lst []) := upd_same
  generalize upd H o (.lst []) = H1 at s1 e1 ⊢
  refine ⟨_, rfl, t, _, 1, .ref q0, rfl, rfl, SqT.of (s1 _ _ ht), atI_nat (j := 1) rfl, q0, rfl, ⟨_, SqT.of (s1 _ _ hq)⟩, ?_⟩
  have hla := he.length
  refine for_tup (K := K) (a := q0) (xs := as.map V.ref) (fun i σ H' => i ≤ es.length ∧ ∃ y3 y4 y5, σ = [some (.ref t), some (.int v), some (.ref o), y3, y4, y5] ∧ Same H H' ∧ H' o = some (.lst ((nbrs (es.take i) v).map V.int)))
    ⟨Nat.zero_le _, none, none, none, rfl, s1, e1⟩ (fun i σ H' _ h => ?_) (fun i x σ H' hx h => ?_) (fun σ H' h => ?_)
  · obtain ⟨_, _, _, _, _, sm, _⟩ := h
    exact SqT.of (sm _ _ hq)
  · obtain ⟨hi, y3, y4, y5, rfl, sm, hO⟩ := h
    rw [List.getElem?_map] at hx
    obtain ⟨a, ha, rfl⟩ := Option.map_eq_some_iff.mp hx
    obtain ⟨e, hee, hae⟩ := he.get' ha
    have hlt : i < es.length := (List.getElem?_eq_some_iff.mp hee).1
    have bound : (nbrs (es.take i) v).length ≤ 2 * i := by
      unfold nbrs
      rw [List.length_flatMap]
      have : ((es.take i).map fun e => (nbE v e).length).sum ≤ 2 * (es.take i).length := sum_le2 fun e => nbE_len v e
      rw [List.length_take] at this
      exact Nat.le_trans this (by omega)
    have nx : nbrs (es.take (i + 1)) v = nbrs (es.take i) v ++ nbE v e := by
      unfold nbrs
      rw [List.take_add_one, hee, List.flatMap_append]
      simp
    have go : ∀ (H2 : Hp) (l : List Int), Same H H2 → H2 o = some (.lst ((nbrs (es.take i) v ++ l).map V.int)) → l = nbE v e → i + 1 ≤ es.length ∧ ∃ z3 z4 z5, [some (V.ref t), some (V.int v), some (V.ref o), some (V.int e.1), some (V.int e.2.1), some (V.int e.2.2)] = [some (V.ref t), some (V.int v), some (V.ref o), z3, z4, z5] ∧ Same H H2 ∧ H2 o = some (.lst ((nbrs (es.take (i + 1)) v).map V.int)) :=
      fun H2 l s2 h2 el => ⟨hlt, _, _, _, rfl, s2, by rw [nx, ← el]; exact h2⟩
    have wr : ∀ (H2 : Hp) (u : HO), Same H H2 → Same H (upd H2 o u) := fun H2 u s2 b x eb => (upd_ne (ne_of_none eb no)).trans (s2 b x eb)
    refine ⟨a, _, rfl, SqT.of (sm _ _ hae), rfl, _, _, rfl, _, _, rfl, _, _, rfl, rfl, ?_⟩
    refine ⟨_, rfl, _, rfl, rfl, _, rfl, ite2 (fun c => ?_) (fun c => ?_)⟩
    · have c1 : e.1 = v := V.int.inj (of_decide_eq_true c)
      refine ⟨_, rfl, .inl ⟨rfl, _, SqL.of hO⟩, _, rfl, o, _, _, rfl, rfl, hO, ?_, ?_⟩
      · rw [List.length_map]
        exact small1000 (by omega)
      refine ⟨_, rfl, _, rfl, rfl, _, rfl, ite2 (fun c' => ?_) (fun c' => ?_)⟩
      · have c2 : e.2.1 = v := V.int.inj (of_decide_eq_true c')
        refine ⟨_, rfl, .inl ⟨rfl, _, SqL.of upd_same⟩, _, rfl, o, _, _, rfl, rfl, upd_same, ?_, ?_⟩
        · rw [List.length_append, List.length_map]
          exact small1000 (by show _ + 1 ≤ 1000; omega)
        refine go _ [e.2.1, e.1] (wr _ _ (wr _ _ sm)) ?_ ?_
        · rw [upd_same, List.map_append, List.append_assoc]
          rfl
        · unfold nbE
          rw [if_pos c1, if_pos c2]
          rfl
      · have c2 : ¬ e.2.1 = v := fun z => c' (decide_eq_true (congrArg V.int z))
        refine go _ [e.2.1] (wr _ _ sm) ?_ ?_
        · rw [upd_same, List.map_append]
          rfl
        · unfold nbE
          rw [if_pos c1, if_neg c2]
          rfl
    · have c1 : ¬ e.1 = v := fun z => c (decide_eq_true (congrArg V.int z))
      refine ⟨_, rfl, _, rfl, rfl, _, rfl, ite2 (fun c' => ?_) (fun c' => ?_)⟩
      · have c2 : e.2.1 = v := V.int.inj (of_decide_eq_true c')
        refine ⟨_, rfl, .inl ⟨rfl, _, SqL.of hO⟩, _, rfl, o, _, _, rfl, rfl, hO, ?_, ?_⟩
        · rw [List.length_map]
          exact small1000 (by omega)
        refine go _ [e.1] (wr _ _ sm) ?_ ?_
        · rw [upd_same, List.map_append]
          rfl
        · unfold nbE
          rw [if_neg c1, if_pos c2]
          rfl
      · have c2 : ¬ e.2.1 = v := fun z => c' (decide_eq_true (congrArg V.int z))
        refine go _ [] sm ?_ ?_
        · rw [List.append_nil]
          exact hO
        · unfold nbE
          rw [if_neg c1, if_neg c2]
          rfl
  · obtain ⟨_, y3, y4, y5, rfl, sm, hO⟩ := h
    rw [List.length_map, hla, List.take_length] at hO
    have bound : (nbrs es v).length ≤ 2 * es.length := by
      unfold nbrs
      rw [List.length_flatMap]
      exact sum_le2 fun e => nbE_len v e
    refine ⟨_, rfl, o, _, rfl, SqL.of hO, by omega, fun l p pm so hp => ?_⟩
    refine ⟨p, _, rfl, .inl ⟨SqL.of upd_same, fun z hz => ?_⟩⟩
    have s2 := same_new (o := .lst (l.map V.int)) hp
    have s3 := same_new (o := .tup (l.map V.int)) hz
    refine q _ z l pm so ?_ upd_same ((sm.trans s2).trans s3)
    exact (sm.trans s2).free hz
end
end Tr

namespace Tr
open PySem PySem.Spec PyProof.Rows L2
abbrev s_callers_of : Stmt := topS 2
theorem sc_callers_of : FnScope ["tree", "source", "vertex", "callers", "waiting", "neighbour"] ["tree", "source"] (defScope s_callers_of) := ⟨rfl, rfl, rfl, by decide +kernel, rfl, by decide +kernel, by decide +kernel⟩
def optV : Option Int → V
  | none => .non
  | some c => .int c
def getO (C : List (Option Int)) (u : Int) : Option Int := (C[u.toNat]?).getD none
theorem getO_at {C : List (Option Int)} {u : Int} (h0 : 0 ≤ u) (h1 : u < (C.length : Int)) : atI (C.map optV) u = some (optV (getO C u)) := by
  obtain ⟨j, rfl⟩ := Int.eq_ofNat_of_zero_le h0
  have hj : j < C.length := by omega
  have e : getO C (j : Int) = C[j] := by
    unfold getO
    show (C[j]?).getD none = C[j]
    rw [List.getElem?_eq_getElem hj]
    rfl
  rw [e]
  exact atI_nat (by rw [List.getElem?_map, List.getElem?_eq_getElem hj] <;> rfl)
theorem getO_set {C : List (Option Int)} {u w : Int} {x : Option Int} (h0 : 0 ≤ u) (h1 : u < (C.length : Int)) (w0 : 0 ≤ w) : getO (C.set w.toNat x) u = if u = w then x else getO C u := by
  unfold getO
  by_cases e : u = w
  · subst e
    rw [if_pos rfl, List.getElem?_set_self (by omega)]
    rfl
  · rw [if_neg e, List.getElem?_set_ne (by omega)]
/-- the search: E the vertices that are done, Wt those that wait, C the callers so far -/
structure CI (n : Nat) (es : List Ed) (s : Int) (E Wt : List Int) (C : List (Option Int)) : Prop where
  len : C.length = n
  nd : (E ++ Wt).Nodup
  rng : ∀ u ∈ E ++ Wt, 0 ≤ u ∧ u < (n : Int)
  src : s ∈ E ++ Wt
  srcN : getO C s = none
  cl : ∀ u, 0 ≤ u → u < (n : Int) → ∀ c, getO C u = some c → Nx es s u c ∧ c ∈ E
  seen : ∀ u ∈ E ++ Wt, u ≠ s → ∃ c, getO C u = some c
  closed : ∀ v ∈ E, ∀ w, Adj es v w → w ∈ E ++ Wt
theorem mem_shift {E Wt X : List Int} {v u : Int} : u ∈ (v :: E) ++ (Wt ++ X) ↔ u ∈ E ++ (Wt ++ [v]) ∨ u ∈ X := by
  simp only [List.mem_append, List.mem_cons, List.not_mem_nil, or_false]
  constructor
  · rintro ((h | h) | h | h)
    · exact .inl (.inr (.inr h))
    · exact .inl (.inl h)
    · exact .inl (.inr (.inl h))
    · exact .inr h
  · rintro ((h | h | h) | h)
    · exact .inl (.inr h)
    · exact .inr (.inl h)
    · exact .inl (.inl h)
    · exact .inr (.inr h)
theorem CI.next {n : Nat} {es : List Ed} {s v : Int} {E Wt nb : List Int} {C C' : List (Option Int)} (W : Wood n es) (I : CI n es s E (Wt ++ [v]) C) (nbm : ∀ w, w ∈ nb ↔ Adj es v w) (nbd : nb.Nodup) (hl : C'.length = n)
    (hC : ∀ u, 0 ≤ u → u < (n : Int) → getO C' u = if u ∈ nb.filter (fun w => decide (¬ getO C v = some w)) then some v else getO C u) :
    CI n es s (v :: E) (Wt ++ nb.filter (fun w => decide (¬ getO C v = some w))) C' := by
  have hv : v ∈ E ++ (Wt ++ [v]) := by simp
  have rs := I.rng s I.src
  have rv := I.rng v hv
  have vE : v ∉ E := fun h => (List.nodup_append.mp I.nd).2.2 v h v (by simp) rfl
  have fact : ∀ w ∈ nb.filter (fun w => decide (¬ getO C v = some w)), Adj es v w ∧ Nx es s w v ∧ w ∉ E ++ (Wt ++ [v]) := by
    intro w hw
    obtain ⟨h1, h2⟩ := List.mem_filter.mp hw
    have h2 := of_decide_eq_true h2
    have ad := (nbm w).mp h1
    have notNx : ¬ Nx es s v w := fun h => by
      obtain ⟨c, hc⟩ := I.seen v hv (W.nx_ne h)
      have e := W.nx_uniq (I.cl v rv.1 rv.2 c hc).1 h
      rw [e] at hc
      exact h2 hc
    have back := W.nx_back ad notNx rs
    refine ⟨ad, back, fun hm => ?_⟩
    have ws : w ≠ s := fun e => notNx (e ▸ nx_here (e ▸ ad))
    obtain ⟨c, hc⟩ := I.seen w hm ws
    have rw' := I.rng w hm
    obtain ⟨q1, q2⟩ := I.cl w rw'.1 rw'.2 c hc
    exact vE (W.nx_uniq q1 back ▸ q2)
  have memE : ∀ u, u ∈ E ++ (Wt ++ [v]) ↔ u = v ∨ u ∈ E ∨ u ∈ Wt := fun u => by
    simp only [List.mem_append, List.mem_singleton]
    exact ⟨fun h => by rcases h with h | h | h <;> simp [h], fun h => by rcases h with h | h | h <;> simp [h]⟩
  have memN : ∀ u, u ∈ (v :: E) ++ (Wt ++ nb.filter (fun w => decide (¬ getO C v = some w))) ↔ u ∈ E ++ (Wt ++ [v]) ∨ u ∈ nb.filter (fun w => decide (¬ getO C v = some w)) := fun u => mem_shift
  have old : ∀ u, u ∈ E ++ (Wt ++ [v]) → u ∉ nb.filter (fun w => decide (¬ getO C v = some w)) := fun u h h' => (fact u h').2.2 h
  refine ⟨hl, ?_, fun u hu => ?_, (memN s).mpr (.inl I.src), ?_, fun u u0 u1 c hc => ?_, fun u hu us => ?_, fun x hx w hw => ?_⟩
  · have p : ((v :: E) ++ (Wt ++ nb.filter (fun w => decide (¬ getO C v = some w)))).Perm ((E ++ (Wt ++ [v])) ++ nb.filter (fun w => decide (¬ getO C v = some w))) := by
      have : (v :: E ++ Wt).Perm (E ++ (Wt ++ [v])) := by
        rw [← List.append_assoc]
        exact (List.perm_append_singleton v (E ++ Wt)).symm
      have := this.append_right (nb.filter (fun w => decide (¬ getO C v = some w)))
      rwa [List.append_assoc] at this
    refine p.nodup_iff.mpr (List.nodup_append.mpr ⟨I.nd, nbd.filter _, ?_⟩)
    intro a ha b hb e
    exact old a ha (e ▸ hb)
  · rcases (memN u).mp hu with h | h
    · exact I.rng u h
    · exact W.rng u v (fact u h).1.symm
  · rw [hC s rs.1 rs.2, if_neg (old s I.src)]
    exact I.srcN
  · rw [hC u u0 u1] at hc
    by_cases h : u ∈ nb.filter (fun w => decide (¬ getO C v = some w))
    · rw [if_pos h] at hc
      have e := Option.some.inj hc
      subst e
      exact ⟨(fact u h).2.1, List.mem_cons_self⟩
    · rw [if_neg h] at hc
      obtain ⟨q1, q2⟩ := I.cl u u0 u1 c hc
      exact ⟨q1, List.mem_cons_of_mem _ q2⟩
  · rcases (memN u).mp hu with h | h
    · obtain ⟨c, hc⟩ := I.seen u h us
      have r := I.rng u h
      exact ⟨c, by rw [hC u r.1 r.2, if_neg (old u h)]; exact hc⟩
    · have r := W.rng u v (fact u h).1.symm
      exact ⟨v, by rw [hC u r.1 r.2, if_pos h]⟩
  · refine (memN w).mpr ?_
    rcases List.mem_cons.mp hx with e | hx
    · subst e
      by_cases h : getO C x = some w
      · obtain ⟨_, q2⟩ := I.cl x rv.1 rv.2 w h
        exact .inl ((memE w).mpr (.inr (.inl q2)))
      · exact .inr (List.mem_filter.mpr ⟨(nbm w).mpr hw, decide_eq_true h⟩)
    · exact .inl (I.closed x hx w hw)
theorem CI.done {n : Nat} {es : List Ed} {s : Int} {E : List Int} {C : List (Option Int)} (W : Wood n es) (I : CI n es s E [] C) : ∀ u, 0 ≤ u → u < (n : Int) → u ≠ s → ∃ c, getO C u = some c ∧ Nx es s u c := by
  intro u u0 u1 us
  have src : s ∈ E := by simpa using I.src
  have rs := I.rng s I.src
  have allE : ∀ z, Conn es s z → z ∈ E := fun z hz => by
    induction hz with
    | refl => exact src
    | step _ hs ih => simpa using I.closed _ ih _ hs
  have hu : u ∈ E := allE u (W.all s u rs.1 rs.2 u0 u1)
  obtain ⟨c, hc⟩ := I.seen u (by simpa using hu) us
  exact ⟨c, hc, (I.cl u u0 u1 c hc).1⟩
/-- callers_of -/
def CallersAre (n : Nat) (es : List Ed) (s : Int) (C : List (Option Int)) : Prop := C.length = n ∧ getO C s = none ∧ ∀ u, 0 ≤ u → u < (n : Int) → u ≠ s → ∃ c, getO C u = some c ∧ Nx es s u c
def sp_callers_of : Sp := fun vs H Q _ => ∃ (t : Addr) (n : Nat) (es : List Ed) (s : Int), vs = [.ref t, .int s] ∧ TrAt H t n es ∧ es.length ≤ 31 ∧ n ≤ 31 ∧ Wood n es ∧ 0 ≤ s ∧ s < (n : Int) ∧
  ∀ (H' : Hp) (p : Addr) (C : List (Option Int)), CallersAre n es s C → H p = none → H' p = some (.lst (C.map optV)) → Same H H' → Q (.ref p) H'
section
variable {P : Program} {w : World} {K : PySem.W.Frag} {mg : Str → Option Value} {base : Heap}
theorem ok_callers_of (bt : Bt mg) (c_neighbours_of : Cal P w K mg base "neighbours_of" ["tree", "vertex"] 1 sp_neighbours_of) {f : Addr} {fd : FuncData} (F : Fun K "callers_of" "callers_of" s_callers_of f fd) :
    FnG P w K mg base CX0 2 f fd ["tree", "source"] sp_callers_of := by
  obtain ⟨f_neighbours_of, fd_neighbours_of, G_neighbours_of, m_neighbours_of, k_neighbours_of, b_neighbours_of⟩ := c_neighbours_of
  refine fnG F sc_callers_of (fun vs H Q E h => ?_) (fun cdv A outer s0 H vs Q E hr gg h => ?_)
  · obtain ⟨t, n, es, s, rfl, _⟩ := h
    rfl
  obtain ⟨t, n, es, s, rfl, tr, hl, hn, W, r0, r1, q⟩ := h
  obtain ⟨q0, as, ht, hq, he⟩ := id tr
  refine ⟨_, (pss_cons (ps_setLc (i := 3) (own := [("vertex", 2)]) (tt := tYes) rfl sc_callers_of.nd rfl rfl (sw_true rfl rfl rfl (by decide +kernel)) (pi_range1 (by rfl) bt.range (pa_cons (pe_ix ix_tup (pv 0) pe_int (fun _ _ => rfl)) pa_nil)) (blkOk_by (own := [("vertex", 2)]) (N := ["tree", "source", "vertex", "callers", "waiting", "neighbour"]) (sc := defScope s_callers_of) (by decide +kernel)) (fun _ _ _ _ _ => (pg_name (i := 2) sc_callers_of.nd rfl (.inl rfl))) (fun _ _ _ _ _ => pts_nil) (fun _ _ _ _ _ => pe_non))
      (pss_cons (ps_set (i := 4) sc_callers_of.nd rfl (.inl rfl) (pe_lst (pa_cons (pv 1) pa_nil)))
      (pss_cons (ps_while PassesOwn.never (pt_truth (pv 4) (by intro _; rfl)) (pss_cons (ps_set (i := 2) sc_callers_of.nd rfl (.inl rfl) (pe_bm0 PySem.F.plainAttrs_list PySem.F.slot_list_pop PySem.F.type_list_pop mt_pop (pv 4)))
      (pss_one (ps_for PassesOwn.never rfl (pi_tup (pe_callG G_neighbours_of gg (hr.mono (by first | decide | omega)) (by rfl) m_neighbours_of k_neighbours_of b_neighbours_of .nil pass0 (pa_cons (pv 0) (pa_cons (pv 2) pa_nil)))) (pg_name (i := 5) sc_callers_of.nd rfl (.inl rfl))
        (pss_one (ps_if (pt_cmpR (op_ne) (pv 5) (pe_ix ix_list (pv 3) (pv 2) (fun _ _ => rfl)) (nomark _)) (pss_cons (ps_asg (pv 2) (pg_sub (pv 3) (pv 5) set_list))
      (pss_one (ps_expr (pe_bm PySem.F.plainAttrs_list PySem.F.slot_list_append PySem.F.type_list_append mt_append (pv 4) (pa_cons (pv 5) pa_nil))))) pss_nil))))))
      (pss_one (ps_ret (pv 3)))))), ?_⟩
  refine ⟨_, rfl, t, _, 0, .int n, rfl, rfl, SqT.of ht, atI_nat (j := 0) rfl, _, rfl, by omega, by omega, fun oc noc => ?_⟩
  refine lc_range (lo := 0) (n := Int.toNat n) (fun i H' => Same H H' ∧ H' oc = some (.lst ((List.replicate i (none : Option Int)).map optV)))
    ⟨same_new noc, upd_same⟩ (fun i H' hi h => ?_) (fun H1 h => ?_)
  · obtain ⟨sm, hZ⟩ := h
    refine ⟨rfl, _, hZ, ?_, fun b u eb => (upd_ne (ne_of_none eb noc)).trans (sm b u eb), ?_⟩
    · rw [List.length_map, List.length_replicate]
      exact small1000 (by omega)
    · rw [List.replicate_succ', List.map_append]
      exact upd_same
  obtain ⟨s1, hoc⟩ := h
  refine ⟨_, rfl, (by show 1 ≤ sizeLine; decide), fun ow now => ?_⟩
  have s2 := same_new (o := .lst [.int s]) now
  have cw : oc ≠ ow := ne_of_none hoc now
  have freew : H ow = none := s1.free now
  have none0 : ∀ u : Int, getO (List.replicate (Int.toNat n) (none : Option Int)) u = none := fun u => by
    unfold getO
    rw [List.getElem?_replicate]
    split <;> rfl
  refine ⟨fun m σ H' => ∃ E Wt C y4 y5, σ = [some (.ref t), some (.int s), y4, some (.ref oc), some (.ref ow), y5] ∧ Same H H' ∧ H' oc = some (.lst (C.map optV)) ∧ H' ow = some (.lst (Wt.map V.int)) ∧ CI n es s E Wt C ∧ m = n - E.length,
    ⟨n, [], [s], _, none, none, rfl, s1.trans s2, s2 _ _ hoc, upd_same, ⟨by rw [List.length_replicate]; omega, by simp, fun u hu => ?_, by simp, none0 s, fun u _ _ c hc => ?_, fun u hu us => ?_, fun v hv => ?_⟩, by simp⟩, fun m σ H' h => ?_⟩
  · have : u = s := by simpa using hu
    rw [this]
    exact ⟨r0, r1⟩
  · rw [none0 u] at hc
    cases hc
  · have : u = s := by simpa using hu
    exact absurd this us
  · cases hv
  obtain ⟨E, Wt, C, y4, y5, rfl, sm, hc, hw, I, hm⟩ := h
  refine ⟨_, rfl, _, .inl ⟨_, SqL.of hw, rfl⟩, ?_⟩
  cases hWt : Wt with
  | nil =>
    subst hWt
    refine iteF ⟨_, rfl, q _ oc C ⟨I.len, I.srcN, I.done W⟩ noc hc sm⟩
  | cons a b =>
  refine iteT ?_
  obtain ⟨Wt', v, eW⟩ : ∃ Wt' v, Wt = Wt' ++ [v] := ⟨Wt.dropLast, Wt.getLast (by rw [hWt]; simp), (List.dropLast_concat_getLast _).symm⟩
  subst eW
  clear hWt
  have rv := I.rng v (by simp)
  have Elen : E.length + (Wt' ++ [v]).length ≤ n := by
    have := nodup_le (m := rI n) I.nd fun u hu => mem_rI.mpr (I.rng u hu)
    rwa [rI_len, List.length_append] at this
  rw [List.length_append, List.length_singleton] at Elen
  -- N: what holds behind the turn
  refine ⟨fun σ H2 => ∃ m', m' < m ∧ ∃ E Wt C y4 y5, σ = [some (.ref t), some (.int s), y4, some (.ref oc), some (.ref ow), y5] ∧ Same H H2 ∧ H2 oc = some (.lst (C.map optV)) ∧ H2 ow = some (.lst (Wt.map V.int)) ∧ CI n es s E Wt C ∧ m' = n - E.length, fun σ H2 h => h, ?_⟩
  have popAt : ((Wt' ++ [v]).map V.int)[((Wt' ++ [v]).map V.int).length - 1]? = some (.int v) := by
    rw [List.length_map, List.length_append, List.length_singleton, List.getElem?_map, List.getElem?_append_right (by omega)]
    simp
  have dl : ((Wt' ++ [v]).map V.int).dropLast = Wt'.map V.int := by simp
  refine ⟨_, rfl, .inl ⟨rfl, _, SqL.of hw⟩, ow, _, _, rfl, rfl, hw, popAt, ?_⟩
  rw [dl]
  have k1 : Same H (upd H' ow (.lst (Wt'.map V.int))) := fun b u eb => (upd_ne (ne_of_none eb freew)).trans (sm b u eb)
  have hc1 : (upd H' ow (.lst (Wt'.map V.int))) oc = some (.lst (C.map optV)) := (upd_ne cw).trans hc
  have hw1 : (upd H' ow (.lst (Wt'.map V.int))) ow = some (.lst (Wt'.map V.int)) := upd_same
  generalize upd H' ow (.lst (Wt'.map V.int)) = H2 at k1 hc1 hw1 ⊢
  refine ⟨_, rfl, _, rfl, t, n, es, v, rfl, tr.same k1, hl, fun H3 p nb pm so fr atp s3 => ?_⟩
  have nbm : ∀ w, w ∈ nb ↔ Adj es v w := fun w => pm.mem_iff.trans mem_nbrs
  have nbd : nb.Nodup := pm.nodup_iff.mpr (W.nd v)
  have hc3 := s3 _ _ hc1
  have hw3 := s3 _ _ hw1
  have poc : p ≠ oc := fun z => by rw [z, hc1] at fr; cases fr
  have pow : p ≠ ow := fun z => by rw [z, hw1] at fr; cases fr
  refine ⟨p, rfl, ⟨_, SqT.of atp⟩, ?_⟩
  have nbl : nb.length ≤ n := by
    have := nodup_le (m := rI n) nbd fun u hu => mem_rI.mpr (W.rng u v ((nbm u).mp hu).symm)
    rwa [rI_len] at this
  refine for_tup (K := K) (a := p) (xs := nb.map V.int) (fun j σ H4 => ∃ y5 C', σ = [some (.ref t), some (.int s), some (.int v), some (.ref oc), some (.ref ow), y5] ∧ Same H H4 ∧ H4 p = some (.tup (nb.map V.int)) ∧ H4 oc = some (.lst (C'.map optV)) ∧ C'.length = n ∧
      H4 ow = some (.lst ((Wt' ++ (nb.take j).filter (fun w => decide (¬ getO C v = some w))).map V.int)) ∧
      ∀ u, 0 ≤ u → u < (n : Int) → getO C' u = if u ∈ (nb.take j).filter (fun w => decide (¬ getO C v = some w)) then some v else getO C u)
    ⟨y5, C, rfl, k1.trans s3, atp, hc3, I.len, by simpa using hw3, fun u _ _ => by simp⟩ (fun j σ H4 _ h => ?_) (fun j x σ H4 hx h => ?_) (fun σ H4 h => ?_)
  · obtain ⟨_, _, _, _, hp, _⟩ := h
    exact SqT.of hp
  · obtain ⟨y5, C', rfl, sm4, hp, hc4, hl4, hw4, hC4⟩ := h
    rw [List.getElem?_map] at hx
    obtain ⟨w0, hw0, rfl⟩ := Option.map_eq_some_iff.mp hx
    have ad := (nbm w0).mp (List.mem_of_getElem? hw0)
    have rw0 := W.rng w0 v ad.symm
    have wv : v ≠ w0 := W.ne v w0 ad
    have tk : (nb.take (j + 1)).filter (fun w => decide (¬ getO C v = some w)) = (nb.take j).filter (fun w => decide (¬ getO C v = some w)) ++ [w0].filter (fun w => decide (¬ getO C v = some w)) := by
      rw [List.take_add_one, hw0, List.filter_append]
      rfl
    have vnot : v ∉ (nb.take j).filter (fun w => decide (¬ getO C v = some w)) := fun h => W.ne v v ((nbm v).mp (List.mem_of_mem_take (List.mem_filter.mp h).1)) rfl
    have cv : getO C' v = getO C v := by rw [hC4 v rv.1 rv.2, if_neg vnot]
    refine ⟨_, rfl, _, rfl, _, rfl, oc, _, _, _, rfl, rfl, SqL.of hc4, getO_at rv.1 (by omega), ?_, _, rfl, ite2 (fun c => ?_) (fun c => ?_)⟩
    · rw [cv]
      cases getO C v <;> rfl
    · have hne : ¬ getO C v = some w0 := fun z => by
        rw [cv, z] at c
        have : decide (V.int w0 = optV (some w0)) = true := decide_eq_true rfl
        rw [this] at c
        cases c
      have one : [w0].filter (fun w => decide (¬ getO C v = some w)) = [w0] := by simp [hne]
      have ix : ixN (C'.map optV).length w0 = some w0.toNat := by
        rw [List.length_map]
        unfold ixN
        rw [if_pos rw0.1, if_pos (by omega)]
      refine ⟨_, rfl, _, rfl, _, rfl, oc, _, _, w0.toNat, rfl, rfl, hc4, ix, ?_⟩
      have hw5 := (upd_ne (o := HO.lst ((C'.map optV).set w0.toNat (V.int v))) cw.symm).trans hw4
      refine ⟨_, rfl, .inl ⟨rfl, _, SqL.of hw5⟩, _, rfl, ow, _, _, rfl, rfl, hw5, ?_, ?_⟩
      · rw [List.length_map, List.length_append]
        have := List.length_filter_le (fun w => decide (¬ getO C v = some w)) (nb.take j)
        rw [List.length_take] at this
        exact small1000 (by omega)
      have em : (C'.map optV).set w0.toNat (V.int v) = (C'.set w0.toNat (some v)).map optV := by rw [List.map_set]; rfl
      refine ⟨_, C'.set w0.toNat (some v), rfl, fun b u eb => ?_, ?_, ?_, by rw [List.length_set]; exact hl4, ?_, fun u u0 u1 => ?_⟩
      · exact (upd_ne (ne_of_none eb freew)).trans ((upd_ne (ne_of_none eb noc)).trans (sm4 b u eb))
      · exact (upd_ne pow).trans ((upd_ne poc).trans hp)
      · rw [← em]
        exact (upd_ne cw).trans upd_same
      · rw [tk, one, ← List.append_assoc, List.map_append (l₁ := Wt' ++ _)]
        exact upd_same
      · rw [getO_set u0 (by omega) rw0.1, hC4 u u0 u1, tk, one]
        by_cases e : u = w0
        · rw [if_pos e, if_pos (by rw [e]; simp)]
        · rw [if_neg e]
          have : (u ∈ (nb.take j).filter (fun w => decide (¬ getO C v = some w)) ++ [w0]) ↔ u ∈ (nb.take j).filter (fun w => decide (¬ getO C v = some w)) := by
            rw [List.mem_append]
            exact ⟨fun h => h.elim id fun h => absurd (by simpa using h) e, .inl⟩
          by_cases h : u ∈ (nb.take j).filter (fun w => decide (¬ getO C v = some w))
          · rw [if_pos h, if_pos (this.mpr h)]
          · rw [if_neg h, if_neg (fun z => h (this.mp z))]
    · have heq : getO C v = some w0 := by
        rw [cv] at c
        cases e : getO C v with
        | none => rw [e] at c; exact absurd rfl c
        | some z =>
          rw [e] at c
          cases e2 : decide (V.int w0 = optV (some z)) with
          | true =>
            have := V.int.inj (of_decide_eq_true e2)
            rw [this]
          | false => rw [e2] at c; exact absurd rfl c
      have none' : [w0].filter (fun w => decide (¬ getO C v = some w)) = [] := by simp [heq]
      refine ⟨_, C', rfl, sm4, hp, hc4, hl4, ?_, fun u u0 u1 => ?_⟩
      · rw [tk, none', List.append_nil]
        exact hw4
      · rw [tk, none', List.append_nil]
        exact hC4 u u0 u1
  · obtain ⟨y5, C', rfl, sm4, hp, hc4, hl4, hw4, hC4⟩ := h
    rw [List.length_map, List.take_length] at hw4 hC4
    refine ⟨n - (v :: E).length, ?_, v :: E, _, C', _, _, rfl, sm4, hc4, hw4, I.next W nbm nbd hl4 hC4, rfl⟩
    rw [List.length_cons]
    omega
end
end Tr

namespace Tr
open PySem PySem.Spec PyProof.Rows L2
abbrev s_path_between : Stmt := topS 3
theorem sc_path_between : FnScope ["tree", "one", "other", "callers", "path"] ["tree", "one", "other"] (defScope s_path_between) := ⟨rfl, rfl, rfl, by decide +kernel, rfl, by decide +kernel, by decide +kernel⟩
theorem path_range {n : Nat} {es : List Ed} (W : Wood n es) {s u : Int} {l : List Int} (p : PathTo es s u l) (hu : 0 ≤ u ∧ u < (n : Int)) : ∀ x ∈ l, 0 ≤ x ∧ x < (n : Int) := by
  induction p with
  | here =>
    intro x hx
    have : x = s := by simpa using hx
    rw [this]
    exact hu
  | step h q ih =>
    intro x hx
    rcases List.mem_cons.mp hx with e | hx
    · rw [e]; exact hu
    · exact ih (W.rng _ _ h.1.symm) x hx
/-- path_between -/
def sp_path_between : Sp := fun vs H Q _ => ∃ (t : Addr) (n : Nat) (es : List Ed) (u s : Int), vs = [.ref t, .int u, .int s] ∧ TrAt H t n es ∧ es.length ≤ 31 ∧ n ≤ 31 ∧ Wood n es ∧ 0 ≤ u ∧ u < (n : Int) ∧ 0 ≤ s ∧ s < (n : Int) ∧
  ∀ (H' : Hp) (p : Addr) (l : List Int), PathTo es s u l → l.length ≤ n → H p = none → H' p = some (.tup (l.map V.int)) → Same H H' → Q (.ref p) H'
section
variable {P : Program} {w : World} {K : PySem.W.Frag} {mg : Str → Option Value} {base : Heap}
theorem ok_path_between (bt : Bt mg) (c_callers_of : Cal P w K mg base "callers_of" ["tree", "source"] 2 sp_callers_of) {f : Addr} {fd : FuncData} (F : Fun K "path_between" "path_between" s_path_between f fd) :
    FnG P w K mg base CX0 3 f fd ["tree", "one", "other"] sp_path_between := by
  obtain ⟨f_callers_of, fd_callers_of, G_callers_of, m_callers_of, k_callers_of, b_callers_of⟩ := c_callers_of
  refine fnG F sc_path_between (fun vs H Q E h => ?_) (fun cdv A outer s0 H vs Q E hr gg h => ?_)
  · obtain ⟨t, n, es, u, s, rfl, _⟩ := h
    rfl
  obtain ⟨t, n, es, u, s, rfl, tr, hl, hn, W, u0, u1, r0, r1, q⟩ := h
  obtain ⟨L, pth, Ln⟩ := W.path (s := s) (u := u) ⟨r0, r1⟩ ⟨u0, u1⟩
  obtain ⟨Lr, eL⟩ := pth.head
  have rngL := path_range W pth ⟨u0, u1⟩
  have ndL := W.path_nodup pth
  refine ⟨_, (pss_cons (ps_set (i := 3) sc_path_between.nd rfl (.inl rfl) (pe_callG G_callers_of gg (hr.mono (by first | decide | omega)) (by rfl) m_callers_of k_callers_of b_callers_of .nil pass0 (pa_cons (pv 0) (pa_cons (pv 2) pa_nil))))
      (pss_cons (ps_set (i := 4) sc_path_between.nd rfl (.inl rfl) (pe_lst (pa_cons (pv 1) pa_nil)))
      (pss_cons (ps_while PassesOwn.never (pt_cmpR (op_ne) (pe_ix ix_list (pv 4) (pe_un un_neg pe_int) (fun _ _ => rfl)) (pv 2) (nomark _)) (pss_one (ps_expr (pe_bm PySem.F.plainAttrs_list PySem.F.slot_list_append PySem.F.type_list_append mt_append (pv 4) (pa_cons (pe_ix ix_list (pv 3) (pe_ix ix_list (pv 4) (pe_un un_neg pe_int) (fun _ _ => rfl)) (fun _ _ => rfl)) pa_nil)))))
      (pss_one (ps_ret (pe_callTy (call_tuple_of) (by rfl) bt.tuple bb_tuple (pa_cons (pv 4) pa_nil))))))), ?_⟩
  refine ⟨_, rfl, _, rfl, t, n, es, s, rfl, tr, hl, hn, W, r0, r1, fun H1 oc C cal foc hoc s1 => ?_⟩
  refine ⟨_, rfl, (by show 1 ≤ sizeLine; decide), fun op nop => ?_⟩
  have s2 := same_new (o := .lst [.int u]) nop
  have cp : oc ≠ op := ne_of_none hoc nop
  have freep : H op = none := s1.free nop
  refine ⟨fun m σ H' => ∃ i, i < L.length ∧ m = L.length - i ∧ σ = [some (.ref t), some (.int u), some (.int s), some (.ref oc), some (.ref op)] ∧ Same H H' ∧ H' oc = some (.lst (C.map optV)) ∧ H' op = some (.lst ((L.take (i + 1)).map V.int)),
    ⟨L.length, 0, by rw [eL]; simp, rfl, rfl, s1.trans s2, s2 _ _ hoc, by rw [eL]; exact upd_same⟩, fun m σ H' h => ?_⟩
  obtain ⟨i, hi, hm, rfl, sm, hc, hp⟩ := h
  have tk : L.take (i + 1) = L.take i ++ [L[i]] := by
    rw [List.take_add_one, List.getElem?_eq_getElem hi]
    rfl
  have last : atI ((L.take (i + 1)).map V.int) (-1) = some (.int L[i]) := by
    rw [tk, List.map_append]
    exact atI_last _ _
  have ri := rngL _ (List.getElem_mem hi)
  refine ⟨_, rfl, 1, rfl, op, _, -1, _, rfl, rfl, SqL.of hp, last, _, rfl, rfl, _, rfl, ite2 (fun c => ?_) (fun c => ?_)⟩
  · have hne : L[i] ≠ s := fun z => by
      have : decide (V.int L[i] = V.int s) = true := decide_eq_true (congrArg V.int z)
      rw [this] at c
      cases c
    have hi2 : i + 1 < L.length := Decidable.byContradiction fun z => by
      have e1 : i = L.length - 1 := by omega
      have := pth.last
      rw [List.getLast?_eq_getElem?, ← e1, List.getElem?_eq_getElem hi] at this
      exact hne (Option.some.inj this)
    obtain ⟨c', hc', nx'⟩ := cal.2.2 L[i] ri.1 ri.2 hne
    have nx := pth.at i L[i] L[i + 1] (List.getElem?_eq_getElem hi) (List.getElem?_eq_getElem hi2)
    have e := W.nx_uniq nx' nx
    subst e
    have hlen := cal.1
    have at1 : atI (C.map optV) L[i] = some (.int L[i + 1]) := by
      rw [getO_at ri.1 (by omega), hc']
      rfl
    refine ⟨fun σ H2 => ∃ m', m' < m ∧ ∃ i, i < L.length ∧ m' = L.length - i ∧ σ = [some (.ref t), some (.int u), some (.int s), some (.ref oc), some (.ref op)] ∧ Same H H2 ∧ H2 oc = some (.lst (C.map optV)) ∧ H2 op = some (.lst ((L.take (i + 1)).map V.int)), fun σ H2 h => h, ?_⟩
    refine ⟨_, rfl, .inl ⟨rfl, _, SqL.of hp⟩, _, rfl, _, rfl, 1, rfl, op, _, -1, _, rfl, rfl, SqL.of hp, last, oc, _, _, _, rfl, rfl, SqL.of hc, at1, op, _, _, rfl, rfl, hp, ?_, ?_⟩
    · rw [List.length_map, List.length_take]
      exact small1000 (by omega)
    · refine ⟨L.length - (i + 1), by omega, i + 1, hi2, rfl, rfl, fun b x eb => (upd_ne (ne_of_none eb freep)).trans (sm b x eb), (upd_ne cp).trans hc, ?_⟩
      have tk2 : L.take (i + 1 + 1) = L.take (i + 1) ++ [L[i + 1]] := by
        rw [List.take_add_one (i := i + 1), List.getElem?_eq_getElem hi2]
        rfl
      rw [tk2, List.map_append]
      exact upd_same
  · have heq : L[i] = s := by
      cases e : decide (V.int L[i] = V.int s) with
      | true => exact V.int.inj (of_decide_eq_true e)
      | false => rw [e] at c; exact absurd rfl c
    have endL : i + 1 = L.length := by
      have := pth.last
      rw [List.getLast?_eq_getElem?] at this
      have := nd_ix ndL this (heq ▸ List.getElem?_eq_getElem hi)
      omega
    rw [endL, List.take_length] at hp
    refine ⟨_, rfl, op, _, rfl, .inl ⟨SqL.of hp, fun z hz => ?_⟩⟩
    exact q _ z L pth Ln (sm.free hz) upd_same (sm.trans (same_new hz))
end
end Tr

namespace Tr
open PySem PySem.Spec PyProof.Rows L2
abbrev s_delay_between : Stmt := topS 5
theorem sc_delay_between : FnScope ["tree", "vertex", "away", "delays", "one", "other", "delay"] ["tree", "vertex", "away"] (defScope s_delay_between) := ⟨rfl, rfl, rfl, by decide +kernel, rfl, by decide +kernel, by decide +kernel⟩
/-- the delays by pairs -/
def pairK (e : Ed) : List Key := [.inl e.1, .inl e.2.1]
def delD (es : List Ed) : List (List Key × V) := es.foldl (fun d e => putK d (pairK e) (.int e.2.2)) []
theorem delD_snoc (es : List Ed) (e : Ed) : delD (es ++ [e]) = putK (delD es) (pairK e) (.int e.2.2) := by
  unfold delD
  rw [List.foldl_append]
  rfl
theorem delD_len : ∀ es : List Ed, (delD es).length ≤ es.length := by
  suffices h : ∀ (es : List Ed) (d : List (List Key × V)), (es.foldl (fun d e => putK d (pairK e) (.int e.2.2)) d).length ≤ d.length + es.length by
    intro es
    have := h es []
    simp only [List.length_nil, Nat.zero_add] at this
    exact this
  intro es
  induction es with
  | nil => intro d; exact Nat.le_refl _
  | cons e es ih =>
    intro d
    have h1 := ih (putK d (pairK e) (.int e.2.2))
    have h2 := length_putK d (pairK e) (V.int e.2.2)
    rw [List.foldl_cons, List.length_cons]
    omega
theorem delD_val {x y w : Int} : ∀ {es : List Ed} (d : List (List Key × V)), (∀ e ∈ es, e.1 = x → e.2.1 = y → e.2.2 = w) → ((∃ e ∈ es, e.1 = x ∧ e.2.1 = y) ∨ valV d [.inl x, .inl y] = some (.int w)) →
    valV (es.foldl (fun d e => putK d (pairK e) (.int e.2.2)) d) [.inl x, .inl y] = some (.int w)
  | [], d, _, h => h.elim (fun ⟨e, he, _⟩ => by cases he) id
  | e :: es, d, u, h => by
    rw [List.foldl_cons]
    refine delD_val _ (fun f hf => u f (List.mem_cons_of_mem _ hf)) ?_
    rw [valV_put]
    by_cases c : e.1 = x ∧ e.2.1 = y
    · have k : ([.inl x, .inl y] : List Key) = pairK e := by unfold pairK; rw [c.1, c.2]
      rw [if_pos k, u e List.mem_cons_self c.1 c.2]
      exact .inr rfl
    · have k : ¬ ([.inl x, .inl y] : List Key) = pairK e := fun z => by
        unfold pairK at z
        simp only [List.cons.injEq, Sum.inl.injEq, and_true] at z
        exact c ⟨z.1.symm, z.2.symm⟩
      rw [if_neg k]
      rcases h with ⟨f, hf, hh⟩ | h
      · rcases List.mem_cons.mp hf with z | hf
        · exact absurd (z ▸ hh) c
        · exact .inl ⟨f, hf, hh⟩
      · exact .inr h
/-- delay_between -/
def sp_delay_between : Sp := fun vs H Q _ => ∃ (t : Addr) (n : Nat) (es : List Ed) (a b w : Int), vs = [.ref t, .int a, .int b] ∧ TrAt H t n es ∧ es.length ≤ 31 ∧ (∃ e ∈ es, e.1 = mnI a b ∧ e.2.1 = mxI a b) ∧ (∀ e ∈ es, e.1 = mnI a b → e.2.1 = mxI a b → e.2.2 = w) ∧
  ∀ (H' : Hp), Same H H' → Q (.int w) H'
section
variable {P : Program} {w : World} {K : PySem.W.Frag} {mg : Str → Option Value} {base : Heap}
theorem ok_delay_between (bt : Bt mg) {f : Addr} {fd : FuncData} (F : Fun K "delay_between" "delay_between" s_delay_between f fd) : FnG P w K mg base CX0 1 f fd ["tree", "vertex", "away"] sp_delay_between := by
  refine fnG F sc_delay_between (fun vs H Q E h => ?_) (fun cdv A outer s H vs Q E hr gg h => ?_)
  · obtain ⟨t, n, es, a, b, wt, rfl, _⟩ := h
    rfl
  obtain ⟨t, n, es, a, b, wt, rfl, ⟨q0, as, ht, hq, he⟩, hl, hex, huq, q⟩ := h
  refine ⟨_, (pss_cons (ps_setDcT (i := 3) (hu := Nat.lt_of_le_of_lt (Nat.le_add_right _ _) hr.units) (own := [("one", 4), ("other", 5), ("delay", 6)]) (tt := tYes) rfl sc_delay_between.nd rfl rfl (sw_dict rfl rfl rfl (by decide +kernel)) (pi_tup (pe_ix ix_tup (pv 0) pe_int (fun _ _ => rfl))) (blkOk_by (own := [("one", 4), ("other", 5), ("delay", 6)]) (N := ["tree", "vertex", "away", "delays", "one", "other", "delay"]) (sc := defScope s_delay_between) (by decide +kernel)) (fun _ _ _ _ _ => (pg_tup rfl (pgs_cons (pg_name (i := 4) sc_delay_between.nd rfl (.inl rfl)) (pgs_cons (pg_name (i := 5) sc_delay_between.nd rfl (.inl rfl)) (pgs_cons (pg_name (i := 6) sc_delay_between.nd rfl (.inl rfl)) pgs_nil))) : PG _ _ (gTup K 3 _))) (fun _ _ _ _ _ => pts_nil) (fun _ _ _ _ _ => (pe_tup (pa_cons (pv 4) (pa_cons (pv 5) pa_nil)))) (fun _ _ _ _ _ => (pv 6)))
      (pss_one (ps_ret (pe_dget (Nat.lt_of_le_of_lt (Nat.add_le_add_left (by decide) _) hr.units) (pv 3) (pe_tup (pa_cons (pe_callB (call_min2 rfl) (by rfl) bt.min bb_min (pa_cons (pv 1) (pa_cons (pv 2) pa_nil))) (pa_cons (pe_callB (call_max2 rfl) (by rfl) bt.max bb_max (pa_cons (pv 1) (pa_cons (pv 2) pa_nil))) pa_nil))) (fun _ _ => rfl))))), ?_⟩
  refine ⟨_, rfl, t, _, 1, .ref q0, rfl, rfl, SqT.of ht, atI_nat (j := 1) rfl, q0, rfl, ⟨_, SqT.of hq⟩, fun D nD => ?_⟩
  have hla := he.length
  refine dcT_tup (K := K) (a := q0) (xs := as.map V.ref) (fun i H' => i ≤ es.length ∧ Same H H' ∧ H' D = some (.dT (delD (es.take i))))
    ⟨Nat.zero_le _, same_new nD, upd_same⟩ (fun i H' _ h => SqT.of (h.2.1 _ _ hq)) (fun i x H' hx h => ?_) (fun H' h => ?_)
  · obtain ⟨hi, sm, hD⟩ := h
    rw [List.getElem?_map] at hx
    obtain ⟨z, hz, rfl⟩ := Option.map_eq_some_iff.mp hx
    obtain ⟨e, hee, hae⟩ := he.get' hz
    have hlt : i < es.length := (List.getElem?_eq_some_iff.mp hee).1
    refine ⟨z, _, rfl, SqT.of (sm _ _ hae), rfl, _, _, rfl, _, _, rfl, _, _, rfl, rfl, rfl, ?_⟩
    refine ⟨_, rfl, _, rfl, (by show 2 ≤ sizeLine; decide), fun p hp => ?_⟩
    have Dp : D ≠ p := ne_of_none hD hp
    have len := delD_len (es.take i)
    rw [List.length_take] at len
    refine ⟨_, rfl, _, pairK e, p, rfl, upd_same, (upd_ne Dp).trans hD, Nat.lt_of_lt_of_le (show (delD (es.take i)).length < 1000 by omega) (by decide), hlt, ?_, ?_⟩
    · exact fun b u eb => (upd_ne (ne_of_none eb nD)).trans ((same_new hp) b u (sm b u eb))
    · rw [List.take_add_one, hee]
      show _ = some (HO.dT (delD (es.take i ++ [e])))
      rw [delD_snoc]
      exact upd_same
  · obtain ⟨_, sm, hD⟩ := h
    rw [List.length_map, hla, List.take_length] at hD
    refine ⟨_, rfl, _, rfl, _, rfl, _, _, rfl, _, rfl, _, rfl, _, _, rfl, (by show 2 ≤ sizeLine; decide), fun p hp => ?_⟩
    have Dp : D ≠ p := ne_of_none hD hp
    refine ⟨D, .int wt, rfl, ?_, ?_⟩
    · have g := DGet.t (k := [.inl (mnI a b), .inl (mxI a b)]) ((upd_ne Dp).trans hD) (upd_same (H := H') (a := p) (o := HO.tup [.int (mnI a b), .int (mxI a b)]))
      rw [show valV (delD es) [.inl (mnI a b), .inl (mxI a b)] = some (.int wt) from delD_val [] huq (.inl hex)] at g
      exact g
    · exact q _ (sm.trans (same_new hp))
end
end Tr

namespace Tr
open PySem PySem.Spec PyProof.Rows L2
abbrev s_distance_between : Stmt := topS 4
theorem sc_distance_between : FnScope ["tree", "one", "other", "path", "vertex", "away"] ["tree", "one", "other"] (defScope s_distance_between) := ⟨rfl, rfl, rfl, by decide +kernel, rfl, by decide +kernel, by decide +kernel⟩
/-- the smaller end of each edge stands first -/
def Ori (es : List Ed) : Prop := ∀ e ∈ es, e.1 < e.2.1
theorem IsTree.ori {n : Nat} {es : List Ed} (t : IsTree n es) : Ori es := fun e he => (t.edge e he).2.1
theorem IsTree.posE {n : Nat} {es : List Ed} (t : IsTree n es) : Pos es := fun e he => (t.edge e he).2.2.2.1
/-- the delays along a path -/
def stepsL (es : List Ed) (l : List Int) : List Int := (l.zip l.tail).map fun p => dlE es p.1 p.2
theorem steps_sum (es : List Ed) : ∀ l : List Int, (stepsL es l).sum = distL es l
  | [] => rfl
  | [_] => rfl
  | x :: y :: l => by
    rw [distL_cons, ← steps_sum es (y :: l)]
    rfl
theorem steps_len (es : List Ed) (l : List Int) : (stepsL es l).length = l.length - 1 := by
  unfold stepsL
  rw [List.length_map, List.length_zip, List.length_tail]
  omega
theorem steps_at (es : List Ed) {l : List Int} {i : Nat} {x y : Int} (hx : l[i]? = some x) (hy : l[i + 1]? = some y) : (stepsL es l)[i]? = some (dlE es x y) := by
  have e : (l.zip l.tail)[i]? = some (x, y) := List.getElem?_zip_eq_some.mpr ⟨hx, by rw [List.getElem?_tail]; exact hy⟩
  unfold stepsL
  rw [List.getElem?_map, e]
  rfl
theorem ends_ord {es : List Ed} (o : Ori es) {x y : Int} {e : Ed} (he : e ∈ es) (h : isE x y e = true) : e.1 = mnI x y ∧ e.2.1 = mxI x y := by
  have lt := o e he
  unfold mnI mxI
  rcases isE_iff.mp h with ⟨a, b⟩ | ⟨a, b⟩
  · rw [if_neg (by omega), if_pos (by omega)]
    exact ⟨a, b⟩
  · rw [if_pos (by omega), if_neg (by omega)]
    exact ⟨a, b⟩
theorem ord_ends {x y : Int} {e : Ed} (h1 : e.1 = mnI x y) (h2 : e.2.1 = mxI x y) : isE x y e = true := by
  unfold mnI at h1
  unfold mxI at h2
  refine isE_iff.mpr ?_
  by_cases c : y < x
  · rw [if_pos c] at h1
    rw [if_neg (by omega)] at h2
    exact .inr ⟨h1, h2⟩
  · rw [if_neg c] at h1
    by_cases c2 : y > x
    · rw [if_pos c2] at h2
      exact .inl ⟨h1, h2⟩
    · rw [if_neg c2] at h2
      exact .inl ⟨h1, by omega⟩
theorem walk_zip2 {K : PySem.W.Frag} {a b : Addr} {xs ys : List V} (hn : ys.length ≤ xs.length) : Walk (RZ.ItzT K a b) ys.length (fun H => SqT K H a xs ∧ SqT K H b ys) (YPair (fun i => xs[i]?) (fun i => ys[i]?)) := by
  refine ⟨fun i H hi q => ⟨xs, ys, xs[i], ys[i], q.1, q.2, List.getElem?_eq_getElem (by omega), List.getElem?_eq_getElem hi⟩, fun H q => ⟨xs, ys, q.1, q.2, .inr (Nat.le_refl _)⟩, fun i H v H' hi q y => ?_⟩
  obtain ⟨T, x, z, h1, h2, h3, h4, h5⟩ := y
  exact ⟨T, x, z, h1, h2, h3, h4 _ q.1, h5 _ q.2⟩
theorem cut1 {l : List Int} : cutV (l.map V.int) (some 1) none = l.tail.map V.int := by
  unfold cutV
  rw [List.length_map, show HT.sIx l.length 0 (some 1) = min 1 l.length from HT.sIx_nat l.length 0 1]
  show (((l.map V.int).drop (min 1 l.length)).take (l.length - min 1 l.length)) = _
  rw [List.take_of_length_le (by rw [List.length_drop, List.length_map]; omega), ← List.map_drop]
  cases l with
  | nil => rfl
  | cons a b =>
    rw [List.length_cons, show min 1 (b.length + 1) = 1 by omega]
    rfl
theorem cut1_ok {n : Nat} (h : 1 ≤ n) : ¬ (HT.sIx n 0 (some 1) = 0 ∧ HT.sIx n n none = n) := by
  rw [show HT.sIx n 0 (some 1) = min 1 n from HT.sIx_nat n 0 1]
  omega
/-- distance_between -/
def sp_distance_between : Sp := fun vs H Q _ => ∃ (t : Addr) (n : Nat) (es : List Ed) (u s : Int), vs = [.ref t, .int u, .int s] ∧ TrAt H t n es ∧ es.length ≤ 31 ∧ n ≤ 31 ∧ Wood n es ∧ Ori es ∧ 0 ≤ u ∧ u < (n : Int) ∧ 0 ≤ s ∧ s < (n : Int) ∧
  ∀ (H' : Hp) (l : List Int), PathTo es s u l → l.length ≤ n → Same H H' → Q (.int (distL es l)) H'
section
variable {P : Program} {w : World} {K : PySem.W.Frag} {mg : Str → Option Value} {base : Heap}
theorem ok_distance_between (bt : Bt mg) (c_path_between : Cal P w K mg base "path_between" ["tree", "one", "other"] 3 sp_path_between) (c_delay_between : Cal P w K mg base "delay_between" ["tree", "vertex", "away"] 1 sp_delay_between) {f : Addr} {fd : FuncData} (F : Fun K "distance_between" "distance_between" s_distance_between f fd) :
    FnG P w K mg base CX0 4 f fd ["tree", "one", "other"] sp_distance_between := by
  obtain ⟨f_path_between, fd_path_between, G_path_between, m_path_between, k_path_between, b_path_between⟩ := c_path_between
  obtain ⟨f_delay_between, fd_delay_between, G_delay_between, m_delay_between, k_delay_between, b_delay_between⟩ := c_delay_between
  refine fnG F sc_distance_between (fun vs H Q E h => ?_) (fun cdv A outer s0 H vs Q E hr gg h => ?_)
  · obtain ⟨t, n, es, u, s, rfl, _⟩ := h
    rfl
  obtain ⟨t, n, es, u, s, rfl, tr, hl, hn, W, ori, u0, u1, r0, r1, q⟩ := h
  refine ⟨_, (pss_cons (ps_set (i := 3) sc_distance_between.nd rfl (.inl rfl) (pe_callG G_path_between gg (hr.mono (by first | decide | omega)) (by rfl) m_path_between k_path_between b_path_between .nil pass0 (pa_cons (pv 0) (pa_cons (pv 1) (pa_cons (pv 2) pa_nil)))))
      (pss_one (ps_ret (pe_callB (cr_sum rfl) (by rfl) bt.sum bb_sum (pa_cons (pe_lc (own := [("vertex", 4), ("away", 5)]) (tt := tYes) rfl sc_distance_between.nd (RZ.pi_zipA (by rfl) bt.zip (pa_cons (pv 3) (pa_cons (pe_slice sl_tup (pv 3) (po_some pe_int) po_none) pa_nil))) (blkOk_by (own := [("vertex", 4), ("away", 5)]) (N := ["tree", "one", "other", "path", "vertex", "away"]) (sc := defScope s_distance_between) (by decide +kernel)) (fun _ _ _ _ _ => (pg_tup rfl (pgs_cons (pg_name (i := 4) sc_distance_between.nd rfl (.inl rfl)) (pgs_cons (pg_name (i := 5) sc_distance_between.nd rfl (.inl rfl)) pgs_nil)) : PG _ _ (gTup K 2 _))) (fun _ _ _ _ _ => pts_nil) (fun _ _ _ _ _ => (pe_callG G_delay_between gg (hr.mono (by first | decide | omega)) (by rfl) m_delay_between k_delay_between b_delay_between .nil pass0 (pa_cons (pv 0) (pa_cons (pv 4) (pa_cons (pv 5) pa_nil)))))) pa_nil))))), ?_⟩
  refine ⟨_, rfl, _, rfl, _, rfl, t, n, es, u, s, rfl, tr, hl, hn, W, u0, u1, r0, r1, fun H1 p L pth Ln fp atp s1 => ?_⟩
  obtain ⟨Lr, eL⟩ := pth.head
  have L1 : 1 ≤ L.length := by rw [eL]; simp
  refine ⟨_, rfl, _, rfl, 1, rfl, p, _, rfl, SqT.of atp, by rw [List.length_map]; exact cut1_ok L1, fun p2 fp2 => ?_⟩
  rw [cut1]
  have s2 := same_new (o := .tup (L.tail.map V.int)) fp2
  have at2 : (upd H1 p2 (.tup (L.tail.map V.int))) p2 = some (.tup (L.tail.map V.int)) := upd_same
  have at1 := s2 _ _ atp
  have s12 := s1.trans s2
  generalize upd H1 p2 (.tup (L.tail.map V.int)) = H2 at s12 at2 at1 ⊢
  refine ⟨p, p2, _, _, rfl, .inr ⟨SqT.of at1, SqT.of at2, fun Z nZ => ?_⟩⟩
  refine lc_it (walk_zip2 (K := K) (a := p) (b := p2) (xs := L.map V.int) (ys := L.tail.map V.int) (by rw [List.length_map, List.length_map, List.length_tail]; omega)) (fun i H' => i ≤ L.length - 1 ∧ Same H2 H' ∧ H' Z = some (.lst (((stepsL es L).take i).map V.int)))
    ⟨Nat.zero_le _, same_new nZ, upd_same⟩ (fun i H' _ h => ⟨SqT.of (h.2.1 _ _ at1), SqT.of (h.2.1 _ _ at2)⟩) (fun i x H' H3 hi h hy => ?_) (fun H' h => ?_)
  · obtain ⟨hi', sm, hZ⟩ := h
    obtain ⟨T, x1, y1, rfl, fT, rfl, ex, ey⟩ := hy
    rw [List.length_map, List.length_tail] at hi
    have ex' : L[i]? = some L[i] := List.getElem?_eq_getElem (by omega)
    have ey' : L[i + 1]? = some L[i + 1] := List.getElem?_eq_getElem (by omega)
    replace ex : (L.map V.int)[i]? = some x1 := ex
    replace ey : (L.tail.map V.int)[i]? = some y1 := ey
    rw [List.getElem?_map, ex'] at ex
    rw [List.getElem?_map, List.getElem?_tail, ey'] at ey
    obtain rfl : V.int L[i] = x1 := Option.some.inj ex
    obtain rfl : V.int L[i + 1] = y1 := Option.some.inj ey
    have ZT : Z ≠ T := ne_of_none hZ fT
    have sT := sm.trans (same_new (o := .tup [V.int L[i], V.int L[i + 1]]) fT)
    have nx := pth.at i _ _ ex' ey'
    obtain ⟨e, he, hh⟩ := adj_isE.mp nx.1
    refine ⟨T, _, rfl, SqT.of upd_same, rfl, _, _, rfl, _, _, rfl, rfl, rfl, ?_⟩
    refine ⟨_, rfl, _, rfl, _, rfl, t, n, es, L[i], L[i + 1], dlE es L[i] L[i + 1], rfl, (tr.same s12).same sT, hl, ⟨e, he, ends_ord ori he hh⟩, fun f hf h1 h2 => (W.dl hf (ord_ends h1 h2)).symm, fun H4 s4 => ?_⟩
    refine ⟨_, s4 _ _ ((upd_ne ZT).trans hZ), ?_, by omega, fun b o eb => (upd_ne (ne_of_none eb nZ)).trans (s4 b o (sT b o eb)), ?_⟩
    · rw [List.length_map, List.length_take]
      exact small1000 (by omega)
    · rw [List.take_add_one, steps_at es ex' ey', List.map_append]
      exact upd_same
  · obtain ⟨_, sm, hZ⟩ := h
    rw [List.length_map, List.length_tail, List.take_of_length_le (by rw [steps_len]; omega)] at hZ
    refine ⟨Z, _, rfl, SqL.of hZ, ?_⟩
    rw [steps_sum]
    exact q _ L pth Ln (s12.trans sm)
end
end Tr

namespace Tr
open PySem PySem.Spec PyProof.Rows L2
abbrev s_law_integer : Stmt := topS 10
theorem sc_law_integer : FnScope ["_law_value", "_law_low", "_law_high"] ["_law_value", "_law_low", "_law_high"] (defScope s_law_integer) := ⟨rfl, rfl, rfl, by decide +kernel, rfl, by decide +kernel, by decide +kernel⟩
abbrev s_law_sized : Stmt := topS 11
theorem sc_law_sized : FnScope ["_law_value", "_law_low", "_law_high"] ["_law_value", "_law_low", "_law_high"] (defScope s_law_sized) := ⟨rfl, rfl, rfl, by decide +kernel, rfl, by decide +kernel, by decide +kernel⟩
/-- _law_integer, of a number within the limits -/
def sp_law_integer : Sp := fun vs H Q _ => ∃ v lo hi : Int, vs = [.int v, .int lo, .int hi] ∧ lo ≤ v ∧ v ≤ hi ∧ Q (.bl true) H
/-- _law_sized, of a tuple with a size within the limits -/
def sp_law_sized (K : PySem.W.Frag) : Sp := fun vs H Q _ => ∃ (p : Addr) (xs : List V) (lo hi : Int), vs = [.ref p, .int lo, .int hi] ∧ SqT K H p xs ∧ lo ≤ (xs.length : Int) ∧ (xs.length : Int) ≤ hi ∧ Q (.bl true) H
section
variable {P : Program} {w : World} {K : PySem.W.Frag} {mg : Str → Option Value} {base : Heap}
theorem ok_law_integer (bt : Bt mg) {f : Addr} {fd : FuncData} (F : Fun K "_law_integer" "_law_integer" s_law_integer f fd) : FnG P w K mg base CX0 1 f fd ["_law_value", "_law_low", "_law_high"] sp_law_integer := by
  refine fnG F sc_law_integer (fun vs H Q E h => ?_) (fun cdv A outer s H vs Q E hr gg h => ?_)
  · obtain ⟨v, lo, hi, rfl, _⟩ := h
    rfl
  obtain ⟨v, lo, hi, rfl, h1, h2, q⟩ := h
  refine ⟨_, (pss_one (ps_ret (pe_and (pe_callB (call_isi) (by rfl) bt.isinstance bb_isinstance (pa_cons (pv 0) (pa_cons (pe_bltn (v := .ty "int") (by rfl) bt.int bb_int rfl) pa_nil))) (pe_and (pe_not (pe_callB (call_isi) (by rfl) bt.isinstance bb_isinstance (pa_cons (pv 0) (pa_cons (pe_bltn (v := .ty "bool") (by rfl) bt.bool bb_bool rfl) pa_nil)))) (pe_one (pe_chain op_le op_le (pv 1) (pv 0) (pv 2))))))), ?_⟩
  refine ⟨_, rfl, _, _, _, _, true, rfl, .ty _, (.base (.int v)), kit_ty (by decide +kernel), _, rfl, iteT ?_⟩
  refine ⟨_, rfl, _, _, _, _, false, rfl, .ty _, (.base (.int v)), kit_ty (by decide +kernel), _, rfl, _, rfl, iteT ?_⟩
  refine ⟨_, rfl, _, rfl, _, _, rfl, rfl, _, rfl, iteD h1 ⟨_, rfl, _, _, rfl, rfl, ?_⟩⟩
  exact q_dec h2 q
theorem ok_law_sized (bt : Bt mg) {f : Addr} {fd : FuncData} (F : Fun K "_law_sized" "_law_sized" s_law_sized f fd) : FnG P w K mg base CX0 1 f fd ["_law_value", "_law_low", "_law_high"] (sp_law_sized K) := by
  refine fnG F sc_law_sized (fun vs H Q E h => ?_) (fun cdv A outer s H vs Q E hr gg h => ?_)
  · obtain ⟨p, xs, lo, hi, rfl, _⟩ := h
    rfl
  obtain ⟨p, xs, lo, hi, rfl, sq, h1, h2, q⟩ := h
  refine ⟨_, (pss_one (ps_ret (pe_and (pe_callB (call_isi) (by rfl) bt.isinstance bb_isinstance (pa_cons (pv 0) (pa_cons (pe_bltn (v := .ty "tuple") (by rfl) bt.tuple bb_tuple rfl) pa_nil))) (pe_one (pe_chain op_le op_le (pv 1) (pe_callB (call_len_seq) (by rfl) bt.len bb_len (pa_cons (pv 0) pa_nil)) (pv 2)))))), ?_⟩
  refine ⟨_, rfl, _, _, _, _, true, rfl, .ty _, tyx_tup sq, kit_ty (by decide +kernel), _, rfl, iteT ?_⟩
  refine ⟨_, rfl, _, rfl, p, xs, rfl, .inr sq, _, _, rfl, rfl, _, rfl, iteD h1 ⟨_, rfl, _, _, rfl, rfl, ?_⟩⟩
  exact q_dec h2 q
end
end Tr

namespace Tr
open PySem PySem.Spec PyProof.Rows L2
abbrev s_law_edge : Stmt := topS 19
theorem sc_law_edge : FnScope ["_law_tree_here", "_law_one", "_law_other", "_law_pair", "_law_low", "_law_high", "_law_delay_here"] ["_law_tree_here", "_law_one", "_law_other"] (defScope s_law_edge) := ⟨rfl, rfl, rfl, by decide +kernel, rfl, by decide +kernel, by decide +kernel⟩
def pairIs (x y : Int) (e : Ed) : Bool := decide ([e.1, e.2.1] = [x, y])
/-- _law_edge -/
def sp_law_edge : Sp := fun vs H Q _ => ∃ (t : Addr) (n : Nat) (es : List Ed) (a b w : Int), vs = [.ref t, .int a, .int b] ∧ TrAt H t n es ∧ es.length ≤ 31 ∧ (∃ e ∈ es, e.1 = mnI a b ∧ e.2.1 = mxI a b) ∧ (∀ e ∈ es, e.1 = mnI a b → e.2.1 = mxI a b → e.2.2 = w) ∧
  ∀ (H' : Hp), Same H H' → Q (.int w) H'
section
variable {P : Program} {w : World} {K : PySem.W.Frag} {mg : Str → Option Value} {base : Heap}
theorem ok_law_edge (bt : Bt mg) {f : Addr} {fd : FuncData} (F : Fun K "_law_edge" "_law_edge" s_law_edge f fd) : FnG P w K mg base CX0 1 f fd ["_law_tree_here", "_law_one", "_law_other"] sp_law_edge := by
  refine fnG F sc_law_edge (fun vs H Q E h => ?_) (fun cdv A outer s H vs Q E hr gg h => ?_)
  · obtain ⟨t, n, es, a, b, wt, rfl, _⟩ := h
    rfl
  obtain ⟨t, n, es, a, b, wt, rfl, ⟨q0, as, ht, hq, he⟩, hl, hex, huq, q⟩ := h
  refine ⟨_, (pss_cons (ps_set (i := 3) sc_law_edge.nd rfl (.inr rfl) (pe_tup (pa_cons (pe_callB (call_min2 rfl) (by rfl) bt.min bb_min (pa_cons (pv 1) (pa_cons (pv 2) pa_nil))) (pa_cons (pe_callB (call_max2 rfl) (by rfl) bt.max bb_max (pa_cons (pv 1) (pa_cons (pv 2) pa_nil))) pa_nil))))
      (pss_one (ps_ret (pe_ix ix_list (pe_lc (own := [("_law_low", 4), ("_law_high", 5), ("_law_delay_here", 6)]) rfl sc_law_edge.nd (pi_tup (pe_ix ix_tup (pv 0) pe_int (fun _ _ => rfl))) (blkOk_by (own := [("_law_low", 4), ("_law_high", 5), ("_law_delay_here", 6)]) (N := ["_law_tree_here", "_law_one", "_law_other", "_law_pair", "_law_low", "_law_high", "_law_delay_here"]) (sc := defScope s_law_edge) (by decide +kernel)) (fun _ _ _ _ _ => (pg_tup rfl (pgs_cons (pg_name (i := 4) sc_law_edge.nd rfl (.inl rfl)) (pgs_cons (pg_name (i := 5) sc_law_edge.nd rfl (.inl rfl)) (pgs_cons (pg_name (i := 6) sc_law_edge.nd rfl (.inl rfl)) pgs_nil))) : PG _ _ (gTup K 3 _))) (fun _ _ _ _ _ => (pts_one (pt_cmpR ((op_eqD hr.units : OpR _ _ (rEqD K))) (pe_tup (pa_cons (pv 4) (pa_cons (pv 5) pa_nil))) (pv 3) (nomark _)))) (fun _ _ _ _ _ => (pv 6))) pe_int (fun _ _ => rfl))))), ?_⟩
  have hla := he.length
  refine ⟨_, rfl, _, rfl, _, _, rfl, _, rfl, _, rfl, _, _, rfl, (by show 2 ≤ sizeLine; decide), fun p hp => ?_⟩
  have s1 := same_new (o := .tup (([mnI a b, mxI a b] : List Int).map V.int)) hp
  have at1 : (upd H p (.tup (([mnI a b, mxI a b] : List Int).map V.int))) p = some (.tup (([mnI a b, mxI a b] : List Int).map V.int)) := upd_same
  show tSeq _ _ _ _ (upd H p (.tup (([mnI a b, mxI a b] : List Int).map V.int)))
  generalize upd H p (.tup (([mnI a b, mxI a b] : List Int).map V.int)) = H1 at s1 at1 ⊢
  refine ⟨_, rfl, t, _, 1, .ref q0, rfl, rfl, SqT.of (s1 _ _ ht), atI_nat (j := 1) rfl, q0, rfl, ⟨_, SqT.of (s1 _ _ hq)⟩, fun Z nZ => ?_⟩
  have hq1 := s1 _ _ hq
  have he1 := he.keep fun x ys ex => s1 x _ ex
  refine lc_tup (K := K) (a := q0) (xs := as.map V.ref) (fun i H' => Same H1 H' ∧ H' Z = some (.lst ((((es.take i).filter (pairIs (mnI a b) (mxI a b))).map (·.2.2)).map V.int)))
    ⟨same_new nZ, upd_same⟩ (fun i H' _ h => SqT.of (h.1 _ _ hq1)) (fun i x H' hx h => ?_) (fun H' h => ?_)
  · obtain ⟨sm, hZ⟩ := h
    rw [List.getElem?_map] at hx
    obtain ⟨z, hz, rfl⟩ := Option.map_eq_some_iff.mp hx
    obtain ⟨e, hee, hae⟩ := he1.get' hz
    refine ⟨z, _, rfl, SqT.of (sm _ _ hae), rfl, _, _, rfl, _, _, rfl, _, _, rfl, rfl, rfl, ?_⟩
    refine ⟨_, rfl, _, rfl, (by show 2 ≤ sizeLine; decide), fun p2 hp2 => ?_⟩
    have s2 := same_new (o := .tup (([e.1, e.2.1] : List Int).map V.int)) hp2
    have at2 : (upd H' p2 (.tup (([e.1, e.2.1] : List Int).map V.int))) p2 = some (.tup (([e.1, e.2.1] : List Int).map V.int)) := upd_same
    refine ⟨_, rfl, _, _, dpT at2, dpT (s2 _ _ (sm _ _ at1)), shT_ints _, shT_ints _, _, rfl, ?_⟩
    rw [eqvT_ints]
    have hZ2 := s2 _ _ hZ
    have tk := take_filter (p := pairIs (mnI a b) (mxI a b)) (f := (·.2.2)) hee
    refine ite2 (fun c1 => ?_) (fun c1 => ?_)
    · have c2 : pairIs (mnI a b) (mxI a b) e = true := c1
      rw [if_pos c2] at tk
      refine ⟨_, rfl, _, hZ2, ?_, fun y u eb => (upd_ne (ne_of_none eb nZ)).trans (s2 y u (sm y u eb)), ?_⟩
      · rw [List.length_map, List.length_map]
        have := List.length_filter_le (pairIs (mnI a b) (mxI a b)) (es.take i)
        rw [List.length_take] at this
        exact small1000 (by omega)
      · rw [tk, List.map_append]
        exact upd_same
    · have c2 : ¬ pairIs (mnI a b) (mxI a b) e = true := c1
      rw [if_neg c2, List.append_nil] at tk
      refine ⟨sm.trans s2, ?_⟩
      rw [tk]
      exact hZ2
  · obtain ⟨sm, hZ⟩ := h
    rw [List.length_map, hla, List.take_length] at hZ
    have is : ∀ {e : Ed}, pairIs (mnI a b) (mxI a b) e = true ↔ e.1 = mnI a b ∧ e.2.1 = mxI a b := fun {e} => by
      unfold pairIs
      rw [decide_eq_true_iff]
      simp only [List.cons.injEq, and_true]
    obtain ⟨e0, he0, k0⟩ := hex
    cases hF : es.filter (pairIs (mnI a b) (mxI a b)) with
    | nil => exact absurd (is.mpr k0) (by simpa using List.filter_eq_nil_iff.mp hF e0 he0)
    | cons e1 r =>
      have in1 : e1 ∈ es.filter (pairIs (mnI a b) (mxI a b)) := by rw [hF]; exact List.mem_cons_self
      obtain ⟨m1, m2⟩ := List.mem_filter.mp in1
      have w1 := huq e1 m1 (is.mp m2).1 (is.mp m2).2
      rw [hF] at hZ
      refine ⟨Z, _, 0, .int wt, rfl, rfl, SqL.of hZ, atI_nat (j := 0) (by rw [← w1]; rfl), ?_⟩
      exact q _ (s1.trans sm)
end
end Tr

namespace Tr
open PySem PySem.Spec PyProof.Rows L2
abbrev s_law_is_path : Stmt := topS 20
theorem sc_law_is_path : FnScope ["_law_tree_here", "_law_one", "_law_other", "_law_value", "_law_length", "_law_here", "_law_there", "_law_vertex"] ["_law_tree_here", "_law_one", "_law_other", "_law_value"] (defScope s_law_is_path) := ⟨rfl, rfl, rfl, by decide +kernel, rfl, by decide +kernel, by decide +kernel⟩
/-- _law_is_path, of a path -/
def sp_is_path : Sp := fun vs H Q _ => ∃ (t : Addr) (n : Nat) (es : List Ed) (u s : Int) (p : Addr) (l : List Int), vs = [.ref t, .int u, .int s, .ref p] ∧ TrAt H t n es ∧ IsTree n es ∧ n ≤ 16 ∧ (0 ≤ u ∧ u < (n : Int)) ∧
  PathTo es s u l ∧ l.length ≤ n ∧ H p = some (.tup (l.map V.int)) ∧ ∀ H', Same H H' → Q (.int (distL es l)) H'
section
variable {P : Program} {w : World} {K : PySem.W.Frag} {mg : Str → Option Value} {base : Heap}
theorem ok_is_path (bt : Bt mg) (c_law_sized : Cal P w K mg base "_law_sized" ["_law_value", "_law_low", "_law_high"] 1 (sp_law_sized K)) (c_law_integer : Cal P w K mg base "_law_integer" ["_law_value", "_law_low", "_law_high"] 1 sp_law_integer)
    (c_law_near : Cal P w K mg base "_law_near" ["_law_tree_here", "_law_vertex"] 1 sp_law_near) (c_law_edge : Cal P w K mg base "_law_edge" ["_law_tree_here", "_law_one", "_law_other"] 1 sp_law_edge)
    {f : Addr} {fd : FuncData} (F : Fun K "_law_is_path" "_law_is_path" s_law_is_path f fd) : FnG P w K mg base CX0 2 f fd ["_law_tree_here", "_law_one", "_law_other", "_law_value"] sp_is_path := by
  obtain ⟨f_law_sized, fd_law_sized, G_law_sized, m_law_sized, k_law_sized, b_law_sized⟩ := c_law_sized
  obtain ⟨f_law_integer, fd_law_integer, G_law_integer, m_law_integer, k_law_integer, b_law_integer⟩ := c_law_integer
  obtain ⟨f_law_near, fd_law_near, G_law_near, m_law_near, k_law_near, b_law_near⟩ := c_law_near
  obtain ⟨f_law_edge, fd_law_edge, G_law_edge, m_law_edge, k_law_edge, b_law_edge⟩ := c_law_edge
  refine fnG F sc_law_is_path (fun vs H Q E h => ?_) (fun cdv A outer s0 H vs Q E hr gg h => ?_)
  · obtain ⟨t, n, es, u, s, p, l, rfl, _⟩ := h
    rfl
  obtain ⟨t, n, es, u, s, p, L, rfl, tr, tree, hn, ru, pth, Ln, hp, q⟩ := h
  obtain ⟨q0, as, ht, hq, he⟩ := id tr
  have W := tree.wood
  have ori := tree.ori
  have hl := tree.len
  obtain ⟨Lr, eL⟩ := pth.head
  have L1 : 1 ≤ L.length := by rw [eL]; simp
  have rL := path_range W pth ru
  have ndL := W.path_nodup pth
  refine ⟨_, (pss_cons (ps_if (PW.pt (pw_or (pt_not (pt_val (pe_callG G_law_sized gg (hr.mono (by first | decide | omega)) (by rfl) m_law_sized k_law_sized b_law_sized .nil pass0 (pa_cons (pv 3) (pa_cons pe_int (pa_cons (pe_ix ix_tup (pv 0) pe_int (fun _ _ => rfl)) pa_nil)))))) (pw_or (pt_cmpR (op_ne) (pe_ix ix_tup (pv 3) pe_int (fun _ _ => rfl)) (pv 1) (nomark _)) (pw_or1 (pt_cmpR (op_ne) (pe_ix ix_tup (pv 3) (pe_un un_neg pe_int) (fun _ _ => rfl)) (pv 2) (nomark _)))))) (pss_one (ps_ret pe_non)) pss_nil)
      (pss_cons (ps_if (PW.pt (pw_or (pt_cmpR (op_neD hr.units) (pe_lc (own := [("_law_vertex", 7)]) rfl sc_law_is_path.nd (pi_tup (pv 3)) (blkOk_by (own := [("_law_vertex", 7)]) (N := ["_law_tree_here", "_law_one", "_law_other", "_law_value", "_law_length", "_law_here", "_law_there", "_law_vertex"]) (sc := defScope s_law_is_path) (by decide +kernel)) (fun _ _ _ _ _ => (pg_name (i := 7) sc_law_is_path.nd rfl (.inl rfl))) (fun _ _ _ _ _ => (pts_one (pt_not (pt_val (pe_callG G_law_integer gg (hr.mono (by first | decide | omega)) (by rfl) m_law_integer k_law_integer b_law_integer .nil pass0 (pa_cons (pv 7) (pa_cons pe_int (pa_cons (pe_op (op_sub) (pe_ix (ix_tup : IxR _ (rIxT K)) (pv 0) pe_int (fun _ _ => rfl)) pe_int) pa_nil)))))))) (fun _ _ _ _ _ => (pv 7))) (pe_lst pa_nil) (nomark _)) (pw_or1 (pt_cmpR (op_ne) (pe_callB (cr_lenO) (by rfl) bt.len bb_len (pa_cons (pe_callTy (cr_setTN rfl) (by rfl) bt.set bb_set (pa_cons (pv 3) pa_nil)) pa_nil)) (pe_callB (call_len_seq) (by rfl) bt.len bb_len (pa_cons (pv 3) pa_nil)) (nomark _))))) (pss_one (ps_ret pe_non)) pss_nil)
      (pss_cons (ps_set (i := 4) sc_law_is_path.nd rfl (.inl rfl) pe_int)
      (pss_cons (ps_for PassesOwn.never rfl (RZ.pi_zipA (by rfl) bt.zip (pa_cons (pv 3) (pa_cons (pe_slice sl_tup (pv 3) (po_some pe_int) po_none) pa_nil))) (pg_tup rfl (pgs_cons (pg_name (i := 5) sc_law_is_path.nd rfl (.inl rfl)) (pgs_cons (pg_name (i := 6) sc_law_is_path.nd rfl (.inl rfl)) pgs_nil)))
        (pss_cons (ps_if (pt_cmpR (op_notIn_seq) (pv 6) (pe_callG G_law_near gg (hr.mono (by first | decide | omega)) (by rfl) m_law_near k_law_near b_law_near .nil pass0 (pa_cons (pv 0) (pa_cons (pv 5) pa_nil))) (by rfl)) (pss_one (ps_ret pe_non)) pss_nil)
      (pss_one (ps_set (i := 4) sc_law_is_path.nd rfl (.inl rfl) (pe_op (op_add) (pv 4) (pe_callG G_law_edge gg (hr.mono (by first | decide | omega)) (by rfl) m_law_edge k_law_edge b_law_edge .nil pass0 (pa_cons (pv 0) (pa_cons (pv 5) (pa_cons (pv 6) pa_nil)))))))))
      (pss_one (ps_ret (pv 4))))))), ?_⟩
  refine ⟨_, rfl, _, rfl, t, _, 0, .int n, rfl, rfl, SqT.of ht, atI_nat (j := 0) rfl, ?_⟩
  refine ⟨p, _, 1, n, rfl, SqT.of hp, by rw [List.length_map]; omega, by rw [List.length_map]; omega, ⟨_, rfl, iteNT ?_⟩⟩
  refine ⟨_, rfl, p, _, 0, .int u, rfl, rfl, SqT.of hp, atI_nat (j := 0) (by rw [eL]; rfl), _, rfl, rfl, _, rfl, iteNS rfl ?_⟩
  have lastL : atI (L.map V.int) (-1) = some (.int s) := by
    have e : L = L.dropLast ++ [s] := by
      have ne : L ≠ [] := by rw [eL]; simp
      have k := List.dropLast_concat_getLast ne
      have g := pth.last
      rw [List.getLast?_eq_some_getLast ne] at g
      rw [Option.some.inj g] at k
      exact k.symm
    rw [e, List.map_append]
    exact atI_last _ _
  refine ⟨_, rfl, 1, rfl, p, _, -1, .int s, rfl, rfl, SqT.of hp, lastL, _, rfl, rfl, _, rfl, iteNS rfl ?_⟩
  -- all are vertices, each one once
  refine ⟨_, rfl, p, rfl, ⟨_, SqT.of hp⟩, fun Z nZ => ?_⟩
  refine lc_tup (K := K) (a := p) (xs := L.map V.int) (fun i H' => Same H H' ∧ H' Z = some (.lst (([] : List Int).map V.int)))
    ⟨same_new nZ, upd_same⟩ (fun i H' _ h => SqT.of (h.1 _ _ hp)) (fun i x H' hx h => ?_) (fun H1 h => ?_)
  · obtain ⟨sm, hZ⟩ := h
    rw [List.getElem?_map] at hx
    obtain ⟨v, hv, rfl⟩ := Option.map_eq_some_iff.mp hx
    have rv := rL v (List.mem_of_getElem? hv)
    refine ⟨rfl, _, rfl, _, rfl, t, _, 0, .int n, rfl, rfl, SqT.of (sm _ _ ht), atI_nat (j := 0) rfl, _, _, rfl, rfl, v, 0, _, rfl, rv.1, by omega, ⟨_, rfl, iteNT ⟨sm, hZ⟩⟩⟩
  obtain ⟨s1, hZ⟩ := h
  refine ⟨(by show 0 ≤ sizeLine; decide), fun z hz => ?_⟩
  have s2 := same_new (o := .lst []) hz
  refine ⟨_, _, dpL (l := []) (s2 _ _ hZ), dpL (l := []) upd_same, shL_ints _, shL_ints _, _, rfl, ?_⟩
  rw [eqvL_ints]
  refine iteNS rfl ?_
  have s12 := s1.trans s2
  generalize upd H1 z (.lst []) = H2 at s12 ⊢
  refine ⟨_, rfl, p, L, rfl, SqT.of (s12 _ _ hp), by omega, ndL, fun o ho => ⟨o, _, _, rfl, upd_same, by omega, ?_⟩⟩
  have s3 := s12.trans (same_new (o := SetO w o (fun j => decide (j ∈ L)) L.length) ho)
  refine ⟨_, rfl, p, _, rfl, .inr (SqT.of (s3 _ _ hp)), rfl, _, rfl, iteNS (by rw [List.length_map]) ?_⟩
  -- along the path
  refine ⟨_, rfl, _, rfl, 1, rfl, p, _, rfl, SqT.of (s3 _ _ hp), by rw [List.length_map]; exact cut1_ok L1, fun p2 fp2 => ?_⟩
  rw [cut1]
  have s4 := s3.trans (same_new (o := .tup (L.tail.map V.int)) fp2)
  refine ⟨p, p2, _, _, rfl, .inr ⟨SqT.of (s4 _ _ hp), SqT.of upd_same, ?_⟩⟩
  refine for_it (walk_zip2 (K := K) (a := p) (b := p2) (xs := L.map V.int) (ys := L.tail.map V.int) (by rw [List.length_map, List.length_map, List.length_tail]; omega)) (fun i σ H' => i ≤ L.length - 1 ∧ Same H H' ∧ H' p2 = some (.tup (L.tail.map V.int)) ∧ ∃ y5 y6 y7, σ = [some (.ref t), some (.int u), some (.int s), some (.ref p), some (.int ((stepsL es L).take i).sum), y5, y6, y7])
    ⟨Nat.zero_le _, s4, upd_same, _, _, _, rfl⟩ (fun i σ H' _ h => ?_) (fun i x σ H' H5 hi h hy => ?_) (fun σ H' h => ?_)
  · exact ⟨SqT.of (h.2.1 _ _ hp), SqT.of h.2.2.1⟩
  · obtain ⟨_, sm, at2, y5, y6, y7, rfl⟩ := h
    obtain ⟨T, x1, y1, rfl, fT, rfl, ex, ey⟩ := hy
    rw [List.length_map, List.length_tail] at hi
    have ex' : L[i]? = some L[i] := List.getElem?_eq_getElem (by omega)
    have ey' : L[i + 1]? = some L[i + 1] := List.getElem?_eq_getElem (by omega)
    replace ex : (L.map V.int)[i]? = some x1 := ex
    replace ey : (L.tail.map V.int)[i]? = some y1 := ey
    rw [List.getElem?_map, ex'] at ex
    rw [List.getElem?_map, List.getElem?_tail, ey'] at ey
    obtain rfl : V.int L[i] = x1 := Option.some.inj ex
    obtain rfl : V.int L[i + 1] = y1 := Option.some.inj ey
    have sT := sm.trans (same_new (o := .tup [V.int L[i], V.int L[i + 1]]) fT)
    have nx := pth.at i _ _ ex' ey'
    obtain ⟨e, hee, hh⟩ := adj_isE.mp nx.1
    refine ⟨T, _, rfl, SqT.of upd_same, rfl, _, _, rfl, _, _, rfl, rfl, ?_⟩
    refine ⟨_, rfl, _, rfl, _, rfl, t, n, es, L[i], rfl, tr.same sT, by omega, fun H6 z6 nb pm so fz atz s6 => ?_⟩
    refine ⟨z6, _, rfl, .inl (SqL.of atz), rfl, flat_ints _, _, rfl, ?_⟩
    rw [inV_ints, decide_eq_true ((pm.mem_iff.trans mem_nbrs).mpr nx.1)]
    refine iteF ?_
    have s6' := sT.trans s6
    refine ⟨_, rfl, _, rfl, _, rfl, _, rfl, t, n, es, L[i], L[i + 1], dlE es L[i] L[i + 1], rfl, tr.same s6', by omega, ⟨e, hee, ends_ord ori hee hh⟩, fun f hf h1 h2 => (W.dl hf (ord_ends h1 h2)).symm, fun H7 s7 => ⟨_, _, rfl, rfl, ?_⟩⟩
    refine ⟨by omega, s6'.trans s7, s7 _ _ (s6 _ _ ((same_new fT) _ _ at2)), some (.int L[i]), some (.int L[i + 1]), y7, ?_⟩
    have e1 : ((stepsL es L).take (i + 1)).sum = ((stepsL es L).take i).sum + dlE es L[i] L[i + 1] := by
      rw [List.take_add_one, steps_at es ex' ey', List.sum_append]
      show _ + (dlE es L[i] L[i + 1] + 0) = _
      rw [Int.add_zero]
    rw [e1]
    rfl
  · obtain ⟨_, sm, at2, y5, y6, y7, rfl⟩ := h
    refine ⟨_, rfl, ?_⟩
    rw [List.length_map, List.length_tail, List.take_of_length_le (by rw [steps_len]; exact Nat.le_refl _), steps_sum]
    exact q _ sm
end
end Tr

namespace Tr
open PySem PySem.Spec PyProof.Rows L2 PySem.Tr11
abbrev s_law : Stmt := topS 21
theorem sc_law : FnScope ["_law_script", "_law_drawn", "_law_turn", "_law_tree_here", "_law_kept", "_law_again", "_law_one", "_law_other", "_law_path", "_law_due"] ["_law_script"] (defScope s_law) := ⟨rfl, rfl, rfl, by decide +kernel, rfl, by decide +kernel, by decide +kernel⟩
def sp_law (K : PySem.W.Frag) : Sp := fun vs H Q _ => ∃ (a : Addr) (ns : List Int), vs = [.ref a] ∧ SqL K H a (ns.map V.int) ∧ ns.length ≤ 63 ∧ ∀ H', Q (.bl true) H'
section
variable {P : Program} {w : World} {K : PySem.W.Frag} {mg : Str → Option Value} {base : Heap}
theorem ok_law (bt : Bt mg) (c_law_draws : Cal P w K mg base "_law_draws" ["_law_script"] 1 (sp_law_draws K)) (c_law_tree : Cal P w K mg base "_law_tree" ["_law_drawn", "_law_most"] 4 sp_law_tree)
    (c_law_next : Cal P w K mg base "_law_next" ["_law_drawn", "_law_many"] 1 sp_law_next) (c_law_equal : Cal P w K mg base "_law_equal" ["_law_one", "_law_other"] 2 (sp_law_equal K 2)) (c_path_between : Cal P w K mg base "path_between" ["tree", "one", "other"] 3 sp_path_between)
    (c_distance_between : Cal P w K mg base "distance_between" ["tree", "one", "other"] 4 sp_distance_between) (c_law_is_path : Cal P w K mg base "_law_is_path" ["_law_tree_here", "_law_one", "_law_other", "_law_value"] 2 sp_is_path)
    {f : Addr} {fd : FuncData} (F : Fun K "law" "law" s_law f fd) : FnG P w K mg base CX0 5 f fd ["_law_script"] (sp_law K) := by
  obtain ⟨f_law_draws, fd_law_draws, G_law_draws, m_law_draws, k_law_draws, b_law_draws⟩ := c_law_draws
  obtain ⟨f_law_tree, fd_law_tree, G_law_tree, m_law_tree, k_law_tree, b_law_tree⟩ := c_law_tree
  obtain ⟨f_law_next, fd_law_next, G_law_next, m_law_next, k_law_next, b_law_next⟩ := c_law_next
  obtain ⟨f_law_equal, fd_law_equal, G_law_equal, m_law_equal, k_law_equal, b_law_equal⟩ := c_law_equal
  obtain ⟨f_path_between, fd_path_between, G_path_between, m_path_between, k_path_between, b_path_between⟩ := c_path_between
  obtain ⟨f_distance_between, fd_distance_between, G_distance_between, m_distance_between, k_distance_between, b_distance_between⟩ := c_distance_between
  obtain ⟨f_law_is_path, fd_law_is_path, G_law_is_path, m_law_is_path, k_law_is_path, b_law_is_path⟩ := c_law_is_path
  refine fnG F sc_law (fun vs H Q E h => ?_) (fun cdv A outer s H vs Q E hr gg h => ?_)
  · obtain ⟨a, ns, rfl, _⟩ := h
    rfl
  obtain ⟨a, ns, rfl, sq, h63, q⟩ := h
  have hT : TT = 16777216 := rfl
  refine ⟨_, (pss_cons (ps_set (i := 1) sc_law.nd rfl (.inl rfl) (pe_callG G_law_draws gg (hr.mono (by first | decide | omega)) (by rfl) m_law_draws k_law_draws b_law_draws .nil pass0 (pa_cons (pv 0) pa_nil)))
      (pss_cons (ps_for PassesOwn.never rfl (pi_range1 (by rfl) bt.range (pa_cons pe_int pa_nil)) (pg_name (i := 2) sc_law.nd rfl (.inl rfl))
        (pss_cons (ps_set (i := 3) sc_law.nd rfl (.inl rfl) (pe_callG G_law_tree gg (hr.mono (by first | decide | omega)) (by rfl) m_law_tree k_law_tree b_law_tree .nil pass0 (pa_cons (pv 1) (pa_cons pe_int pa_nil))))
      (pss_cons (ps_set (i := 4) sc_law.nd rfl (.inl rfl) (pe_callB (call_reprD gg hr.units) (by rfl) bt.repr bb_repr (pa_cons (pv 3) pa_nil)))
      (pss_cons (ps_for PassesOwn.never rfl (pi_range1 (by rfl) bt.range (pa_cons pe_int pa_nil)) (pg_name (i := 5) sc_law.nd rfl (.inl rfl))
        (pss_cons (ps_par (i := 6) (j := 7) (by rfl) sc_law.nd rfl rfl (by decide) rfl rfl (pa_cons (pe_callG G_law_next gg (hr.mono (by first | decide | omega)) (by rfl) m_law_next k_law_next b_law_next .nil pass0 (pa_cons (pv 1) (pa_cons (pe_ix ix_tup (pv 3) pe_int (fun _ _ => rfl)) pa_nil))) (pa_cons (pe_callG G_law_next gg (hr.mono (by first | decide | omega)) (by rfl) m_law_next k_law_next b_law_next .nil pass0 (pa_cons (pv 1) (pa_cons (pe_ix ix_tup (pv 3) pe_int (fun _ _ => rfl)) pa_nil))) pa_nil)) (by rfl))
      (pss_cons (ps_set (i := 8) sc_law.nd rfl (.inl rfl) (pe_callG G_path_between gg (hr.mono (by first | decide | omega)) (by rfl) m_path_between k_path_between b_path_between .nil pass0 (pa_cons (pv 3) (pa_cons (pv 6) (pa_cons (pv 7) pa_nil)))))
      (pss_cons (ps_set (i := 9) sc_law.nd rfl (.inl rfl) (pe_callG G_law_is_path gg (hr.mono (by first | decide | omega)) (by rfl) m_law_is_path k_law_is_path b_law_is_path .nil pass0 (pa_cons (pv 3) (pa_cons (pv 6) (pa_cons (pv 7) (pa_cons (pv 8) pa_nil))))))
      (pss_cons (ps_if (PW.pt (pw_or (pt_cmpR (op_isN) (pv 9) pe_non (nomark _)) (pw_or1 (pt_not (pt_val (pe_callG G_law_equal gg (hr.mono (by first | decide | omega)) (by rfl) m_law_equal k_law_equal b_law_equal .nil pass0 (pa_cons (pe_callG G_distance_between gg (hr.mono (by first | decide | omega)) (by rfl) m_distance_between k_distance_between b_distance_between .nil pass0 (pa_cons (pv 3) (pa_cons (pv 6) (pa_cons (pv 7) pa_nil)))) (pa_cons (pv 9) pa_nil)))))))) (pss_one (ps_ret pe_bl)) pss_nil)
      (pss_cons (ps_if (PW.pt (pw_or (pt_not (pt_val (pe_callG G_law_equal gg (hr.mono (by first | decide | omega)) (by rfl) m_law_equal k_law_equal b_law_equal .nil pass0 (pa_cons (pe_callG G_path_between gg (hr.mono (by first | decide | omega)) (by rfl) m_path_between k_path_between b_path_between .nil pass0 (pa_cons (pv 3) (pa_cons (pv 7) (pa_cons (pv 6) pa_nil)))) (pa_cons (pe_slR (pv 8) po_none po_none) pa_nil))))) (pw_or1 (pt_cmpR (op_ne) (pe_callG G_distance_between gg (hr.mono (by first | decide | omega)) (by rfl) m_distance_between k_distance_between b_distance_between .nil pass0 (pa_cons (pv 3) (pa_cons (pv 7) (pa_cons (pv 6) pa_nil)))) (pv 9) (nomark _))))) (pss_one (ps_ret pe_bl)) pss_nil)
      (pss_one (ps_if (pt_not (pt_val (pe_callG G_law_equal gg (hr.mono (by first | decide | omega)) (by rfl) m_law_equal k_law_equal b_law_equal .nil pass0 (pa_cons (pe_callG G_path_between gg (hr.mono (by first | decide | omega)) (by rfl) m_path_between k_path_between b_path_between .nil pass0 (pa_cons (pv 3) (pa_cons (pv 6) (pa_cons (pv 7) pa_nil)))) (pa_cons (pv 8) pa_nil))))) (pss_one (ps_ret pe_bl)) pss_nil))))))))
      (pss_one (ps_if (PW.pt (pw_or (pt_cmpR (op_neD hr.units) (pe_callG G_path_between gg (hr.mono (by first | decide | omega)) (by rfl) m_path_between k_path_between b_path_between .nil pass0 (pa_cons (pv 3) (pa_cons pe_int (pa_cons pe_int pa_nil)))) (pe_tup (pa_cons pe_int pa_nil)) (nomark _)) (pw_or1 (pt_cmpR (op_ne) (pe_callB (call_reprD gg hr.units) (by rfl) bt.repr bb_repr (pa_cons (pv 3) pa_nil)) (pv 4) (nomark _))))) (pss_one (ps_ret pe_bl)) pss_nil))))))
      (pss_one (ps_ret pe_bl)))), ?_⟩
  refine ⟨_, rfl, a, ns, rfl, sq, h63, fun H0 d c r D0 s0 => ?_⟩
  refine ⟨6, rfl, by decide, by decide, for_range (n := Int.toNat 6) (fun i σ H' => ∃ y2 y3 y4 y5 y6 y7 y8 y9, σ = [some (.ref a), some (.ref d), y2, y3, y4, y5, y6, y7, y8, y9] ∧ Dn d c r (200 * i) H')
    ⟨none, none, none, none, none, none, none, none, rfl, D0⟩ (fun i σ H' hi h => ?_) (fun σ H' h => ?_)⟩
  · obtain ⟨y2, y3, y4, y5, y6, y7, y8, y9, rfl, D1⟩ := h
    have hi' : i < 6 := hi
    refine ⟨_, rfl, d, c, r, _, 16, rfl, D1, by omega, by decide, by decide, fun H1 t n es tree hn tr D2 K2 => ?_⟩
    have gt := GoodT.of tree hn tr
    have n1 := tree.pos
    have W := tree.wood
    have ori := tree.ori
    have hes := tree.len
    have l31 : es.length ≤ 31 := by omega
    have n31 : n ≤ 31 := by omega
    clear tr K2 D1
    obtain ⟨w1, w2, w3, w4, w5⟩ := gt.shw
    refine ⟨_, rfl, _, _, rfl, gt.tr.dp, w1, w2, w3, w4, w5, ?_⟩
    refine ⟨8, rfl, by decide, by decide, for_range (n := Int.toNat 8) (fun j σ H2 => ∃ y5 y6 y7 y8 y9, σ = [some (.ref a), some (.ref d), some (.int (0 + i)), some (.ref t), some (.str (trD n es).shown), y5, y6, y7, y8, y9] ∧ Dn d c r (200 * i + 133 + 2 * j) H2 ∧ GoodT H2 t n es)
      ⟨_, _, _, _, _, rfl, D2.mono (by omega), gt⟩ (fun j σ H2 hj h => ?_) (fun σ H2 h => ?_)⟩
    · obtain ⟨y5, y6, y7, y8, y9, rfl, D3, g3⟩ := h
      have hj' : j < 8 := hj
      obtain ⟨q3, _, ht3, _, _⟩ := g3.tr
      refine ⟨_, rfl, _, rfl, t, _, 0, .int n, rfl, rfl, SqT.of ht3, atI_nat (j := 0) rfl, d, c, r, _, n, rfl, D3, by omega, by omega, by omega, fun H4 u u0 u1 D4 K4 => ?_⟩
      have g4 := g3.kp D3 K4
      obtain ⟨q4, _, ht4, _, _⟩ := g4.tr
      refine ⟨_, rfl, _, rfl, t, _, 0, .int n, rfl, rfl, SqT.of ht4, atI_nat (j := 0) rfl, d, c, r, _, n, rfl, D4, by omega, by omega, by omega, fun H5 v v0 v1 D5 K5 => ?_⟩
      have g5 := g4.kp D4 K5
      refine ⟨_, _, rfl, ?_⟩
      refine ⟨_, rfl, _, rfl, _, rfl, t, n, es, u, v, rfl, g5.tr, l31, n31, W, u0, u1, v0, v1, fun H6 p l pl ln fp atp s6 => ?_⟩
      refine ⟨_, rfl, _, rfl, _, rfl, _, rfl, t, n, es, u, v, p, l, rfl, g5.tr.same s6, tree, hn, ⟨u0, u1⟩, pl, ln, atp, fun H7 s7 => ?_⟩
      have s67 := s6.trans s7
      have l1000 : l.length ≤ 1000 := by omega
      refine ⟨_, rfl, rfl, _, rfl, ?_⟩
      rw [decide_eq_false (show ¬ V.int (distL es l) = V.non from fun z => by cases z)]
      refine iteF ?_
      refine ⟨_, rfl, _, rfl, _, rfl, t, n, es, u, v, rfl, g5.tr.same s67, l31, n31, W, ori, u0, u1, v0, v1, fun H8 l8 p8 _ s8 => ?_⟩
      obtain rfl := W.path_uniq p8 pl
      refine ⟨_, rfl, _, _, .int (distL es l8), rfl, .int _, .int _, rfl, fun H9 s9 => ⟨_, rfl, iteNT ?_⟩⟩
      have s69 := (s67.trans s8).trans s9
      have at9 := s9 _ _ (s8 _ _ (s7 _ _ atp))
      -- the other way round
      refine ⟨_, rfl, _, rfl, _, rfl, t, n, es, v, u, rfl, g5.tr.same s69, l31, n31, W, v0, v1, u0, u1, fun Ha pa la qa lna fpa ata sa => ?_⟩
      obtain rfl := W.path_uniq (W.path_rev pl) qa
      refine ⟨_, rfl, p, _, rfl, SqT.of (sa _ _ at9), ?_, fun pb fpb => ?_⟩
      · rw [picked_rev, List.length_reverse, List.length_map]
        exact Nat.le_of_lt (small1000 (by omega))
      rw [picked_rev, ← List.map_reverse]
      have sb := same_new (o := .tup (l8.reverse.map V.int)) fpb
      refine ⟨_, _, .tuple (l8.reverse.map PyData.int), rfl, dpT (sb _ _ ata), dpT upd_same, okd_ints (by rw [List.length_reverse]; exact l1000), fun Hc sc => ⟨_, rfl, iteNT ?_⟩⟩
      have s6c := ((s69.trans sa).trans sb).trans sc
      refine ⟨_, rfl, _, rfl, _, rfl, t, n, es, v, u, rfl, g5.tr.same s6c, l31, n31, W, ori, v0, v1, u0, u1, fun Hd ld qd _ sd => ?_⟩
      obtain rfl := W.path_uniq (W.path_rev pl) qd
      rw [distL_rev]
      refine ⟨_, rfl, rfl, _, rfl, iteNS rfl ?_⟩
      -- once more
      have s6d := s6c.trans sd
      have atd := sd _ _ (sc _ _ (sb _ _ (sa _ _ at9)))
      refine ⟨_, rfl, _, rfl, _, rfl, t, n, es, u, v, rfl, g5.tr.same s6d, l31, n31, W, u0, u1, v0, v1, fun He pe le qe lne fpe ate se => ?_⟩
      obtain rfl := W.path_uniq qe pl
      refine ⟨_, rfl, _, _, .tuple (le.map PyData.int), rfl, dpT ate, dpT (se _ _ atd), okd_ints l1000, fun Hf sf => ⟨_, rfl, iteNT ?_⟩⟩
      have fin := (s6d.trans se).trans sf
      exact ⟨_, _, _, _, _, rfl, (D5.same fin).mono (by omega), g5.same fin⟩
    · obtain ⟨y5, y6, y7, y8, y9, rfl, D3, g3⟩ := h
      refine ⟨_, rfl, t, n, es, 0, 0, rfl, g3.tr, l31, n31, W, by omega, by omega, by omega, by omega, fun H4 p l pl ln fp atp s4 => ?_⟩
      obtain rfl := W.path_uniq (.here : PathTo es 0 0 [0]) pl
      refine ⟨(by show 1 ≤ sizeLine; decide), fun z hz => ?_⟩
      have s5 := same_new (o := .tup (([0] : List Int).map V.int)) hz
      refine ⟨_, _, dpT (s5 _ _ atp), dpT (l := [0]) upd_same, shT_ints _, shT_ints _, _, rfl, ?_⟩
      rw [eqvT_ints]
      refine iteNS rfl ?_
      have s45 := s4.trans s5
      refine ⟨_, rfl, _, _, rfl, (g3.same s45).tr.dp, w1, w2, w3, w4, w5, _, rfl, rfl, _, rfl, iteNS rfl ?_⟩
      exact ⟨_, _, _, _, _, _, _, _, rfl, (D3.same s45).mono (by omega)⟩
  · exact q _
end
end Tr
namespace Tr
open PySem PySem.Spec PyProof.Rows L2
theorem all_mk {l : PySem.W.OpenLaw} {w : World} {K : PySem.W.Frag} {h : Heap} {mg : Str → Option Value} {fa f0 f1 f2 f3 f4 f5 f6 f7 f8 f9 f10 f11 f12 f13 f14 f15 f16 f17 f18 f19 : Addr} (X : K.In h) (G : h.Ns mainGlobals mg) (hfa : mg "law" = some (.ref fa))
    {od0 an0 od1 an1 od2 an2 od3 an3 od4 an4 od5 an5 od6 an6 od7 an7 od8 an8 od9 an9 od10 an10 od11 an11 od12 an12 od13 an13 od14 an14 od15 an15 od16 an16 od17 an17 od18 an18 od19 an19 : Option Addr} {sl0 sl1 sl2 sl3 sl4 sl5 sl6 sl7 sl8 sl9 sl10 sl11 sl12 sl13 sl14 sl15 sl16 sl17 sl18 sl19 : Array (Option Value)} {oc0 kV0 dc0 pm0 cd0 ct0 oc1 kV1 dc1 pm1 cd1 ct1 oc2 kV2 dc2 pm2 cd2 ct2 oc3 kV3 dc3 pm3 cd3 ct3 oc4 kV4 dc4 pm4 cd4 ct4 oc5 kV5 dc5 pm5 cd5 ct5 oc6 kV6 dc6 pm6 cd6 ct6 oc7 kV7 dc7 pm7 cd7 ct7 oc8 kV8 dc8 pm8 cd8 ct8 oc9 kV9 dc9 pm9 cd9 ct9 oc10 kV10 dc10 pm10 cd10 ct10 oc11 kV11 dc11 pm11 cd11 ct11 oc12 kV12 dc12 pm12 cd12 ct12 oc13 kV13 dc13 pm13 cd13 ct13 oc14 kV14 dc14 pm14 cd14 ct14 oc15 kV15 dc15 pm15 cd15 ct15 oc16 kV16 dc16 pm16 cd16 ct16 oc17 kV17 dc17 pm17 cd17 ct17 oc18 kV18 dc18 pm18 cd18 ct18 oc19 kV19 dc19 pm19 cd19 ct19 : Value}
    (a0 : PySem.W.nsIn K mainGlobals "_law_draws" = some (some (.ref f0))) (l0 : K.lookup f0 = some ⟨oc0, od0, .func (PySem.W.fnOf "_law_draws" "_law_draws" (defArgs s_law_draws) (defBody s_law_draws) (defScope s_law_draws) .none kV0 dc0 pm0 an0 cd0 ct0), sl0⟩) (c0 : PySem.W.codeIn K cd0 "_law_draws" = true) (k0 : PySem.W.keepIn K (.ref f0) = true)
    (a1 : PySem.W.nsIn K mainGlobals "_law_next" = some (some (.ref f1))) (l1 : K.lookup f1 = some ⟨oc1, od1, .func (PySem.W.fnOf "_law_next" "_law_next" (defArgs s_law_next) (defBody s_law_next) (defScope s_law_next) .none kV1 dc1 pm1 an1 cd1 ct1), sl1⟩) (c1 : PySem.W.codeIn K cd1 "_law_next" = true) (k1 : PySem.W.keepIn K (.ref f1) = true)
    (a2 : PySem.W.nsIn K mainGlobals "_law_size" = some (some (.ref f2))) (l2 : K.lookup f2 = some ⟨oc2, od2, .func (PySem.W.fnOf "_law_size" "_law_size" (defArgs s_law_size) (defBody s_law_size) (defScope s_law_size) .none kV2 dc2 pm2 an2 cd2 ct2), sl2⟩) (c2 : PySem.W.codeIn K cd2 "_law_size" = true) (k2 : PySem.W.keepIn K (.ref f2) = true)
    (a3 : PySem.W.nsIn K mainGlobals "_law_delay" = some (some (.ref f3))) (l3 : K.lookup f3 = some ⟨oc3, od3, .func (PySem.W.fnOf "_law_delay" "_law_delay" (defArgs s_law_delay) (defBody s_law_delay) (defScope s_law_delay) .none kV3 dc3 pm3 an3 cd3 ct3), sl3⟩) (c3 : PySem.W.codeIn K cd3 "_law_delay" = true) (k3 : PySem.W.keepIn K (.ref f3) = true)
    (a4 : PySem.W.nsIn K mainGlobals "_law_parents" = some (some (.ref f4))) (l4 : K.lookup f4 = some ⟨oc4, od4, .func (PySem.W.fnOf "_law_parents" "_law_parents" (defArgs s_law_parents) (defBody s_law_parents) (defScope s_law_parents) .none kV4 dc4 pm4 an4 cd4 ct4), sl4⟩) (c4 : PySem.W.codeIn K cd4 "_law_parents" = true) (k4 : PySem.W.keepIn K (.ref f4) = true)
    (a5 : PySem.W.nsIn K mainGlobals "_law_shuffled" = some (some (.ref f5))) (l5 : K.lookup f5 = some ⟨oc5, od5, .func (PySem.W.fnOf "_law_shuffled" "_law_shuffled" (defArgs s_law_shuffled) (defBody s_law_shuffled) (defScope s_law_shuffled) .none kV5 dc5 pm5 an5 cd5 ct5), sl5⟩) (c5 : PySem.W.codeIn K cd5 "_law_shuffled" = true) (k5 : PySem.W.keepIn K (.ref f5) = true)
    (a6 : PySem.W.nsIn K mainGlobals "_law_made" = some (some (.ref f6))) (l6 : K.lookup f6 = some ⟨oc6, od6, .func (PySem.W.fnOf "_law_made" "_law_made" (defArgs s_law_made) (defBody s_law_made) (defScope s_law_made) .none kV6 dc6 pm6 an6 cd6 ct6), sl6⟩) (c6 : PySem.W.codeIn K cd6 "_law_made" = true) (k6 : PySem.W.keepIn K (.ref f6) = true)
    (a7 : PySem.W.nsIn K mainGlobals "_law_tree" = some (some (.ref f7))) (l7 : K.lookup f7 = some ⟨oc7, od7, .func (PySem.W.fnOf "_law_tree" "_law_tree" (defArgs s_law_tree) (defBody s_law_tree) (defScope s_law_tree) .none kV7 dc7 pm7 an7 cd7 ct7), sl7⟩) (c7 : PySem.W.codeIn K cd7 "_law_tree" = true) (k7 : PySem.W.keepIn K (.ref f7) = true)
    (a8 : PySem.W.nsIn K mainGlobals "_law_equal" = some (some (.ref f8))) (l8 : K.lookup f8 = some ⟨oc8, od8, .func (PySem.W.fnOf "_law_equal" "_law_equal" (defArgs s_law_equal) (defBody s_law_equal) (defScope s_law_equal) .none kV8 dc8 pm8 an8 cd8 ct8), sl8⟩) (c8 : PySem.W.codeIn K cd8 "_law_equal" = true) (k8 : PySem.W.keepIn K (.ref f8) = true)
    (a9 : PySem.W.nsIn K mainGlobals "_law_integer" = some (some (.ref f9))) (l9 : K.lookup f9 = some ⟨oc9, od9, .func (PySem.W.fnOf "_law_integer" "_law_integer" (defArgs s_law_integer) (defBody s_law_integer) (defScope s_law_integer) .none kV9 dc9 pm9 an9 cd9 ct9), sl9⟩) (c9 : PySem.W.codeIn K cd9 "_law_integer" = true) (k9 : PySem.W.keepIn K (.ref f9) = true)
    (a10 : PySem.W.nsIn K mainGlobals "_law_sized" = some (some (.ref f10))) (l10 : K.lookup f10 = some ⟨oc10, od10, .func (PySem.W.fnOf "_law_sized" "_law_sized" (defArgs s_law_sized) (defBody s_law_sized) (defScope s_law_sized) .none kV10 dc10 pm10 an10 cd10 ct10), sl10⟩) (c10 : PySem.W.codeIn K cd10 "_law_sized" = true) (k10 : PySem.W.keepIn K (.ref f10) = true)
    (a11 : PySem.W.nsIn K mainGlobals "_law_near" = some (some (.ref f11))) (l11 : K.lookup f11 = some ⟨oc11, od11, .func (PySem.W.fnOf "_law_near" "_law_near" (defArgs s_law_near) (defBody s_law_near) (defScope s_law_near) .none kV11 dc11 pm11 an11 cd11 ct11), sl11⟩) (c11 : PySem.W.codeIn K cd11 "_law_near" = true) (k11 : PySem.W.keepIn K (.ref f11) = true)
    (a12 : PySem.W.nsIn K mainGlobals "_law_edge" = some (some (.ref f12))) (l12 : K.lookup f12 = some ⟨oc12, od12, .func (PySem.W.fnOf "_law_edge" "_law_edge" (defArgs s_law_edge) (defBody s_law_edge) (defScope s_law_edge) .none kV12 dc12 pm12 an12 cd12 ct12), sl12⟩) (c12 : PySem.W.codeIn K cd12 "_law_edge" = true) (k12 : PySem.W.keepIn K (.ref f12) = true)
    (a13 : PySem.W.nsIn K mainGlobals "_law_is_path" = some (some (.ref f13))) (l13 : K.lookup f13 = some ⟨oc13, od13, .func (PySem.W.fnOf "_law_is_path" "_law_is_path" (defArgs s_law_is_path) (defBody s_law_is_path) (defScope s_law_is_path) .none kV13 dc13 pm13 an13 cd13 ct13), sl13⟩) (c13 : PySem.W.codeIn K cd13 "_law_is_path" = true) (k13 : PySem.W.keepIn K (.ref f13) = true)
    (a14 : PySem.W.nsIn K mainGlobals "neighbours_of" = some (some (.ref f14))) (l14 : K.lookup f14 = some ⟨oc14, od14, .func (PySem.W.fnOf "neighbours_of" "neighbours_of" (defArgs s_neighbours_of) (defBody s_neighbours_of) (defScope s_neighbours_of) .none kV14 dc14 pm14 an14 cd14 ct14), sl14⟩) (c14 : PySem.W.codeIn K cd14 "neighbours_of" = true) (k14 : PySem.W.keepIn K (.ref f14) = true)
    (a15 : PySem.W.nsIn K mainGlobals "callers_of" = some (some (.ref f15))) (l15 : K.lookup f15 = some ⟨oc15, od15, .func (PySem.W.fnOf "callers_of" "callers_of" (defArgs s_callers_of) (defBody s_callers_of) (defScope s_callers_of) .none kV15 dc15 pm15 an15 cd15 ct15), sl15⟩) (c15 : PySem.W.codeIn K cd15 "callers_of" = true) (k15 : PySem.W.keepIn K (.ref f15) = true)
    (a16 : PySem.W.nsIn K mainGlobals "path_between" = some (some (.ref f16))) (l16 : K.lookup f16 = some ⟨oc16, od16, .func (PySem.W.fnOf "path_between" "path_between" (defArgs s_path_between) (defBody s_path_between) (defScope s_path_between) .none kV16 dc16 pm16 an16 cd16 ct16), sl16⟩) (c16 : PySem.W.codeIn K cd16 "path_between" = true) (k16 : PySem.W.keepIn K (.ref f16) = true)
    (a17 : PySem.W.nsIn K mainGlobals "delay_between" = some (some (.ref f17))) (l17 : K.lookup f17 = some ⟨oc17, od17, .func (PySem.W.fnOf "delay_between" "delay_between" (defArgs s_delay_between) (defBody s_delay_between) (defScope s_delay_between) .none kV17 dc17 pm17 an17 cd17 ct17), sl17⟩) (c17 : PySem.W.codeIn K cd17 "delay_between" = true) (k17 : PySem.W.keepIn K (.ref f17) = true)
    (a18 : PySem.W.nsIn K mainGlobals "distance_between" = some (some (.ref f18))) (l18 : K.lookup f18 = some ⟨oc18, od18, .func (PySem.W.fnOf "distance_between" "distance_between" (defArgs s_distance_between) (defBody s_distance_between) (defScope s_distance_between) .none kV18 dc18 pm18 an18 cd18 ct18), sl18⟩) (c18 : PySem.W.codeIn K cd18 "distance_between" = true) (k18 : PySem.W.keepIn K (.ref f18) = true)
    (a19 : PySem.W.nsIn K mainGlobals "law" = some (some (.ref f19))) (l19 : K.lookup f19 = some ⟨oc19, od19, .func (PySem.W.fnOf "law" "law" (defArgs s_law) (defBody s_law) (defScope s_law) .none kV19 dc19 pm19 an19 cd19 ct19), sl19⟩) (c19 : PySem.W.codeIn K cd19 "law" = true) (k19 : PySem.W.keepIn K (.ref f19) = true)
    (zlen : PySem.W.nsIn K mainGlobals "len" = some none) (zlist : PySem.W.nsIn K mainGlobals "list" = some none) (ztuple : PySem.W.nsIn K mainGlobals "tuple" = some none) (zint : PySem.W.nsIn K mainGlobals "int" = some none) (zbool : PySem.W.nsIn K mainGlobals "bool" = some none) (zstr : PySem.W.nsIn K mainGlobals "str" = some none) (zrange : PySem.W.nsIn K mainGlobals "range" = some none) (zmin : PySem.W.nsIn K mainGlobals "min" = some none) (zmax : PySem.W.nsIn K mainGlobals "max" = some none) (zsorted : PySem.W.nsIn K mainGlobals "sorted" = some none) (zsum : PySem.W.nsIn K mainGlobals "sum" = some none) (zall : PySem.W.nsIn K mainGlobals "all" = some none) (zzip : PySem.W.nsIn K mainGlobals "zip" = some none) (zenumerate : PySem.W.nsIn K mainGlobals "enumerate" = some none) (zisinstance : PySem.W.nsIn K mainGlobals "isinstance" = some none) (zrepr : PySem.W.nsIn K mainGlobals "repr" = some none) (zset : PySem.W.nsIn K mainGlobals "set" = some none) :
    ∃ fd : FuncData, (∀ (s : Shared) (v : Value), BindsTo s fd ⟨[v], []⟩ [("_law_script", v)]) ∧ ∀ base : Heap, K.In base → base.Ns mainGlobals mg → FnG l.prog w K mg base CX0 5 fa fd ["_law_script"] (sp_law K) := by
  have e := hfa.symm.trans (PySem.W.mg_of X G a19)
  cases e
  have F_law_draws := fun_mk (st := s_law_draws) l0 c0 k0
  have b_law_draws := F_law_draws.binds (ps := ["_law_script"]) fun _ _ _ _ _ _ us hl => match us, hl with | [_], _ => rfl
  have m_law_draws := PySem.W.mg_of X G a0
  have F_law_next := fun_mk (st := s_law_next) l1 c1 k1
  have b_law_next := F_law_next.binds (ps := ["_law_drawn", "_law_many"]) fun _ _ _ _ _ _ us hl => match us, hl with | [_, _], _ => rfl
  have m_law_next := PySem.W.mg_of X G a1
  have F_law_size := fun_mk (st := s_law_size) l2 c2 k2
  have b_law_size := F_law_size.binds (ps := ["_law_drawn", "_law_great"]) fun _ _ _ _ _ _ us hl => match us, hl with | [_, _], _ => rfl
  have m_law_size := PySem.W.mg_of X G a2
  have F_law_delay := fun_mk (st := s_law_delay) l3 c3 k3
  have b_law_delay := F_law_delay.binds (ps := ["_law_drawn", "_law_great"]) fun _ _ _ _ _ _ us hl => match us, hl with | [_, _], _ => rfl
  have m_law_delay := PySem.W.mg_of X G a3
  have F_law_parents := fun_mk (st := s_law_parents) l4 c4 k4
  have b_law_parents := F_law_parents.binds (ps := ["_law_drawn", "_law_count"]) fun _ _ _ _ _ _ us hl => match us, hl with | [_, _], _ => rfl
  have m_law_parents := PySem.W.mg_of X G a4
  have F_law_shuffled := fun_mk (st := s_law_shuffled) l5 c5 k5
  have b_law_shuffled := F_law_shuffled.binds (ps := ["_law_drawn", "_law_count"]) fun _ _ _ _ _ _ us hl => match us, hl with | [_, _], _ => rfl
  have m_law_shuffled := PySem.W.mg_of X G a5
  have F_law_made := fun_mk (st := s_law_made) l6 c6 k6
  have b_law_made := F_law_made.binds (ps := ["_law_count", "_law_edges"]) fun _ _ _ _ _ _ us hl => match us, hl with | [_, _], _ => rfl
  have m_law_made := PySem.W.mg_of X G a6
  have F_law_tree := fun_mk (st := s_law_tree) l7 c7 k7
  have b_law_tree := F_law_tree.binds (ps := ["_law_drawn", "_law_most"]) fun _ _ _ _ _ _ us hl => match us, hl with | [_, _], _ => rfl
  have m_law_tree := PySem.W.mg_of X G a7
  have F_law_equal := fun_mk (st := s_law_equal) l8 c8 k8
  have b_law_equal := F_law_equal.binds (ps := ["_law_one", "_law_other"]) fun _ _ _ _ _ _ us hl => match us, hl with | [_, _], _ => rfl
  have m_law_equal := PySem.W.mg_of X G a8
  have F_law_integer := fun_mk (st := s_law_integer) l9 c9 k9
  have b_law_integer := F_law_integer.binds (ps := ["_law_value", "_law_low", "_law_high"]) fun _ _ _ _ _ _ us hl => match us, hl with | [_, _, _], _ => rfl
  have m_law_integer := PySem.W.mg_of X G a9
  have F_law_sized := fun_mk (st := s_law_sized) l10 c10 k10
  have b_law_sized := F_law_sized.binds (ps := ["_law_value", "_law_low", "_law_high"]) fun _ _ _ _ _ _ us hl => match us, hl with | [_, _, _], _ => rfl
  have m_law_sized := PySem.W.mg_of X G a10
  have F_law_near := fun_mk (st := s_law_near) l11 c11 k11
  have b_law_near := F_law_near.binds (ps := ["_law_tree_here", "_law_vertex"]) fun _ _ _ _ _ _ us hl => match us, hl with | [_, _], _ => rfl
  have m_law_near := PySem.W.mg_of X G a11
  have F_law_edge := fun_mk (st := s_law_edge) l12 c12 k12
  have b_law_edge := F_law_edge.binds (ps := ["_law_tree_here", "_law_one", "_law_other"]) fun _ _ _ _ _ _ us hl => match us, hl with | [_, _, _], _ => rfl
  have m_law_edge := PySem.W.mg_of X G a12
  have F_law_is_path := fun_mk (st := s_law_is_path) l13 c13 k13
  have b_law_is_path := F_law_is_path.binds (ps := ["_law_tree_here", "_law_one", "_law_other", "_law_value"]) fun _ _ _ _ _ _ us hl => match us, hl with | [_, _, _, _], _ => rfl
  have m_law_is_path := PySem.W.mg_of X G a13
  have F_neighbours_of := fun_mk (st := s_neighbours_of) l14 c14 k14
  have b_neighbours_of := F_neighbours_of.binds (ps := ["tree", "vertex"]) fun _ _ _ _ _ _ us hl => match us, hl with | [_, _], _ => rfl
  have m_neighbours_of := PySem.W.mg_of X G a14
  have F_callers_of := fun_mk (st := s_callers_of) l15 c15 k15
  have b_callers_of := F_callers_of.binds (ps := ["tree", "source"]) fun _ _ _ _ _ _ us hl => match us, hl with | [_, _], _ => rfl
  have m_callers_of := PySem.W.mg_of X G a15
  have F_path_between := fun_mk (st := s_path_between) l16 c16 k16
  have b_path_between := F_path_between.binds (ps := ["tree", "one", "other"]) fun _ _ _ _ _ _ us hl => match us, hl with | [_, _, _], _ => rfl
  have m_path_between := PySem.W.mg_of X G a16
  have F_delay_between := fun_mk (st := s_delay_between) l17 c17 k17
  have b_delay_between := F_delay_between.binds (ps := ["tree", "vertex", "away"]) fun _ _ _ _ _ _ us hl => match us, hl with | [_, _, _], _ => rfl
  have m_delay_between := PySem.W.mg_of X G a17
  have F_distance_between := fun_mk (st := s_distance_between) l18 c18 k18
  have b_distance_between := F_distance_between.binds (ps := ["tree", "one", "other"]) fun _ _ _ _ _ _ us hl => match us, hl with | [_, _, _], _ => rfl
  have m_distance_between := PySem.W.mg_of X G a18
  have F_law := fun_mk (st := s_law) l19 c19 k19
  have b_law := F_law.binds (ps := ["_law_script"]) fun _ _ _ _ _ _ us hl => match us, hl with | [_], _ => rfl
  have m_law := PySem.W.mg_of X G a19
  have bt : Bt mg := ⟨PySem.W.mg_none_of X G zlen, PySem.W.mg_none_of X G zlist, PySem.W.mg_none_of X G ztuple, PySem.W.mg_none_of X G zint, PySem.W.mg_none_of X G zbool, PySem.W.mg_none_of X G zstr, PySem.W.mg_none_of X G zrange, PySem.W.mg_none_of X G zmin, PySem.W.mg_none_of X G zmax, PySem.W.mg_none_of X G zsorted, PySem.W.mg_none_of X G zsum, PySem.W.mg_none_of X G zall, PySem.W.mg_none_of X G zzip, PySem.W.mg_none_of X G zenumerate, PySem.W.mg_none_of X G zisinstance, PySem.W.mg_none_of X G zrepr, PySem.W.mg_none_of X G zset⟩
  refine ⟨PySem.W.fnOf "law" "law" (defArgs s_law) (defBody s_law) (defScope s_law) .none kV19 dc19 pm19 an19 cd19 ct19, fun s v => .of_eq rfl, fun base _ _ => ?_⟩
  have c_law_draws : Cal l.prog w K mg base "_law_draws" ["_law_script"] _ _ := ⟨_, _, ok_law_draws bt F_law_draws, m_law_draws, F_law_draws.kp, b_law_draws⟩
  have c_law_next : Cal l.prog w K mg base "_law_next" ["_law_drawn", "_law_many"] _ _ := ⟨_, _, ok_law_next bt F_law_next, m_law_next, F_law_next.kp, b_law_next⟩
  have c_law_size : Cal l.prog w K mg base "_law_size" ["_law_drawn", "_law_great"] _ _ := ⟨_, _, ok_law_size bt c_law_next F_law_size, m_law_size, F_law_size.kp, b_law_size⟩
  have c_law_delay : Cal l.prog w K mg base "_law_delay" ["_law_drawn", "_law_great"] _ _ := ⟨_, _, ok_law_delay bt c_law_size F_law_delay, m_law_delay, F_law_delay.kp, b_law_delay⟩
  have c_law_parents : Cal l.prog w K mg base "_law_parents" ["_law_drawn", "_law_count"] _ _ := ⟨_, _, ok_law_parents bt c_law_next F_law_parents, m_law_parents, F_law_parents.kp, b_law_parents⟩
  have c_law_shuffled : Cal l.prog w K mg base "_law_shuffled" ["_law_drawn", "_law_count"] _ _ := ⟨_, _, ok_law_shuffled bt c_law_next F_law_shuffled, m_law_shuffled, F_law_shuffled.kp, b_law_shuffled⟩
  have c_law_made : Cal l.prog w K mg base "_law_made" ["_law_count", "_law_edges"] _ _ := ⟨_, _, ok_law_made bt F_law_made, m_law_made, F_law_made.kp, b_law_made⟩
  have c_law_tree : Cal l.prog w K mg base "_law_tree" ["_law_drawn", "_law_most"] _ _ := ⟨_, _, ok_law_tree bt c_law_next c_law_size c_law_delay c_law_parents c_law_shuffled c_law_made F_law_tree, m_law_tree, F_law_tree.kp, b_law_tree⟩
  have c_law_equal : Cal l.prog w K mg base "_law_equal" ["_law_one", "_law_other"] _ _ := ⟨_, _, ok_law_equal bt F_law_equal m_law_equal b_law_equal 2, m_law_equal, F_law_equal.kp, b_law_equal⟩
  have c_law_integer : Cal l.prog w K mg base "_law_integer" ["_law_value", "_law_low", "_law_high"] _ _ := ⟨_, _, ok_law_integer bt F_law_integer, m_law_integer, F_law_integer.kp, b_law_integer⟩
  have c_law_sized : Cal l.prog w K mg base "_law_sized" ["_law_value", "_law_low", "_law_high"] _ _ := ⟨_, _, ok_law_sized bt F_law_sized, m_law_sized, F_law_sized.kp, b_law_sized⟩
  have c_law_near : Cal l.prog w K mg base "_law_near" ["_law_tree_here", "_law_vertex"] _ _ := ⟨_, _, ok_law_near bt F_law_near, m_law_near, F_law_near.kp, b_law_near⟩
  have c_law_edge : Cal l.prog w K mg base "_law_edge" ["_law_tree_here", "_law_one", "_law_other"] _ _ := ⟨_, _, ok_law_edge bt F_law_edge, m_law_edge, F_law_edge.kp, b_law_edge⟩
  have c_law_is_path : Cal l.prog w K mg base "_law_is_path" ["_law_tree_here", "_law_one", "_law_other", "_law_value"] _ _ := ⟨_, _, ok_is_path bt c_law_sized c_law_integer c_law_near c_law_edge F_law_is_path, m_law_is_path, F_law_is_path.kp, b_law_is_path⟩
  have c_neighbours_of : Cal l.prog w K mg base "neighbours_of" ["tree", "vertex"] _ _ := ⟨_, _, ok_neighbours_of bt F_neighbours_of, m_neighbours_of, F_neighbours_of.kp, b_neighbours_of⟩
  have c_callers_of : Cal l.prog w K mg base "callers_of" ["tree", "source"] _ _ := ⟨_, _, ok_callers_of bt c_neighbours_of F_callers_of, m_callers_of, F_callers_of.kp, b_callers_of⟩
  have c_path_between : Cal l.prog w K mg base "path_between" ["tree", "one", "other"] _ _ := ⟨_, _, ok_path_between bt c_callers_of F_path_between, m_path_between, F_path_between.kp, b_path_between⟩
  have c_delay_between : Cal l.prog w K mg base "delay_between" ["tree", "vertex", "away"] _ _ := ⟨_, _, ok_delay_between bt F_delay_between, m_delay_between, F_delay_between.kp, b_delay_between⟩
  have c_distance_between : Cal l.prog w K mg base "distance_between" ["tree", "one", "other"] _ _ := ⟨_, _, ok_distance_between bt c_path_between c_delay_between F_distance_between, m_distance_between, F_distance_between.kp, b_distance_between⟩
  exact ok_law bt c_law_draws c_law_tree c_law_next c_law_equal c_path_between c_distance_between c_law_is_path F_law
end Tr
open PySem PySem.W PyProof.Rows
set_option maxHeartbeats 0 in
theorem PySem.Challenge.cw_tellrounds_k03_paths_and_distances_holds : PySem.Challenge.rw_tellrounds_k03_paths_and_distances.Holds := by
  w_on; o_law; k_head; (case hw => w_witness2)
  k_fill
  refine Tr.walkG (l := PySem.Challenge.rw_tellrounds_k03_paths_and_distances) (n := 63) (k := 5) (x := "_law_script") (sp := fun K => Tr.sp_law K) rfl (by decide) rfl ⟨rfl, by decide, by decide⟩ (fun w h Y => PySem.W.kIn_of Y) ?F (fun _ _ a ns hl _ hS => ⟨a, ns, rfl, hS, hl, fun _ => rfl⟩)
  case F =>
    intro w mg fa h KX G hmg
    refine' Tr.all_mk KX G hmg ?a0 ?l0 ?c0 ?k0 ?a1 ?l1 ?c1 ?k1 ?a2 ?l2 ?c2 ?k2 ?a3 ?l3 ?c3 ?k3 ?a4 ?l4 ?c4 ?k4 ?a5 ?l5 ?c5 ?k5 ?a6 ?l6 ?c6 ?k6 ?a7 ?l7 ?c7 ?k7 ?a8 ?l8 ?c8 ?k8 ?a9 ?l9 ?c9 ?k9 ?a10 ?l10 ?c10 ?k10 ?a11 ?l11 ?c11 ?k11 ?a12 ?l12 ?c12 ?k12 ?a13 ?l13 ?c13 ?k13 ?a14 ?l14 ?c14 ?k14 ?a15 ?l15 ?c15 ?k15 ?a16 ?l16 ?c16 ?k16 ?a17 ?l17 ?c17 ?k17 ?a18 ?l18 ?c18 ?k18 ?a19 ?l19 ?c19 ?k19 ?zlen ?zlist ?ztuple ?zint ?zbool ?zstr ?zrange ?zmin ?zmax ?zsorted ?zsum ?zall ?zzip ?zenumerate ?zisinstance ?zrepr ?zset
    (case a0 => k_is)
    (case l0 => k_is)
    (case c0 => k_is)
    (case k0 => k_is)
    (case a1 => k_is)
    (case l1 => k_is)
    (case c1 => k_is)
    (case k1 => k_is)
    (case a2 => k_is)
    (case l2 => k_is)
    (case c2 => k_is)
    (case k2 => k_is)
    (case a3 => k_is)
    (case l3 => k_is)
    (case c3 => k_is)
    (case k3 => k_is)
    (case a4 => k_is)
    (case l4 => k_is)
    (case c4 => k_is)
    (case k4 => k_is)
    (case a5 => k_is)
    (case l5 => k_is)
    (case c5 => k_is)
    (case k5 => k_is)
    (case a6 => k_is)
    (case l6 => k_is)
    (case c6 => k_is)
    (case k6 => k_is)
    (case a7 => k_is)
    (case l7 => k_is)
    (case c7 => k_is)
    (case k7 => k_is)
    (case a8 => k_is)
    (case l8 => k_is)
    (case c8 => k_is)
    (case k8 => k_is)
    (case a9 => k_is)
    (case l9 => k_is)
    (case c9 => k_is)
    (case k9 => k_is)
    (case a10 => k_is)
    (case l10 => k_is)
    (case c10 => k_is)
    (case k10 => k_is)
    (case a11 => k_is)
    (case l11 => k_is)
    (case c11 => k_is)
    (case k11 => k_is)
    (case a12 => k_is)
    (case l12 => k_is)
    (case c12 => k_is)
    (case k12 => k_is)
    (case a13 => k_is)
    (case l13 => k_is)
    (case c13 => k_is)
    (case k13 => k_is)
    (case a14 => k_is)
    (case l14 => k_is)
    (case c14 => k_is)
    (case k14 => k_is)
    (case a15 => k_is)
    (case l15 => k_is)
    (case c15 => k_is)
    (case k15 => k_is)
    (case a16 => k_is)
    (case l16 => k_is)
    (case c16 => k_is)
    (case k16 => k_is)
    (case a17 => k_is)
    (case l17 => k_is)
    (case c17 => k_is)
    (case k17 => k_is)
    (case a18 => k_is)
    (case l18 => k_is)
    (case c18 => k_is)
    (case k18 => k_is)
    (case a19 => k_is)
    (case l19 => k_is)
    (case c19 => k_is)
    (case k19 => k_is)
    (case zlen => k_is)
    (case zlist => k_is)
    (case ztuple => k_is)
    (case zint => k_is)
    (case zbool => k_is)
    (case zstr => k_is)
    (case zrange => k_is)
    (case zmin => k_is)
    (case zmax => k_is)
    (case zsorted => k_is)
    (case zsum => k_is)
    (case zall => k_is)
    (case zzip => k_is)
    (case zenumerate => k_is)
    (case zisinstance => k_is)
    (case zrepr => k_is)
    (case zset => k_is)


#print axioms PySem.Challenge.cw_tellrounds_k03_paths_and_distances_holds
