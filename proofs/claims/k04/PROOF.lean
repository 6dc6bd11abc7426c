import PyProof.Rows.All
import Wide.All
import OpenK.AllK
import Wide.FinOn
import HandS.ForMost
import HandS.TupSets
import HandS.IsInst
import HandS.Conv
import HandS.NoneIn
import HandS.Zip
import HandS.Deep
import HandS.Walk
import HandS.Codes
import PySem.Challenge.RW_tellrounds_k04_branches_of_vertices
set_option Elab.async false
set_option linter.all false
set_option maxRecDepth 100000
set_option maxHeartbeats 4000000
/-! ### A0. Own base: defs that are called where no repr runs; repr of data; the built-in names -/
namespace Tr
open PySem PySem.Spec PyProof.Rows L2

/-- a def's promise, asked only where no repr is under way -/
structure FnG (P : Program) (w : World) (K : PySem.W.Frag) (mg : Str → Option Value) (base : Heap) (CX : CXT) (k : Nat) (f : Addr) (fd : FuncData) (ps : List Str) (sp : Sp) : Prop where
  ln : ∀ vs H Q E, sp vs H Q E → vs.length = ps.length
  go : ∀ (A : Around), A.guards = some [] → ∀ (outer : List Env) (s : Shared) (H : Hp) (args : Args) (us : List Value) (vs : List V) (Q : VK) (E : XK), Room k A →
    Env0 P w K mg base A outer s H → BindsTo s fd args (ps.zip us) → Vals vs us → sp vs H Q E → codeAny (model P w) A (.call (.ref f) args) (CR CX outer P w H s Q E) s
section
variable {P : Program} {w : World} {K : PySem.W.Frag} {mg : Str → Option Value} {base : Heap} {CX : CXT} {k j : Nat} {f : Addr} {fd : FuncData} {ps : List Str} {sp sp' : Sp}
theorem FnG.up (F : FnG P w K mg base CX j f fd ps sp) (h : j ≤ k) : FnG P w K mg base CX k f fd ps sp :=
  ⟨F.ln, fun A hg o s H ar us vs Q E r => F.go A hg o s H ar us vs Q E (r.mono h)⟩
theorem FnG.of (F : FnOk P w K mg base CX k f fd ps sp) : FnG P w K mg base CX k f fd ps sp := ⟨F.len, fun A _ => F.run A⟩
theorem deeper_g {A : Around} {env : Env} (h : A.guards = some []) : (A.deeper env).guards = some [] := by
  first
    | exact h
    | (simp [Around.deeper]; exact h)
end

section
variable {X : Cx} {CX : CXT} {k : Nat} {f : Addr} {fd : FuncData} {ps : List Str} {sp : Sp} {dvs : List V} {ds : List Value} {E : XK} {x : Str} {p pos : Pos} {e : Expr} {es : List Expr} {t : TA}
theorem runG {pins : List (Addr × Obj)} {σ : L2.St} {H : Hp} {s : Shared} {Q : VK} {us : List Value} {vs : List V} (F : FnG X.prog X.w X.K X.mg X.base CX k f fd ps sp) (gg : X.A.guards = some []) (hr : Room k X.A)
    (hb : Binds X.K fd ps ds) (hd : Vals dvs ds) (hx : Passes CX X E) (I : Inv X pins σ H s) (r : Vals vs us) (h : sp (vs ++ dvs) H Q E) :
    wpAny (model X.prog X.w) X.A (call (.ref f) us) (EP X pins σ Q) X.xe s := by
  have both : Vals (vs ++ dvs) (us ++ ds) := Vals.append r hd
  have many : (us ++ ds).length = ps.length := both.length ▸ F.ln _ _ _ _ h
  have ran := F.go X.A gg X.stack s H ⟨us, []⟩ (us ++ ds) (vs ++ dvs) Q E hr (Inv.env0 I) (hb s us I.kIn many) both h
  refine wpAny_call (codeAny_mono ran ?_)
  rintro (_ | _ | _ | u | e) s' got
  all_goals first
    | exact Inv.after I got
    | exact (False.elim got)
    | exact hx pins σ H s _ s' I got
theorem pe_callG (F : FnG X.prog X.w X.K X.mg X.base CX k f fd ps sp) (gg : X.A.guards = some []) (hr : Room k X.A) (hg : Gl X x) (hm : X.mg x = some (.ref f)) (hk : PySem.W.keepIn X.K (.ref f) = true)
    (hb : Binds X.K fd ps ds) (hd : Vals dvs ds) (hx : Passes CX X E) (ha : PA X (e :: es) t) (hdb : (x == ("__debug__" : Str)) = false := by decide)
    (he : starEach (e :: es) X.env = (false, eval e X.env) :: starEach es X.env := by rfl) (hpl : (backTo pos (starEach es X.env)).any (·.1) = false := by rfl) :
    PE X (.Call (.Name x p) (e :: es) [] pos) (tCall sp dvs E t) :=
  ⟨fun pins s σ H Q I h => wpAny_Call_Name_kw (ld_glob I hg hm (PySem.W.callWith_K (h₀ := X.base) I.ok.mod.kin hk
    (thn (ha.run pos pins s σ H _ I h) fun us s1 ⟨vs, H1, I1, r, q⟩ => ⟨I1.kIn, runG F gg hr hb hd hx I1 r q⟩) he hpl) hdb)⟩
theorem pe_callG0 (F : FnG X.prog X.w X.K X.mg X.base CX k f fd ps sp) (gg : X.A.guards = some []) (hr : Room k X.A) (hg : Gl X x) (hm : X.mg x = some (.ref f)) (hk : PySem.W.keepIn X.K (.ref f) = true)
    (hb : Binds X.K fd ps ds) (hd : Vals dvs ds) (hx : Passes CX X E) (hdb : (x == ("__debug__" : Str)) = false := by decide) : PE X (.Call (.Name x p) [] [] pos) (tCall sp dvs E tNil) :=
  ⟨fun pins s σ H Q I h => wpAny_Call_Name_kw (ld_glob I hg hm (PySem.W.callWith_K0 I.kIn hk (runG (us := []) F gg hr hb hd hx I .nil h)) hdb)⟩
end

section
variable {P : Program} {w : World} {K : PySem.W.Frag} {mg : Str → Option Value} {base : Heap}
/-- a def of the text keeps its promise if its body does -/
theorem fnG {x qual : Str} {st : Stmt} {f : Addr} {fd : FuncData} {N ps : List Str} {k : Nat} {sp : Sp} (F : Fun K x qual st f fd) (S : FnScope N ps (defScope st)) (ln : ∀ vs H Q E, sp vs H Q E → vs.length = ps.length)
    (bd : ∀ (cdv : Value) (A : Around) (outer : List Env) (s : Shared) (H : Hp) (vs : List V) (Q : VK) (E : XK), Room k (A.deeper (envOfC qual (defScope st) s.heap.objs.size f cdv)) → (A.deeper (envOfC qual (defScope st) s.heap.objs.size f cdv)).guards = some [] →
      sp vs H Q E → ∃ t, PSs (cxOf CX0 P w K mg base N qual (defScope st) f cdv A outer s H E).nox (defBody st) t ∧ t { nx := fun _ H' => Q .non H', rt := Q } (start N vs) H) : FnG P w K mg base CX0 (k + 1) f fd ps sp := by
  obtain ⟨oc, od, kV, doc, pm, an, cdv, ct, osl, hfd, look, isC⟩ := F.ex
  subst hfd
  refine ⟨ln, ?_⟩
  intro A gA outer s H args us vs Q E room e0 bnd rel pr
  have inK : K.In s.heap := e0.mod.kin.keeps fun b o z => (e0.bs b o z).1
  have noL : s.heap.NoLimit := e0.mod.nolimit.keeps fun b o z => (e0.bs b o z).1
  have kinds : ∀ y ∈ ps.zip us, (defScope st).names.lookup y.1 = some .local ∨ ((defScope st).names.lookup y.1 = some .cell ∧ ((cellsFrom (s.heap.objs.size + 1) (defScope st).names []).lookup y.1).isSome = true) := by
    rintro ⟨n, v⟩ hy
    exact (S.par n (List.of_mem_zip hy).1).imp id fun q => ⟨q, PySem.W.cellsFrom_some _ _ _ (.inl q)⟩
  refine codeAny_call_function room.depth (inK _ _ look) rfl S.co S.gen rfl (PySem.W.codeRec_of inK isC) (bnd _ _ _ _ (wpAny_newFunctionEnv_cells S.kind kinds ?_))
  rintro env rfl s1 x1
  refine ⟨noL.keeps x1.toInCall.keep, codeAny_func ?_⟩
  obtain ⟨t, body, want⟩ := bd cdv A outer s H vs Q E (Room.deeper room _) (deeper_g gA) pr
  have inv0 := inv_start (E := E) (CX := CX0) (qual := qual) (cd := cdv) S room.hd e0 (ln _ _ _ _ pr) rel x1
  have ran := (body.nox).run [] s1 (start N vs) H _ inv0 want
  refine wpAny_mono ran ?_ (fun _ _ z => z)
  rintro (_ | _ | _ | u) s' got
  · obtain ⟨σ', H', J, q⟩ := got
    exact ⟨.non, H', J.os, J.bare, J.base, J.hok, rfl, q⟩
  · obtain ⟨_, _, _, q⟩ := got
    exact q.elim
  · obtain ⟨_, _, _, q⟩ := got
    exact q.elim
  · obtain ⟨v, σ', H', J, rv, q⟩ := got
    exact ⟨v, H', J.os, J.bare, J.base, J.hok, rv, q⟩

/-- a def by its name: where it stands, what it promises -/
def Cal (P : Program) (w : World) (K : PySem.W.Frag) (mg : Str → Option Value) (base : Heap) (x : Str) (ps : List Str) (k : Nat) (sp : Sp) : Prop :=
  ∃ (f : Addr) (fd : FuncData), FnG P w K mg base CX0 k f fd ps sp ∧ mg x = some (.ref f) ∧ PySem.W.keepIn K (.ref f) = true ∧ Binds K fd ps []
end

/-- the built-in names that the text uses -/
structure Bt (mg : Str → Option Value) : Prop where
  len : mg "len" = none
  list : mg "list" = none
  tuple : mg "tuple" = none
  int : mg "int" = none
  bool : mg "bool" = none
  str : mg "str" = none
  range : mg "range" = none
  min : mg "min" = none
  max : mg "max" = none
  sorted : mg "sorted" = none
  sum : mg "sum" = none
  all : mg "all" = none
  zip : mg "zip" = none
  enumerate : mg "enumerate" = none
  isinstance : mg "isinstance" = none
  repr : mg "repr" = none
  set : mg "set" = none
theorem bb_len : bootBuiltins "len" = some (.builtin "len") := by decide +kernel
theorem bb_list : bootBuiltins "list" = some (.type "list") := by decide +kernel
theorem bb_tuple : bootBuiltins "tuple" = some (.type "tuple") := by decide +kernel
theorem bb_int : bootBuiltins "int" = some (.type "int") := by decide +kernel
theorem bb_bool : bootBuiltins "bool" = some (.type "bool") := by decide +kernel
theorem bb_str : bootBuiltins "str" = some (.type "str") := by decide +kernel
theorem bb_min : bootBuiltins "min" = some (.builtin "min") := by decide +kernel
theorem bb_max : bootBuiltins "max" = some (.builtin "max") := by decide +kernel
theorem bb_sorted : bootBuiltins "sorted" = some (.builtin "sorted") := by decide +kernel
theorem bb_sum : bootBuiltins "sum" = some (.builtin "sum") := by decide +kernel
theorem bb_all : bootBuiltins "all" = some (.builtin "all") := by decide +kernel
theorem bb_isinstance : bootBuiltins "isinstance" = some (.builtin "isinstance") := by decide +kernel
theorem bb_repr : bootBuiltins "repr" = some (.builtin "repr") := by decide +kernel

/-- rules whose readings name the written part: within a comprehension it is named by hand -/
def qLen (K : PySem.W.Frag) : List V → Hp → VK → Prop := fun vs H Q => ∃ p ys, vs = [.ref p] ∧ (SqL K H p ys ∨ SqT K H p ys) ∧ Q (.int ys.length) H
def qListOf (K : PySem.W.Frag) : List V → Hp → VK → Prop := fun vs H Q => ∃ p ys, vs = [.ref p] ∧ (SqL K H p ys ∨ SqT K H p ys) ∧ ∀ l, H l = none → Q (.ref l) (upd H l (.lst ys))
def qTupOf (K : PySem.W.Frag) : List V → Hp → VK → Prop := fun vs H Q => ∃ p ys, vs = [.ref p] ∧ ((SqL K H p ys ∧ ∀ l, H l = none → Q (.ref l) (upd H l (.tup ys))) ∨ (SqT K H p ys ∧ Q (.ref p) H))
theorem q_len {X : Cx} : CallR X (.builtin "len") (qLen X.K) := call_len_seq
theorem q_list {X : Cx} : CallR X (.type "list") (qListOf X.K) := call_list_of
theorem q_tuple {X : Cx} : CallR X (.type "tuple") (qTupOf X.K) := call_tuple_of

/-- repr of a list or tuple of data -/
def rReprD (K : PySem.W.Frag) : List V → Hp → VK → Prop := fun xs H Q => ∃ x d, xs = [x] ∧ Dp K H x d ∧ isDisplay d = true ∧ d.showable = true ∧ d.hasDict = false ∧ d.depth ≤ 60 ∧ d.shown.length ≤ sizeLine ∧ Q (.str d.shown) H
theorem call_reprD {X : Cx} (gg : X.A.guards = some []) (hu : X.A.units + 64 < cLine) : CallR X (.builtin "repr") (rReprD X.K) := by
  rintro pins s σ H xs us Q I r ⟨x, d, rfl, hd, disp, show1, nd, dep, sz, q⟩
  obtain ⟨u, rfl, ru⟩ := vals1 r
  obtain ⟨as, rd⟩ := Dp.reads I d x u hd ru
  obtain ⟨a, rfl⟩ := isRef_of_reads rd disp
  exact repr_of_reads' rd show1 (PyData.noDict_hsm nd) gg (by omega) (fun _ _ z => z) (fun h' u tk old => ⟨.str d.shown, H, I.kept (t' := tk) old, ⟨u, rfl⟩, q⟩) sz
end Tr

/-! ### A1. The end of a law whose def is called where no repr runs -/
namespace Tr
open PySem PySem.Spec PyProof.Rows L2
section
variable {P : Program} {w : World} {K : PySem.W.Frag} {mg mb : Str → Option Value} {k : Nat} {fa a : Addr} {fd : FuncData} {x : Str} {sp : Sp} {s1 : Shared} {vs : List Value} {ns : List Int}
def EndsTrue (s1 : Shared) (r : Result) (s' : Shared) : Prop := r = .ok (.ret (.bool true)) ∧ OldK s1.heap s'.heap ∧ s'.os = s1.os ∧ AllBare s'.gens
/-- from one abstract heap that tracks the script alone, or nothing -/
theorem law_from {H : Hp} (KX : K.In s1.heap) (g1 : s1.heap.Ns mainGlobals mg) (g2 : s1.heap.Ns builtinsNs mb) (g3 : ∀ x : Str, x ≠ "__name__" → mb x = bootBuiltins x) (g4 : s1.heap.NoLimit) (g5 : s1.gens = #[])
    (g6 : s1.heap.get? a = some { cls := .type "list", data := .seq vs.toArray }) (hr : Room k callerA)
    (F : ∀ base : Heap, K.In base → base.Ns mainGlobals mg → FnG P w K mg base CX0 k fa fd [x] sp) (bnd : ∀ (s : Shared) (u : Value), BindsTo s fd ⟨[u], []⟩ [(x, u)])
    (pr : sp [.ref a] H (fun v _ => v = .bl true) fun _ _ _ => False) (only : Only H) (ok : HOk P w H s1.heap) (alone : ∀ b, H b ≠ none → b = a) (notK : H a ≠ none → K.lookup a = none) :
    codeAny (model P w) callerA (.call (.ref fa) ⟨[.ref a], []⟩) (EndsTrue s1) s1 := by
  have dictFree : ∀ {b : Addr} {o : Obj} {es : Array DictEntry} {ep : Nat}, s1.heap.get? b = some o → o.data = .dict es ep → H b = none := by
    intro b o es ep e d
    refine Classical.byContradiction fun q => ?_
    have hb := alone b q
    rw [hb, g6] at e
    have eo := Option.some.inj e
    rw [← eo] at d
    exact nomatch d
  have nsB : ∀ {b : Addr} {m : Str → Option Value}, s1.heap.Ns b m → (hidT s1.heap H).Ns b m := by
    rintro b m ⟨o, es, ep, e, d, more⟩
    exact ⟨o, es, ep, hidT_get e (dictFree e d), d, more⟩
  have inB : K.In (hidT s1.heap H) := by
    intro b o e
    refine hidT_get (KX b o e) (Classical.byContradiction fun q => ?_)
    have hb := alone b q
    have none_at := notK (hb ▸ q)
    rw [hb, none_at] at e
    cases e
  obtain ⟨mc, c1, c2⟩ := g4
  have md : Mod K mg (hidT s1.heap H) := { kin := inB, glob := nsB g1, blt := ⟨mb, nsB g2, g3⟩, nolimit := ⟨mc, nsB c1, c2⟩ }
  have e0 : Env0 P w K mg (hidT s1.heap H) callerA [] s1 H :=
    { frames := rfl, mod := md, bs := fun b o e => of_hidT e, bsz := Nat.le_of_eq (hidT_size _ _), funs := trivial, frf := fun b hb => absurd hb List.not_mem_nil, hok := ok, bare := .of_eq g5 }
  have ran := (F _ inB (nsB g1)).go callerA rfl [] s1 H ⟨[.ref a], []⟩ [.ref a] [.ref a] _ _ hr e0 (bnd s1 (.ref a)) (.cons rfl .nil) pr
  refine codeAny_mono ran ?_
  rintro (e | fl) s' got
  · exact False.elim got
  rcases fl with _ | _ | _ | u
  all_goals try exact False.elim got
  obtain ⟨v, H', os, bare, un, ok', rv, vt⟩ := got
  have vt' : v = .bl true := vt
  subst vt'
  have ut : u = Value.bool true := rv
  subst ut
  refine ⟨rfl, OldK.of_keep fun b o e => ?_, os, bare⟩
  have kept : H b = none → s'.heap.get? b = some o := fun q => un.keep b o e q List.not_mem_nil List.not_mem_nil
  rcases only b with q | ⟨ob, xs, q⟩
  · exact kept q
  · have was := (ok b _ q).1
    have now := (ok' b _ (un.frzs b ob _ q)).1
    rw [was] at e
    exact now.trans e
/-- the law's def at the heap behind the top -/
theorem law_goG (KX : K.In s1.heap) (g1 : s1.heap.Ns mainGlobals mg) (g2 : s1.heap.Ns builtinsNs mb) (g3 : ∀ x : Str, x ≠ "__name__" → mb x = bootBuiltins x) (g4 : s1.heap.NoLimit) (g5 : s1.gens = #[])
    (g6 : s1.heap.get? a = some { cls := .type "list", data := .seq vs.toArray }) (areInts : IntsAre vs ns) (short : ns.length ≤ sizeLine) (hr : Room k callerA)
    (F : ∀ base : Heap, K.In base → base.Ns mainGlobals mg → FnG P w K mg base CX0 k fa fd [x] sp) (bnd : ∀ (s : Shared) (u : Value), BindsTo s fd ⟨[u], []⟩ [(x, u)])
    (pr : ∀ H : Hp, Only H → SqL K H a (ns.map V.int) → sp [.ref a] H (fun v _ => v = .bl true) fun _ _ _ => False) :
    codeAny (model P w) callerA (.call (.ref fa) ⟨[.ref a], []⟩) (EndsTrue s1) s1 := by
  have rv := vals_ints areInts
  cases inK : K.lookup a with
  | some o =>
    have same := KX a o inK
    rw [g6] at same
    have eo := Option.some.inj same
    subst eo
    let H0 : Hp := fun _ => none
    have sq : SqL K H0 a (ns.map V.int) := .inr ⟨_, vs.toArray, _, inK, rfl, rfl, rfl, by rw [List.size_toArray, areInts.length]; exact short, by simpa using rv⟩
    exact law_from (H := H0) KX g1 g2 g3 g4 g5 g6 hr F bnd (pr H0 (fun _ => .inl rfl) sq) (fun _ => .inl rfl) (fun b u z => nomatch (show (none : Option HO) = some u from z)) (fun b z => (z rfl).elim) fun z => (z rfl).elim
  | none =>
    let scr : Obj := { cls := .type "list", data := .seq vs.toArray }
    let H1 : Hp := fun b => if b = a then some (.frz scr (.lst (ns.map V.int))) else none
    have at_a : H1 a = some (.frz scr (.lst (ns.map V.int))) := if_pos rfl
    have other : ∀ b, b ≠ a → H1 b = none := fun b h => if_neg h
    have only : Only H1 := fun b => (Decidable.em (b = a)).elim (fun h => .inr ⟨scr, ns.map V.int, h ▸ at_a⟩) fun h => .inl (other b h)
    refine law_from (H := H1) KX g1 g2 g3 g4 g5 g6 hr F bnd (pr H1 only (.inl (.inr ⟨scr, at_a⟩))) only (fun b u z => ?_) (fun b z => Decidable.byContradiction fun h => z (other b h)) fun _ => inK
    by_cases h : b = a
    · subst h
      rw [at_a] at z
      have eu := Option.some.inj z
      subst eu
      exact ⟨g6, by rw [List.length_map]; exact short, vs, 0, rv, g6⟩
    · rw [other b h] at z
      cases z
end
/-- what k_head leaves, from the law's promise -/
theorem walkG {l : PySem.W.OpenLaw} {n k : Nat} {q : Program} {loose : List Str} {XP : (Str → Option Value) → Heap → Prop} {YP : World → Heap → Prop} {d : DefRec} {K : Params → PySem.W.Frag} {sp : PySem.W.Frag → Sp} {x : Str}
    (most : l.most = some n) (n2 : n ≤ sizeLine) (nodef : d.params.defaults = []) (hr : Room k callerA) (inY : ∀ (w : World) (h : Heap), YP w h → (K w.params).In h)
    (F : ∀ (w : World) (mg : Str → Option Value) (fa : Addr) (h : Heap), (K w.params).In h → h.Ns mainGlobals mg → mg d.name = some (.ref fa) →
      ∃ fd : FuncData, (∀ (s : Shared) (u : Value), BindsTo s fd ⟨[u], []⟩ [(x, u)]) ∧ ∀ base : Heap, (K w.params).In base → base.Ns mainGlobals mg → FnG l.prog w (K w.params) mg base CX0 k fa fd [x] (sp (K w.params)))
    (pr : ∀ (K : PySem.W.Frag) (H : Hp) (a : Addr) (ns : List Int), ns.length ≤ n → Only H → SqL K H a (ns.map V.int) → sp K [.ref a] H (fun v _ => v = .bl true) fun _ _ _ => False) :
    PySem.W.WalkO q loose XP YP l.row.toRowW d [] (fun f vs => PySem.call f vs) := by
  refine Att.attach_call most nodef ?_
  intro w s0 s1 mg mb fa o pm cd doc a vs ns G Y ho hd hcd named hobj areInts len bare
  obtain ⟨fd, bnd, all⟩ := F w mg fa _ (inY w _ Y) G.T.g named
  exact law_goG (inY w _ Y) G.T.g G.T.b G.T.builtins G.T.nolimit bare hobj areInts (Nat.le_trans len n2) hr all bnd fun H only sq => pr _ H a ns len only sq
end Tr

/-! ### A2. What draws change; the draw itself -/
namespace Tr
open PySem PySem.Spec PyProof.Rows L2

/-- all but the objects at d and r stands -/
def Kp (d r : Addr) (H H' : Hp) : Prop := ∀ b o, H b = some o → b ≠ d → b ≠ r → H' b = some o
theorem Kp.refl (d r : Addr) (H : Hp) : Kp d r H H := fun _ _ h _ _ => h
theorem Kp.trans {d r : Addr} {H H1 H2 : Hp} (a : Kp d r H H1) (b : Kp d r H1 H2) : Kp d r H H2 := fun x o h n1 n2 => b x o (a x o h n1 n2) n1 n2
theorem Kp.of {d r : Addr} {H H' : Hp} (s : Same H H') : Kp d r H H' := fun b o h _ _ => s b o h
theorem same_new {H : Hp} {p : Addr} {o : HO} (h : H p = none) : Same H (upd H p o) := fun b u q => (upd_ne (ne_of_none q h)).trans q
theorem new_ne {H H' : Hp} {p b : Addr} {o : HO} (s : Same H H') (h : H b = some o) (n : H' p = none) : b ≠ p := ne_of_none (s b o h) n

/-- the drawn list at d: its cells at c, the turn n, its rests at r -/
structure Dr (H : Hp) (d c r : Addr) (n : Nat) : Prop where
  hd : H d = some (.lst [.ref c, .int n, .ref r])
  hc : ∃ cs rs : List Int, H c = some (.lst (cs.map V.int)) ∧ H r = some (.lst (rs.map V.int)) ∧ rs.length = cs.length ∧ 0 < cs.length ∧ cs.length ≤ 63
  cr : c ≠ r
/-- .. with at most N turns -/
def Dn (d c r : Addr) (N : Nat) (H : Hp) : Prop := ∃ n, n ≤ N ∧ Dr H d c r n
theorem map_int_ne {l : List Int} {c r : Addr} {n : Int} : (HO.lst (l.map V.int)) ≠ .lst [.ref c, .int n, .ref r] := by
  intro h
  have h2 : l.map V.int = [.ref c, .int n, .ref r] := by injection h
  cases l with
  | nil => cases h2
  | cons a b =>
    have h3 : V.int a = V.ref c := (List.cons.inj h2).1
    cases h3
theorem Dr.cd {H : Hp} {d c r : Addr} {n : Nat} (x : Dr H d c r n) : c ≠ d := by
  obtain ⟨cs, rs, h, _⟩ := x.hc
  exact ne_of h x.hd map_int_ne
theorem Dr.rd {H : Hp} {d c r : Addr} {n : Nat} (x : Dr H d c r n) : r ≠ d := by
  obtain ⟨cs, rs, _, h, _⟩ := x.hc
  exact ne_of h x.hd map_int_ne
theorem Dr.same {H H' : Hp} {d c r : Addr} {n : Nat} (x : Dr H d c r n) (s : Same H H') : Dr H' d c r n := by
  obtain ⟨cs, rs, h1, h2, h3⟩ := x.hc
  exact ⟨s _ _ x.hd, ⟨cs, rs, s _ _ h1, s _ _ h2, h3⟩, x.cr⟩
theorem Dn.same {H H' : Hp} {d c r : Addr} {N : Nat} (x : Dn d c r N H) (s : Same H H') : Dn d c r N H' := let ⟨n, h, q⟩ := x; ⟨n, h, q.same s⟩
theorem Dn.mono {H : Hp} {d c r : Addr} {N M : Nat} (x : Dn d c r N H) (h : N ≤ M) : Dn d c r M H := let ⟨n, e, q⟩ := x; ⟨n, Nat.le_trans e h, q⟩
theorem Dn.new {H : Hp} {d c r p : Addr} {N : Nat} {o : HO} (x : Dn d c r N H) (h : H p = none) : Dn d c r N (upd H p o) := x.same (same_new h)
/-- what is a tuple, or stands behind the drawn list, is none of it -/
theorem Dn.tup_ne {H : Hp} {d c r b : Addr} {N : Nat} {xs : List V} (x : Dn d c r N H) (h : H b = some (.tup xs)) : b ≠ d ∧ b ≠ r := by
  obtain ⟨n, _, q⟩ := x
  obtain ⟨cs, rs, _, h2, _⟩ := q.hc
  exact ⟨ne_of h q.hd (by intro z; cases z), ne_of h h2 (by intro z; cases z)⟩
theorem Dn.new_ne {H : Hp} {d c r p : Addr} {N : Nat} (x : Dn d c r N H) (h : H p = none) : p ≠ d ∧ p ≠ r ∧ p ≠ c := by
  obtain ⟨n, _, q⟩ := x
  obtain ⟨cs, rs, h1, h2, _⟩ := q.hc
  exact ⟨(ne_of_none q.hd h).symm, (ne_of_none h2 h).symm, (ne_of_none h1 h).symm⟩
/-- tuples stay -/
theorem Kp.tup {d c r b : Addr} {N : Nat} {H H' : Hp} {xs : List V} (k : Kp d r H H') (x : Dn d c r N H) (h : H b = some (.tup xs)) : H' b = some (.tup xs) := k b _ h (x.tup_ne h).1 (x.tup_ne h).2
/-- a list that is written by the caller: it is not of the drawn ones -/
theorem Dn.upd {H : Hp} {d c r p : Addr} {N : Nat} {o : HO} (x : Dn d c r N H) (h : p ≠ d ∧ p ≠ r ∧ p ≠ c) : Dn d c r N (upd H p o) := by
  obtain ⟨n, e, q⟩ := x
  obtain ⟨cs, rs, h1, h2, h3⟩ := q.hc
  exact ⟨n, e, ⟨(upd_ne h.1.symm).trans q.hd, ⟨cs, rs, (upd_ne h.2.2.symm).trans h1, (upd_ne h.2.1.symm).trans h2, h3⟩, q.cr⟩⟩

def TT : Nat := 2 ^ 24
/-- _law_next -/
def sp_law_next : Sp := fun vs H Q _ => ∃ (d c r : Addr) (N : Nat) (m : Int), vs = [.ref d, .int m] ∧ Dn d c r N H ∧ N < TT ∧ 0 < m ∧ m < 2 ^ 30 ∧
  ∀ (H' : Hp) (k : Int), 0 ≤ k → k < m → Dn d c r (N + 1) H' → Kp d r H H' → Q (.int k) H'
/-- _law_draws -/
def sp_law_draws (K : PySem.W.Frag) : Sp := fun vs H Q _ => ∃ (a : Addr) (ns : List Int), vs = [.ref a] ∧ SqL K H a (ns.map V.int) ∧ ns.length ≤ 63 ∧
  ∀ (H' : Hp) (d c r : Addr), Dn d c r 0 H' → Same H H' → Q (.ref d) H'

theorem fmod_bounds {a b : Int} (h : 0 < b) : 0 ≤ a.fmod b ∧ a.fmod b < b := ⟨Int.fmod_nonneg_of_pos a h, Int.fmod_lt_of_pos a h⟩
theorem sq_bounds {n : Int} (h0 : 0 ≤ n) (h1 : n < 16777216) : 0 ≤ 7001 * n * n ∧ 7001 * n * n ≤ 7001 * 281474976710656 := by
  have a : n * n ≤ 16777216 * 16777216 := Int.mul_le_mul (by omega) (by omega) h0 (by decide)
  have b : 0 ≤ n * n := Int.mul_nonneg h0 h0
  rw [Int.mul_assoc]
  constructor <;> omega
theorem nat64 {x : Int} (h0 : 0 ≤ x) (h1 : x < 18446744073709551616) : x.natAbs < 2 ^ 64 := by omega
theorem nz_a : (2147483629 : Int) ≠ 0 := by decide
theorem nz_b : (2147483587 : Int) ≠ 0 := by decide
theorem nz_c : (2147483563 : Int) ≠ 0 := by decide
theorem nz_d : (4611686018427387847 : Int) ≠ 0 := by decide
theorem mul_lo {n : Int} (h : 0 ≤ n) : -(2 ^ 64) < 7001 * n := by omega
theorem mul_hi {n : Int} (h : n < 16777216) : 7001 * n < 2 ^ 64 := by omega
theorem mid_mul {x : Int} (h : 0 ≤ x ∧ x < 2147483563) : -(2 ^ 64) < x ∧ x < 2 ^ 64 := by omega
theorem len_of_map {l : List Int} {n : Nat} (h : l.length = n) : (l.map V.int).length = n := (List.length_map _).trans h
theorem get_int {l : List Int} {i : Nat} (h : i < l.length) : (l.map V.int)[i]? = some (.int l[i]) := by
  rw [List.getElem?_map, List.getElem?_eq_getElem h] <;> rfl
/-- a place that is a rest by the length -/
theorem at_mod {l : List Int} {i : Int} (h0 : 0 ≤ i) (h1 : i < (l.length : Int)) : ∃ (j : Nat) (z : Int), i = (j : Int) ∧ j < l.length ∧ l[j]? = some z ∧ atI (l.map V.int) i = some (.int z) := by
  obtain ⟨j, rfl⟩ := Int.eq_ofNat_of_zero_le h0
  have hj : j < l.length := by omega
  exact ⟨j, l[j], rfl, hj, List.getElem?_eq_getElem hj, atI_nat (get_int hj)⟩
end Tr

/-! ### A3. Edges and trees as they lie in the heap -/
namespace Tr
open PySem PySem.Spec PyProof.Rows L2
/-- 0, 1, .., n - 1 -/
def rI (n : Nat) : List Int := (List.range n).map Int.ofNat
theorem rI_len (n : Nat) : (rI n).length = n := by unfold rI; rw [List.length_map, List.length_range]
theorem mem_rI {n : Nat} {z : Int} : z ∈ rI n ↔ 0 ≤ z ∧ z < (n : Int) := by
  unfold rI
  rw [List.mem_map]
  constructor
  · rintro ⟨i, hi, rfl⟩
    have := List.mem_range.mp hi
    exact ⟨Int.natCast_nonneg i, by show (i : Int) < n; omega⟩
  · rintro ⟨h0, h1⟩
    exact ⟨z.toNat, List.mem_range.mpr (by omega), by show ((z.toNat : Nat) : Int) = z; omega⟩
theorem rI_nodup (n : Nat) : (rI n).Nodup := List.pairwise_map.mpr (List.Pairwise.imp (fun h e => h (Int.ofNat.inj e)) List.nodup_range)
abbrev Ed := Int × Int × Int
def edV (e : Ed) : List Int := [e.1, e.2.1, e.2.2]
def edO (e : Ed) : Option HO := some (.tup ((edV e).map V.int))
/-- the tuples at as are the edges es -/
def EdsAt (H : Hp) (as : List Addr) (es : List Ed) : Prop := as.map H = es.map edO
theorem EdsAt.length {H : Hp} {as : List Addr} {es : List Ed} (h : EdsAt H as es) : as.length = es.length := by
  have := congrArg List.length h
  rwa [List.length_map, List.length_map] at this
theorem EdsAt.get {H : Hp} {as : List Addr} {es : List Ed} (h : EdsAt H as es) {i : Nat} {e : Ed} (g : es[i]? = some e) : ∃ a, as[i]? = some a ∧ H a = edO e := by
  have q : (as.map H)[i]? = (es.map edO)[i]? := by rw [h]
  rw [List.getElem?_map, List.getElem?_map, g] at q
  obtain ⟨a, ha, hh⟩ := Option.map_eq_some_iff.mp q
  exact ⟨a, ha, hh⟩
theorem EdsAt.get' {H : Hp} {as : List Addr} {es : List Ed} (h : EdsAt H as es) {i : Nat} {a : Addr} (g : as[i]? = some a) : ∃ e, es[i]? = some e ∧ H a = edO e := by
  have q : (as.map H)[i]? = (es.map edO)[i]? := by rw [h]
  rw [List.getElem?_map, List.getElem?_map, g] at q
  obtain ⟨e, he, hh⟩ := Option.map_eq_some_iff.mp q.symm
  exact ⟨e, he, hh.symm⟩
theorem EdsAt.mem {H : Hp} {as : List Addr} {es : List Ed} (h : EdsAt H as es) {a : Addr} (g : a ∈ as) : ∃ e ∈ es, H a = edO e := by
  have q : H a ∈ as.map H := List.mem_map_of_mem g
  rw [h] at q
  obtain ⟨e, he, hh⟩ := List.mem_map.mp q
  exact ⟨e, he, hh.symm⟩
theorem EdsAt.keep {H H' : Hp} {as : List Addr} {es : List Ed} (h : EdsAt H as es) (k : ∀ a xs, H a = some (.tup xs) → H' a = some (.tup xs)) : EdsAt H' as es := by
  have q : as.map H' = as.map H := List.map_congr_left fun a ha => by
    obtain ⟨e, _, he⟩ := h.mem ha
    rw [he]
    exact k a _ he
  exact q.trans h
theorem EdsAt.snoc {H : Hp} {as : List Addr} {es : List Ed} {a : Addr} {e : Ed} (h : EdsAt H as es) (g : H a = edO e) : EdsAt H (as ++ [a]) (es ++ [e]) := by
  unfold EdsAt
  rw [List.map_append, List.map_append, h]
  exact congrArg _ (congrArg (fun x => [x]) g)
theorem eds_nil {H : Hp} : EdsAt H [] [] := rfl
/-- another order -/
theorem perm_pull {α β : Type} (f : α → β) : ∀ {ys : List β} {xs : List β}, ys.Perm xs → ∀ as : List α, xs = as.map f → ∃ bs : List α, ys = bs.map f ∧ bs.Perm as := by
  intro ys xs h
  induction h with
  | nil =>
    intro as e
    cases as with
    | nil => exact ⟨[], rfl, List.Perm.nil⟩
    | cons a r => cases e
  | cons x _ ih =>
    intro as e
    cases as with
    | nil => cases e
    | cons a r =>
      rw [List.map_cons] at e
      obtain ⟨bs, e2, p⟩ := ih r (List.cons.inj e).2
      exact ⟨a :: bs, by rw [List.map_cons, ← e2, (List.cons.inj e).1], p.cons a⟩
  | swap x y l =>
    intro as e
    cases as with
    | nil => cases e
    | cons a r =>
      cases r with
      | nil =>
        have := (List.cons.inj e).2
        cases this
      | cons b r =>
        rw [List.map_cons, List.map_cons] at e
        have e1 := List.cons.inj e
        have e2 := List.cons.inj e1.2
        exact ⟨b :: a :: r, by rw [List.map_cons, List.map_cons, e1.1, e2.1, e2.2], List.Perm.swap a b r⟩
  | trans _ _ ih1 ih2 =>
    intro as e
    obtain ⟨bs, e1, p1⟩ := ih2 as e
    obtain ⟨cs, e2, p2⟩ := ih1 bs e1
    exact ⟨cs, e2, p2.trans p1⟩
theorem EdsAt.perm {H : Hp} {as bs : List Addr} {es : List Ed} (h : EdsAt H as es) (p : bs.Perm as) : ∃ fs : List Ed, EdsAt H bs fs ∧ fs.Perm es := by
  obtain ⟨fs, e, q⟩ := perm_pull edO (p.map H) es h
  exact ⟨fs, e, q⟩
/-- the tree (n, es) at t -/
def TrAt (H : Hp) (t : Addr) (n : Nat) (es : List Ed) : Prop := ∃ (q : Addr) (as : List Addr), H t = some (.tup [.int n, .ref q]) ∧ H q = some (.tup (as.map V.ref)) ∧ EdsAt H as es
theorem TrAt.keep {H H' : Hp} {t : Addr} {n : Nat} {es : List Ed} (h : TrAt H t n es) (k : ∀ a xs, H a = some (.tup xs) → H' a = some (.tup xs)) : TrAt H' t n es := by
  obtain ⟨q, as, h1, h2, h3⟩ := h
  exact ⟨q, as, k _ _ h1, k _ _ h2, h3.keep k⟩
theorem TrAt.same {H H' : Hp} {t : Addr} {n : Nat} {es : List Ed} (h : TrAt H t n es) (s : Same H H') : TrAt H' t n es := h.keep fun a xs e => s a _ e
theorem TrAt.kp {H H' : Hp} {d c r t : Addr} {N n : Nat} {es : List Ed} (h : TrAt H t n es) (D : Dn d c r N H) (k : Kp d r H H') : TrAt H' t n es := h.keep fun a xs e => k.tup D e
/-- as data -/
def edD (e : Ed) : PyData := .tuple [.int e.1, .int e.2.1, .int e.2.2]
def trD (n : Nat) (es : List Ed) : PyData := .tuple [.int n, .tuple (es.map edD)]
theorem edO_dp {K : PySem.W.Frag} {H : Hp} {a : Addr} {e : Ed} (h : H a = edO e) : Dp K H (.ref a) (edD e) :=
  .tup (SqT.of h) (.cons (.int _) (.cons (.int _) (.cons (.int _) .nil)))
theorem EdsAt.dp {K : PySem.W.Frag} {H : Hp} : ∀ {as : List Addr} {es : List Ed}, EdsAt H as es → DpAll K H (as.map V.ref) (es.map edD)
  | [], [], _ => .nil
  | [], _ :: _, h => by cases h
  | _ :: _, [], h => by cases h
  | a :: as, e :: es, h => by
    have h' : H a :: as.map H = edO e :: es.map edO := h
    exact .cons (edO_dp (List.cons.inj h').1) (EdsAt.dp (List.cons.inj h').2)
theorem TrAt.dp {K : PySem.W.Frag} {H : Hp} {t : Addr} {n : Nat} {es : List Ed} (h : TrAt H t n es) : Dp K H (.ref t) (trD n es) := by
  obtain ⟨q, as, h1, h2, h3⟩ := h
  exact .tup (SqT.of h1) (.cons (.int _) (.cons (.tup (SqT.of h2) h3.dp) .nil))
/-- the order of sorted -/
def BB : Int := 1000000001
def edLe (e f : Ed) : Prop := TS.code BB (edV e) ≤ TS.code BB (edV f)
def mnI (a b : Int) : Int := if b < a then b else a
def mxI (a b : Int) : Int := if b > a then b else a
def nrm (e : Ed) : Ed := (mnI e.1 e.2.1, mxI e.1 e.2.1, e.2.2)
def EdIn (e : Ed) : Prop := (0 ≤ e.1 ∧ e.1 < BB) ∧ (0 ≤ e.2.1 ∧ e.2.1 < BB) ∧ (0 ≤ e.2.2 ∧ e.2.2 < BB)
theorem nrm_in {e : Ed} (h : EdIn e) : EdIn (nrm e) := by
  obtain ⟨h1, h2, h3⟩ := h
  refine ⟨?_, ?_, h3⟩
  · show 0 ≤ mnI _ _ ∧ mnI _ _ < BB
    unfold mnI
    split <;> assumption
  · show 0 ≤ mxI _ _ ∧ mxI _ _ < BB
    unfold mxI
    split <;> assumption
theorem bd_of {e : Ed} (h : EdIn e) : TS.Bd BB (edV e) := by
  obtain ⟨h1, h2, h3⟩ := h
  intro m hm
  have hm' : m = e.1 ∨ m = e.2.1 ∨ m = e.2.2 := by simpa [edV] using hm
  rcases hm' with rfl | rfl | rfl <;> assumption
theorem eds_sorted {K : PySem.W.Frag} {H : Hp} : ∀ {as : List Addr} {es : List Ed}, EdsAt H as es →
    (as.map V.ref).Pairwise (fun x y => ∀ n m, TupI K H x n → TupI K H y m → TS.code BB n ≤ TS.code BB m) → es.Pairwise edLe
  | [], [], _, _ => List.Pairwise.nil
  | [], _ :: _, h, _ => by cases h
  | _ :: _, [], h, _ => by cases h
  | a :: as, e :: es, h, p => by
    have h' : H a :: as.map H = edO e :: es.map edO := h
    have p' := List.pairwise_cons.mp (show (V.ref a :: as.map V.ref).Pairwise _ from p)
    have tl : EdsAt H as es := (List.cons.inj h').2
    refine List.pairwise_cons.mpr ⟨fun f hf => ?_, eds_sorted tl p'.2⟩
    obtain ⟨j, hj⟩ := List.mem_iff_getElem?.mp hf
    obtain ⟨b, hb, hbo⟩ := tl.get hj
    exact p'.1 (.ref b) (List.mem_map_of_mem (List.mem_of_getElem? hb)) (edV e) (edV f) ⟨a, rfl, SqT.of (List.cons.inj h').1⟩ ⟨b, rfl, SqT.of hbo⟩
end Tr

/-! ### A4. Trees grown leaf by leaf -/
namespace Tr
open PySem PySem.Spec PyProof.Rows L2
/-- vs joined by es: one vertex, then leaf by leaf -/
inductive Grow : List Int → List Ed → Prop
  | one (v : Int) : Grow [v] []
  | leaf {vs : List Int} {es : List Ed} (x y d : Int) : Grow vs es → y ∈ vs → x ∉ vs → 1 ≤ d → d ≤ 1000000000 → Grow (vs ++ [x]) (es ++ [nrm (x, y, d)])
structure IsTree (n : Nat) (es : List Ed) : Prop where
  pos : 1 ≤ n
  grow : ∃ vs fs, Grow vs fs ∧ vs.Perm (rI n) ∧ es.Perm fs
  sorted : es.Pairwise edLe
theorem Grow.len {vs : List Int} {es : List Ed} (g : Grow vs es) : es.length + 1 = vs.length := by
  induction g with
  | one v => rfl
  | leaf x y d g hy hx h1 h2 ih => rw [List.length_append, List.length_append, ← ih]; rfl
theorem IsTree.len {n : Nat} {es : List Ed} (t : IsTree n es) : es.length + 1 = n := by
  obtain ⟨vs, fs, g, p, q⟩ := t.grow
  rw [q.length_eq, g.len, p.length_eq, rI_len]
theorem nrm_fst {x y d : Int} : nrm (x, y, d) = if y < x then (y, x, d) else (x, (if x < y then y else x), d) := by
  unfold nrm mnI mxI
  by_cases h : y < x
  · simp only [if_pos h, show ¬ y > x by omega, if_false]
  · by_cases h2 : x < y
    · simp only [if_neg h, show y > x from h2, if_true]
    · simp only [if_neg h, show ¬ y > x by omega, if_false]
/-- each edge joins two vertices, the smaller one first -/
theorem Grow.edge {vs : List Int} {es : List Ed} (g : Grow vs es) : ∀ e ∈ es, e.1 ∈ vs ∧ e.2.1 ∈ vs ∧ e.1 < e.2.1 ∧ 1 ≤ e.2.2 ∧ e.2.2 ≤ 1000000000 := by
  induction g with
  | one v => intro e he; cases he
  | @leaf vs es x y d g hy hx h1 h2 ih =>
    intro e he
    rcases List.mem_append.mp he with he | he
    · obtain ⟨a, b, c⟩ := ih e he
      exact ⟨List.mem_append_left _ a, List.mem_append_left _ b, c⟩
    · have e1 : e = nrm (x, y, d) := by simpa using he
      have hne : x ≠ y := fun z => hx (z ▸ hy)
      have hx' : x ∈ vs ++ [x] := by simp
      have hy' : y ∈ vs ++ [x] := List.mem_append_left _ hy
      rw [e1, nrm_fst]
      by_cases h : y < x
      · rw [if_pos h]; exact ⟨hy', hx', h, h1, h2⟩
      · have h3 : x < y := by omega
        rw [if_neg h, if_pos h3]; exact ⟨hx', hy', h3, h1, h2⟩
theorem IsTree.edge {n : Nat} {es : List Ed} (t : IsTree n es) : ∀ e ∈ es, 0 ≤ e.1 ∧ e.1 < e.2.1 ∧ e.2.1 < (n : Int) ∧ 1 ≤ e.2.2 ∧ e.2.2 ≤ 1000000000 := by
  obtain ⟨vs, fs, g, p, q⟩ := t.grow
  intro e he
  obtain ⟨a, b, c, d1, d2⟩ := g.edge e (q.mem_iff.mp he)
  have ha := mem_rI.mp (p.mem_iff.mp a)
  have hb := mem_rI.mp (p.mem_iff.mp b)
  exact ⟨ha.1, c, hb.2, d1, d2⟩
end Tr

/-! ### A5. Data that stands while tuples stand; equality of data, walks over two tuples -/
namespace Tr
open PySem PySem.Spec PyProof.Rows L2
theorem same_tup {K : PySem.W.Frag} {H H' : Hp} {a : Addr} {xs : List V} (e : Same H H') (h : SqT K H a xs) : SqT K H' a xs :=
  h.imp (fun q => q.imp (e _ _) fun ⟨o, z⟩ => ⟨o, e _ _ z⟩) id
mutual
theorem dp_same {K : PySem.W.Frag} {H H' : Hp} (s : Same H H') : ∀ {v : V} {d : PyData}, Dp K H v d → Dp K H' v d
  | _, _, .non => .non
  | _, _, .bl b => .bl b
  | _, _, .int i => .int i
  | _, _, .str x => .str x
  | _, _, .lst h q => .lst (s.seq h) (dps_same s q)
  | _, _, .tup h q => .tup (same_tup s h) (dps_same s q)
theorem dps_same {K : PySem.W.Frag} {H H' : Hp} (s : Same H H') : ∀ {vs : List V} {ds : List PyData}, DpAll K H vs ds → DpAll K H' vs ds
  | _, _, .nil => .nil
  | _, _, .cons h q => .cons (dp_same s h) (dps_same s q)
end
theorem dps_len {K : PySem.W.Frag} {H : Hp} : ∀ {vs : List V} {ds : List PyData}, DpAll K H vs ds → vs.length = ds.length
  | _, _, .nil => rfl
  | _, _, .cons _ q => congrArg Nat.succ (dps_len q)
theorem dps_get {K : PySem.W.Frag} {H : Hp} : ∀ {vs : List V} {ds : List PyData} {i : Nat} {d : PyData} {v : V}, DpAll K H vs ds → vs[i]? = some v → ds[i]? = some d → Dp K H v d
  | _, _, _, _, _, .nil, h, _ => by simp at h
  | _, _, 0, _, _, .cons h _, e1, e2 => by
    have z1 := Option.some.inj (show some _ = some _ from e1)
    have z2 := Option.some.inj (show some _ = some _ from e2)
    rw [← z1, ← z2]
    exact h
  | _, _, i + 1, _, _, .cons _ q, e1, e2 => dps_get (i := i) q (by simpa using e1) (by simpa using e2)
theorem tyx_tup {K : PySem.W.Frag} {H : Hp} {a : Addr} {xs : List V} (h : SqT K H a xs) : TyX K H (.ref a) (.type "tuple") := by
  rcases h with (h | ⟨o, h⟩) | ⟨o, its, n, h, c, _⟩
  · exact .base (.tup h)
  · exact .fTuple h
  · exact .kTuple h c
/-- numbers, texts, None, and tuples of such, less than n deep -/
def okd : Nat → PyData → Bool
  | 0, _ => false
  | n + 1, d => match d with
    | .none => true
    | .bool _ => true
    | .int _ => true
    | .str _ => true
    | .tuple ds => decide (ds.length ≤ 1000) && ds.all (okd n)
    | _ => false
theorem walk_zipT {K : PySem.W.Frag} {a b : Addr} {xs ys : List V} (hn : xs.length = ys.length) : Walk (RZ.ItzT K a b) xs.length (fun H => SqT K H a xs ∧ SqT K H b ys) (YPair (fun i => xs[i]?) (fun i => ys[i]?)) := by
  refine ⟨fun i H hi q => ⟨xs, ys, xs[i], ys[i], q.1, q.2, List.getElem?_eq_getElem hi, List.getElem?_eq_getElem (by omega)⟩, fun H q => ⟨xs, ys, q.1, q.2, .inl (Nat.le_refl _)⟩, fun i H v H' hi q y => ?_⟩
  obtain ⟨T, x, z, h1, h2, h3, h4, h5⟩ := y
  exact ⟨T, x, z, h1, h2, h3, h4 _ q.1, h5 _ q.2⟩
theorem isi {K : PySem.W.Frag} {H : Hp} {x : V} {T t : String} {b : Bool} {Q : VK} (ty : TyX K H x (.type t)) (k : kitB t T = some b) (q : Q (.bl b) H) : rIsi K [x, .ty T] H Q := ⟨x, .ty T, _, _, b, rfl, .ty T, ty, kit_ty k, q⟩
theorem iteD {c A B : Prop} [Decidable c] (hc : c) (h : A) : if (decide c) = true then A else B := by
  rw [decide_eq_true hc]
  exact iteT h
theorem q_dec {c : Prop} [Decidable c] {Q : VK} {H : Hp} (hc : c) (h : Q (.bl true) H) : Q (.bl (decide c)) H := by
  rw [decide_eq_true hc]
  exact h
theorem all_true {bs : List Bool} (h : ∀ b ∈ bs, b = true) : bs.all id = true := List.all_eq_true.mpr h
end Tr

/-! ### A6. Neighbours -/
namespace Tr
open PySem PySem.Spec PyProof.Rows L2
/-- the other ends of the edges of v, in the edges' order -/
def nbE (v : Int) (e : Ed) : List Int := (if e.1 = v then [e.2.1] else []) ++ (if e.2.1 = v then [e.1] else [])
def nbrs (es : List Ed) (v : Int) : List Int := es.flatMap (nbE v)
def upE (v : Int) (e : Ed) : Bool := decide (e.1 = v)
def dnE (v : Int) (e : Ed) : Bool := decide (e.2.1 = v)
def nbrs2 (es : List Ed) (v : Int) : List Int := (es.filter (upE v)).map (·.2.1) ++ (es.filter (dnE v)).map (·.1)
theorem nbrs_perm (v : Int) : ∀ es : List Ed, (nbrs es v).Perm (nbrs2 es v)
  | [] => List.Perm.refl _
  | e :: es => by
    have ih := nbrs_perm v es
    unfold nbrs nbrs2 at *
    rw [List.flatMap_cons]
    unfold nbE upE dnE at *
    by_cases h1 : e.1 = v <;> by_cases h2 : e.2.1 = v
    · rw [if_pos h1, if_pos h2, List.filter_cons_of_pos (by simpa using h1), List.filter_cons_of_pos (by simpa using h2)]
      show (e.2.1 :: e.1 :: List.flatMap _ es).Perm (e.2.1 :: (_ ++ (e.1 :: _)))
      exact (((ih.cons e.1).trans List.perm_middle.symm)).cons e.2.1
    · rw [if_pos h1, if_neg h2, List.filter_cons_of_pos (by simpa using h1), List.filter_cons_of_neg (by simpa using h2)]
      exact ih.cons e.2.1
    · rw [if_neg h1, if_pos h2, List.filter_cons_of_neg (by simpa using h1), List.filter_cons_of_pos (by simpa using h2)]
      exact (ih.cons e.1).trans List.perm_middle.symm
    · rw [if_neg h1, if_neg h2, List.filter_cons_of_neg (by simpa using h1), List.filter_cons_of_neg (by simpa using h2)]
      exact ih
theorem nbE_len (v : Int) (e : Ed) : (nbE v e).length ≤ 2 := by
  unfold nbE
  split <;> split <;> simp
theorem sum_le2 {f : Ed → Nat} (h : ∀ e, f e ≤ 2) : ∀ {l : List Ed}, (l.map f).sum ≤ 2 * l.length
  | [] => Nat.le_refl 0
  | e :: l => by
    have := h e
    have := sum_le2 h (l := l)
    rw [List.map_cons, List.sum_cons, List.length_cons]
    omega
/-- two ordered lists with the same numbers are one -/
theorem sorted_eq : ∀ {a b : List Int}, a.Perm b → a.Pairwise (· ≤ ·) → b.Pairwise (· ≤ ·) → a = b
  | [], b, p, _, _ => (List.Perm.eq_nil p.symm).symm
  | x :: a, [], p, _, _ => by
    have := p.length_eq
    simp at this
  | x :: a, y :: b, p, h1, h2 => by
    have h1' := List.pairwise_cons.mp h1
    have h2' := List.pairwise_cons.mp h2
    have mx : x ∈ y :: b := p.mem_iff.mp List.mem_cons_self
    have my : y ∈ x :: a := p.mem_iff.mpr List.mem_cons_self
    have e : x = y := by
      rcases List.mem_cons.mp mx with z | z
      · exact z
      · rcases List.mem_cons.mp my with w | w
        · exact w.symm
        · have := h1'.1 y w
          have := h2'.1 x z
          omega
    subst e
    rw [sorted_eq (List.Perm.cons_inv p) h1'.2 h2'.2]
end Tr

/-! ### A7. What repr and == ask of data: tuples of numbers -/
namespace Tr
open PySem PySem.Spec PyProof.Rows L2
mutual
def numD : PyData → Bool
  | .none => true
  | .bool _ => true
  | .int i => decide (i.natAbs.log2 < 1920)
  | .tuple xs => numA xs
  | _ => false
def numA : List PyData → Bool
  | [] => true
  | x :: xs => numD x && numA xs
end
mutual
def nodes : PyData → Nat
  | .tuple xs => 1 + nodesA xs
  | _ => 1
def nodesA : List PyData → Nat
  | [] => 0
  | x :: xs => nodes x + nodesA xs
end
theorem tup_len (ts : List Str) : (tupleText ts).length ≤ piled ts + 3 := by
  have e1 : (Str.ofString "(").length = 1 := by decide
  have e2 : (Str.ofString ",)").length = 2 := by decide
  have e3 : (Str.ofString ")").length = 1 := by decide
  have j : (Str.join ", " ts).length ≤ piled ts := by
    cases ts with
    | nil => decide
    | cons x r =>
      have := join_length_add (x :: r) (by simp)
      omega
  unfold tupleText
  rw [Str.length_append, Str.length_append, e1]
  split
  · rw [e2]; omega
  · rw [e3]; omega
mutual
theorem shown_le : ∀ d : PyData, numD d = true → d.shown.length + 5 ≤ 1935 * nodes d
  | .none, _ => by
    have e : (Str.ofString "None").length = 4 := by decide
    show (Str.ofString "None").length + 5 ≤ 1935 * 1
    omega
  | .bool b, _ => by
    have e : (Str.ofString "True").length = 4 := by decide
    have e' : (Str.ofString "False").length = 5 := by decide
    cases b
    · show (Str.ofString "False").length + 5 ≤ 1935 * 1
      omega
    · show (Str.ofString "True").length + 5 ≤ 1935 * 1
      omega
  | .int i, h => by
    have := int_text_len_1921 (i := i) (of_decide_eq_true h)
    show (Str.ofString (toString i)).length + 5 ≤ 1935 * 1
    omega
  | .tuple xs, h => by
    have := shownA_le xs h
    have t := tup_len (PyData.shownAll xs)
    show (tupleText (PyData.shownAll xs)).length + 5 ≤ 1935 * (1 + nodesA xs)
    omega
  | .str _, h => by cases h
  | .list _, h => by cases h
  | .dict _, h => by cases h
theorem shownA_le : ∀ xs : List PyData, numA xs = true → piled (PyData.shownAll xs) ≤ 1935 * nodesA xs
  | [], _ => Nat.le_refl 0
  | x :: xs, h => by
    have h' : numD x = true ∧ numA xs = true := by
      have : (numD x && numA xs) = true := h
      rwa [Bool.and_eq_true] at this
    have a := shown_le x h'.1
    have b := shownA_le xs h'.2
    show piled (x.shown :: PyData.shownAll xs) ≤ 1935 * (nodes x + nodesA xs)
    rw [piled_cons]
    omega
end
mutual
theorem num_facts : ∀ d : PyData, numD d = true → d.showable = true ∧ d.hasDict = false ∧ d.canLay0 = true
  | .none, _ => ⟨rfl, rfl, rfl⟩
  | .bool _, _ => ⟨rfl, rfl, rfl⟩
  | .int i, h => ⟨h, rfl, rfl⟩
  | .tuple xs, h => numA_facts xs h
  | .str _, h => by cases h
  | .list _, h => by cases h
  | .dict _, h => by cases h
theorem numA_facts : ∀ xs : List PyData, numA xs = true → PyData.showableAll xs = true ∧ PyData.hasDictAll xs = false ∧ PyData.canLayAll0 xs = true
  | [], _ => ⟨rfl, rfl, rfl⟩
  | x :: xs, h => by
    have h' : numD x = true ∧ numA xs = true := by
      have : (numD x && numA xs) = true := h
      rwa [Bool.and_eq_true] at this
    obtain ⟨a1, a2, a3⟩ := num_facts x h'.1
    obtain ⟨b1, b2, b3⟩ := numA_facts xs h'.2
    exact ⟨by show (x.showable && PyData.showableAll xs) = true; rw [a1, b1]; rfl, by show (x.hasDict || PyData.hasDictAll xs) = false; rw [a2, b2]; rfl, by show (x.canLay0 && PyData.canLayAll0 xs) = true; rw [a3, b3]; rfl⟩
end
theorem numA_map {α : Type} {f : α → PyData} : ∀ {l : List α}, (∀ x ∈ l, numD (f x) = true) → numA (l.map f) = true
  | [], _ => rfl
  | a :: l, h => by
    show (numD (f a) && numA (l.map f)) = true
    rw [h a List.mem_cons_self, numA_map fun x hx => h x (List.mem_cons_of_mem _ hx)]
    rfl
theorem nodesA_map {α : Type} {f : α → PyData} {k : Nat} : ∀ {l : List α}, (∀ x ∈ l, nodes (f x) ≤ k) → nodesA (l.map f) ≤ k * l.length
  | [], _ => Nat.le_refl 0
  | a :: l, h => by
    have := h a List.mem_cons_self
    have := nodesA_map (l := l) fun x hx => h x (List.mem_cons_of_mem _ hx)
    show nodes (f a) + nodesA (l.map f) ≤ k * (l.length + 1)
    rw [Nat.mul_add]
    omega
theorem depthA_map {α : Type} {f : α → PyData} {k : Nat} : ∀ {l : List α}, (∀ x ∈ l, (f x).depth ≤ k) → PyData.depthAll (l.map f) ≤ k
  | [], _ => Nat.zero_le _
  | a :: l, h => Nat.max_le.mpr ⟨h a List.mem_cons_self, depthA_map fun x hx => h x (List.mem_cons_of_mem _ hx)⟩
/-- a number that may be shown -/
theorem log_small {i : Int} (h0 : 0 ≤ i) (h1 : i < 2 ^ 64) : i.natAbs.log2 < 1920 := by
  have h : i.natAbs < 2 ^ 64 := by omega
  by_cases z : i.natAbs = 0
  · rw [z]; decide
  · have := (Nat.log2_lt z).mpr h
    omega
def EdSh (e : Ed) : Prop := (0 ≤ e.1 ∧ e.1 < 2 ^ 64) ∧ (0 ≤ e.2.1 ∧ e.2.1 < 2 ^ 64) ∧ (0 ≤ e.2.2 ∧ e.2.2 < 2 ^ 64)
theorem edD_num {e : Ed} (h : EdSh e) : numD (edD e) = true := by
  show (decide (e.1.natAbs.log2 < 1920) && (decide (e.2.1.natAbs.log2 < 1920) && (decide (e.2.2.natAbs.log2 < 1920) && true))) = true
  rw [decide_eq_true (log_small h.1.1 h.1.2), decide_eq_true (log_small h.2.1.1 h.2.1.2), decide_eq_true (log_small h.2.2.1 h.2.2.2)]
  rfl
theorem trD_num {n : Nat} {es : List Ed} (hn : n < 2 ^ 64) (h : ∀ e ∈ es, EdSh e) : numD (trD n es) = true := by
  show (decide ((n : Int).natAbs.log2 < 1920) && (numA (es.map edD) && true)) = true
  rw [decide_eq_true (log_small (i := (n : Int)) (by omega) (by omega)), numA_map fun e he => edD_num (h e he)]
  rfl
theorem trD_depth {n : Nat} {es : List Ed} : (trD n es).depth ≤ 3 := by
  show max 0 (max (PyData.depthAll (es.map edD) + 1) 0) + 1 ≤ 3
  have : PyData.depthAll (es.map edD) ≤ 1 := depthA_map fun e _ => Nat.le_refl 1
  omega
theorem trD_nodes {n : Nat} {es : List Ed} : nodes (trD n es) ≤ 3 + 4 * es.length := by
  show 1 + (1 + ((1 + nodesA (es.map edD)) + 0)) ≤ _
  have : nodesA (es.map edD) ≤ 4 * es.length := nodesA_map fun e _ => Nat.le_refl 4
  omega
/-- what repr of data asks -/
def Shw (d : PyData) : Prop := isDisplay d = true ∧ d.showable = true ∧ d.hasDict = false ∧ d.depth ≤ 60 ∧ d.shown.length ≤ sizeLine
theorem shw_tree {n : Nat} {es : List Ed} (hn : n < 2 ^ 64) (he : ∀ e ∈ es, EdSh e) (hl : es.length ≤ 1000) : Shw (trD n es) := by
  have num := trD_num hn he
  obtain ⟨a1, a2, a3⟩ := num_facts _ num
  have sz := shown_le _ num
  have nd := trD_nodes (n := n) (es := es)
  have z : sizeLine = 16777216 := sizeLine_eq
  have dp := trD_depth (n := n) (es := es)
  exact ⟨rfl, a1, a2, by omega, by omega⟩
theorem shaped_of {d : PyData} (h : numD d = true) (hd : d.depth ≤ 64) : SeqAt.shaped d = true := by
  show (d.canLay0 && decide (d.depth ≤ 64)) = true
  rw [(num_facts d h).2.2, decide_eq_true hd]
  rfl
theorem shaped_list {ds : List PyData} (h : numA ds = true) (hd : PyData.depthAll ds ≤ 63) : SeqAt.shaped (.list ds) = true := by
  have e : decide ((PyData.list ds).depth ≤ 64) = true := decide_eq_true (by show PyData.depthAll ds + 1 ≤ 64; omega)
  show (PyData.canLayAll0 ds && decide ((PyData.list ds).depth ≤ 64)) = true
  rw [(numA_facts ds h).2.2, e]
  rfl
/-- a tree that the law holds in hand -/
structure GoodT (H : Hp) (t : Addr) (n : Nat) (es : List Ed) : Prop where
  tr : TrAt H t n es
  len : es.length ≤ 15
  n1 : 1 ≤ n
  n16 : n ≤ 16
  sh : ∀ e ∈ es, EdSh e
theorem GoodT.same {H H' : Hp} {t : Addr} {n : Nat} {es : List Ed} (g : GoodT H t n es) (s : Same H H') : GoodT H' t n es := ⟨g.tr.same s, g.len, g.n1, g.n16, g.sh⟩
theorem GoodT.kp {H H' : Hp} {d c r t : Addr} {N n : Nat} {es : List Ed} (g : GoodT H t n es) (D : Dn d c r N H) (k : Kp d r H H') : GoodT H' t n es := ⟨g.tr.kp D k, g.len, g.n1, g.n16, g.sh⟩
theorem GoodT.of {H : Hp} {t : Addr} {n : Nat} {es : List Ed} (t1 : IsTree n es) (h : n ≤ 16) (tr : TrAt H t n es) : GoodT H t n es := by
  refine ⟨tr, ?_, t1.pos, h, fun e he => ?_⟩
  · have := t1.len
    omega
  · obtain ⟨a, b, c, d1, d2⟩ := t1.edge e he
    exact ⟨⟨a, by omega⟩, ⟨by omega, by omega⟩, ⟨by omega, by omega⟩⟩
theorem GoodT.shw {H : Hp} {t : Addr} {n : Nat} {es : List Ed} (g : GoodT H t n es) : Shw (trD n es) := shw_tree (by have := g.n16; omega) g.sh (by have := g.len; omega)
theorem EdsAt.set {H : Hp} {as : List Addr} {es : List Ed} (h : EdsAt H as es) {a : Addr} {e : Ed} (j : Nat) (ha : H a = edO e) : EdsAt H (as.set j a) (es.set j e) := by
  unfold EdsAt
  rw [List.map_set, List.map_set, h, ha]
theorem iteNT {A B : Prop} (h : B) : if (!true) = true then A else B := by
  rw [if_neg (by decide)]
  exact h
theorem mem_set {α : Type} {l : List α} {j : Nat} {a x : α} (h : x ∈ l.set j a) : x ∈ l ∨ x = a := List.mem_or_eq_of_mem_set h
theorem dps_ints {K : PySem.W.Frag} {H : Hp} : ∀ l : List Int, DpAll K H (l.map V.int) (l.map PyData.int)
  | [] => .nil
  | a :: l => .cons (.int a) (dps_ints l)
theorem okd_ints {l : List Int} (h : l.length ≤ 1000) : okd 2 (.tuple (l.map PyData.int)) = true := by
  show (decide ((l.map PyData.int).length ≤ 1000) && (l.map PyData.int).all (okd 1)) = true
  rw [decide_eq_true (by rw [List.length_map]; exact h), Bool.true_and, List.all_eq_true]
  intro d hd
  obtain ⟨i, _, rfl⟩ := List.mem_map.mp hd
  rfl
theorem nbrs_len (es : List Ed) (v : Int) : (nbrs es v).length ≤ 2 * es.length := by
  unfold nbrs
  rw [List.length_flatMap]
  exact sum_le2 fun e => nbE_len v e
end Tr

/-! ### A8. Joined vertices, branches -/
namespace Tr
open PySem PySem.Spec PyProof.Rows L2
def Adj (es : List Ed) (x y : Int) : Prop := ∃ e ∈ es, (e.1 = x ∧ e.2.1 = y) ∨ (e.1 = y ∧ e.2.1 = x)
theorem Adj.symm {es : List Ed} {x y : Int} (h : Adj es x y) : Adj es y x := let ⟨e, he, q⟩ := h; ⟨e, he, q.symm⟩
theorem Adj.mono {es fs : List Ed} (s : ∀ e ∈ es, e ∈ fs) {x y : Int} (h : Adj es x y) : Adj fs x y := let ⟨e, he, q⟩ := h; ⟨e, s e he, q⟩
inductive Conn (es : List Ed) : Int → Int → Prop
  | refl (u : Int) : Conn es u u
  | step {u v w : Int} : Conn es u v → Adj es v w → Conn es u w
theorem Conn.one {es : List Ed} {x y : Int} (h : Adj es x y) : Conn es x y := .step (.refl x) h
theorem Conn.trans {es : List Ed} {x y z : Int} (a : Conn es x y) (b : Conn es y z) : Conn es x z := by
  induction b with
  | refl => exact a
  | step _ h ih => exact .step ih h
theorem Conn.symm {es : List Ed} {x y : Int} (a : Conn es x y) : Conn es y x := by
  induction a with
  | refl => exact .refl _
  | step _ h ih => exact (Conn.one h.symm).trans ih
theorem Conn.mono {es fs : List Ed} (s : ∀ e ∈ es, e ∈ fs) {x y : Int} (a : Conn es x y) : Conn fs x y := by
  induction a with
  | refl => exact .refl _
  | step _ h ih => exact .step ih (h.mono s)
theorem adj_snoc {es : List Ed} {e : Ed} {x y : Int} : Adj (es ++ [e]) x y ↔ Adj es x y ∨ (e.1 = x ∧ e.2.1 = y) ∨ (e.1 = y ∧ e.2.1 = x) := by
  constructor
  · rintro ⟨f, hf, q⟩
    rcases List.mem_append.mp hf with hf | hf
    · exact .inl ⟨f, hf, q⟩
    · have : f = e := by simpa using hf
      rw [this] at q
      exact .inr q
  · rintro (⟨f, hf, q⟩ | q)
    · exact ⟨f, List.mem_append_left _ hf, q⟩
    · exact ⟨e, by simp, q⟩
/-- one more edge -/
theorem conn_snoc {es : List Ed} {e : Ed} {x y : Int} : Conn (es ++ [e]) x y ↔ Conn es x y ∨ (Conn es x e.1 ∧ Conn es e.2.1 y) ∨ (Conn es x e.2.1 ∧ Conn es e.1 y) := by
  constructor
  · intro h
    induction h with
    | refl => exact .inl (.refl _)
    | step _ hs ih =>
      rcases adj_snoc.mp hs with q | ⟨e1, e2⟩ | ⟨e1, e2⟩
      · rcases ih with ih | ⟨a, b⟩ | ⟨a, b⟩
        · exact .inl (.step ih q)
        · exact .inr (.inl ⟨a, .step b q⟩)
        · exact .inr (.inr ⟨a, .step b q⟩)
      · subst e1 e2
        rcases ih with ih | ⟨a, b⟩ | ⟨a, b⟩
        · exact .inr (.inl ⟨ih, .refl _⟩)
        · exact .inr (.inl ⟨a, .refl _⟩)
        · exact .inl a
      · subst e1 e2
        rcases ih with ih | ⟨a, b⟩ | ⟨a, b⟩
        · exact .inr (.inr ⟨ih, .refl _⟩)
        · exact .inl a
        · exact .inr (.inr ⟨a, .refl _⟩)
  · have up : ∀ {a b : Int}, Conn es a b → Conn (es ++ [e]) a b := fun h => h.mono fun f hf => List.mem_append_left _ hf
    have ad : Adj (es ++ [e]) e.1 e.2.1 := ⟨e, by simp, .inl ⟨rfl, rfl⟩⟩
    rintro (h | ⟨a, b⟩ | ⟨a, b⟩)
    · exact up h
    · exact ((up a).step ad).trans (up b)
    · exact ((up a).step ad.symm).trans (up b)
/-- the edges without the one between v and a -/
def isE (v a : Int) (e : Ed) : Bool := decide ((e.1 = v ∧ e.2.1 = a) ∨ (e.1 = a ∧ e.2.1 = v))
def cutE (es : List Ed) (v a : Int) : List Ed := es.filter fun e => !isE v a e
theorem mem_cut {es : List Ed} {v a : Int} {e : Ed} : e ∈ cutE es v a ↔ e ∈ es ∧ ¬ ((e.1 = v ∧ e.2.1 = a) ∨ (e.1 = a ∧ e.2.1 = v)) := by
  unfold cutE isE
  rw [List.mem_filter]
  simp only [Bool.not_eq_true', decide_eq_false_iff_not]
theorem cut_symm (es : List Ed) (v a : Int) : cutE es v a = cutE es a v := by
  unfold cutE isE
  refine List.filter_congr fun e _ => ?_
  exact congrArg not (decide_eq_decide.mpr ⟨Or.symm, Or.symm⟩)
theorem adj_cut {es : List Ed} {v a x y : Int} : Adj (cutE es v a) x y ↔ Adj es x y ∧ ¬ ((x = v ∧ y = a) ∨ (x = a ∧ y = v)) := by
  constructor
  · rintro ⟨e, he, q⟩
    obtain ⟨h1, h2⟩ := mem_cut.mp he
    refine ⟨⟨e, h1, q⟩, fun z => h2 ?_⟩
    rcases q with ⟨q1, q2⟩ | ⟨q1, q2⟩ <;> rcases z with ⟨z1, z2⟩ | ⟨z1, z2⟩ <;> subst q1 q2 z1 z2
    · exact .inl ⟨rfl, rfl⟩
    · exact .inr ⟨rfl, rfl⟩
    · exact .inr ⟨rfl, rfl⟩
    · exact .inl ⟨rfl, rfl⟩
  · rintro ⟨⟨e, he, q⟩, z⟩
    refine ⟨e, mem_cut.mpr ⟨he, fun h => z ?_⟩, q⟩
    rcases q with ⟨q1, q2⟩ | ⟨q1, q2⟩ <;> rcases h with ⟨z1, z2⟩ | ⟨z1, z2⟩
    · exact .inl ⟨q1 ▸ z1, q2 ▸ z2⟩
    · exact .inr ⟨q1 ▸ z1, q2 ▸ z2⟩
    · exact .inr ⟨q2 ▸ z2, q1 ▸ z1⟩
    · exact .inl ⟨q2 ▸ z2, q1 ▸ z1⟩
theorem mem_nbrs {es : List Ed} {v w : Int} : w ∈ nbrs es v ↔ Adj es v w := by
  unfold nbrs nbE
  rw [List.mem_flatMap]
  constructor
  · rintro ⟨e, he, h⟩
    rcases List.mem_append.mp h with h | h
    · by_cases c : e.1 = v
      · rw [if_pos c] at h
        have : w = e.2.1 := by simpa using h
        exact ⟨e, he, .inl ⟨c, this.symm⟩⟩
      · rw [if_neg c] at h
        cases h
    · by_cases c : e.2.1 = v
      · rw [if_pos c] at h
        have : w = e.1 := by simpa using h
        exact ⟨e, he, .inr ⟨this.symm, c⟩⟩
      · rw [if_neg c] at h
        cases h
  · rintro ⟨e, he, ⟨q1, q2⟩ | ⟨q1, q2⟩⟩
    · exact ⟨e, he, List.mem_append_left _ (by rw [if_pos q1, q2]; exact List.mem_singleton_self _)⟩
    · exact ⟨e, he, List.mem_append_right _ (by rw [if_pos q2, q1]; exact List.mem_singleton_self _)⟩
/-- what a tree is for walks: its vertices, no vertex twice among the neighbours, each edge a bridge -/
structure Wood (n : Nat) (es : List Ed) : Prop where
  rng : ∀ x y, Adj es x y → 0 ≤ x ∧ x < (n : Int)
  ne : ∀ x y, Adj es x y → x ≠ y
  nd : ∀ v, (nbrs es v).Nodup
  br : ∀ x y, Adj es x y → ¬ Conn (cutE es x y) x y
  all : ∀ x y, 0 ≤ x → x < (n : Int) → 0 ≤ y → y < (n : Int) → Conn es x y
theorem nrm_ends {x y d : Int} : ((nrm (x, y, d)).1 = x ∧ (nrm (x, y, d)).2.1 = y) ∨ ((nrm (x, y, d)).1 = y ∧ (nrm (x, y, d)).2.1 = x) := by
  rw [nrm_fst]
  by_cases h : y < x
  · rw [if_pos h]; exact .inr ⟨rfl, rfl⟩
  · rw [if_neg h]
    by_cases h2 : x < y
    · rw [if_pos h2]; exact .inl ⟨rfl, rfl⟩
    · rw [if_neg h2]
      have : x = y := by omega
      exact .inl ⟨rfl, this⟩
theorem Grow.adj {vs : List Int} {es : List Ed} (g : Grow vs es) {x y : Int} (h : Adj es x y) : x ∈ vs ∧ y ∈ vs ∧ x ≠ y := by
  obtain ⟨e, he, q⟩ := h
  obtain ⟨a, b, c, _⟩ := g.edge e he
  rcases q with ⟨q1, q2⟩ | ⟨q1, q2⟩ <;> subst q1 q2
  · exact ⟨a, b, by omega⟩
  · exact ⟨b, a, by omega⟩
theorem conn_alone {es : List Ed} {x y : Int} (h : ∀ z, ¬ Adj es x z) (c : Conn es x y) : y = x := by
  induction c with
  | refl => rfl
  | step _ hs ih => rw [ih] at hs; exact absurd hs (h _)
theorem Grow.nd {vs : List Int} {es : List Ed} (g : Grow vs es) (v : Int) : (nbrs es v).Nodup := by
  induction g with
  | one => exact List.nodup_nil
  | @leaf vs es x y d g hy hx h1 h2 ih =>
    have e1 : nbrs (es ++ [nrm (x, y, d)]) v = nbrs es v ++ nbE v (nrm (x, y, d)) := by
      unfold nbrs
      rw [List.flatMap_append]
      simp
    have hne : x ≠ y := fun z => hx (z ▸ hy)
    have noX : nbrs es x = [] := List.eq_nil_iff_forall_not_mem.mpr fun z hz => hx (g.adj (mem_nbrs.mp hz)).1
    have notX : x ∉ nbrs es v := fun hz => hx (g.adj (mem_nbrs.mp hz)).2.1
    rw [e1]
    have two : nbE v (nrm (x, y, d)) = (if v = x then [y] else []) ∨ nbE v (nrm (x, y, d)) = (if v = y then [x] else []) := by
      unfold nbE
      rcases nrm_ends (x := x) (y := y) (d := d) with ⟨q1, q2⟩ | ⟨q1, q2⟩ <;> rw [q1, q2]
      · by_cases c : v = x
        · rw [if_pos c, if_pos c.symm, if_neg (fun z => hne (c ▸ z.symm))]
          exact .inl rfl
        · rw [if_neg (fun z => c z.symm)]
          by_cases c2 : v = y
          · rw [if_pos c2, if_pos c2.symm]
            exact .inr rfl
          · rw [if_neg c2, if_neg (fun z => c2 z.symm)]
            exact .inr rfl
      · by_cases c : v = x
        · rw [if_pos c, if_pos c.symm, if_neg (fun z => hne (c ▸ z.symm))]
          exact .inl rfl
        · rw [if_neg (fun z : x = v => c z.symm)]
          by_cases c2 : v = y
          · rw [if_pos c2, if_pos c2.symm]
            exact .inr rfl
          · rw [if_neg c2, if_neg (fun z => c2 z.symm)]
            exact .inr rfl
    rcases two with q | q <;> rw [q]
    · by_cases c : v = x
      · rw [if_pos c, c, noX]
        simp
      · rw [if_neg c, List.append_nil]
        exact ih
    · by_cases c : v = y
      · rw [if_pos c]
        refine List.nodup_append.mpr ⟨ih, by simp, ?_⟩
        intro a ha b hb
        have : b = x := by simpa using hb
        subst this
        exact fun z => notX (z ▸ ha)
      · rw [if_neg c, List.append_nil]
        exact ih
theorem cut_append (a b : List Ed) (x y : Int) : cutE (a ++ b) x y = cutE a x y ++ cutE b x y := List.filter_append ..
theorem cut_sub {es : List Ed} {x y : Int} : ∀ e ∈ cutE es x y, e ∈ es := fun e he => (mem_cut.mp he).1
theorem Grow.br {vs : List Int} {es : List Ed} (g : Grow vs es) : ∀ x y, Adj es x y → ¬ Conn (cutE es x y) x y := by
  induction g with
  | one => rintro x y ⟨e, he, _⟩; cases he
  | @leaf vs es x y d g hy hx h1 h2 ih =>
    have hne : x ≠ y := fun z => hx (z ▸ hy)
    have alone : ∀ z, ¬ Adj es x z := fun z hz => hx (g.adj hz).1
    have aloneC : ∀ (u v z : Int), ¬ Adj (cutE es u v) x z := fun u v z hz => alone z (hz.mono cut_sub)
    intro u v h c
    by_cases same : (u = x ∧ v = y) ∨ (u = y ∧ v = x)
    · have e0 : cutE [nrm (x, y, d)] u v = [] := by
        refine List.filter_eq_nil_iff.mpr fun e he => ?_
        have : e = nrm (x, y, d) := by simpa using he
        subst this
        unfold isE
        rcases nrm_ends (x := x) (y := y) (d := d) with ⟨q1, q2⟩ | ⟨q1, q2⟩ <;> rcases same with ⟨s1, s2⟩ | ⟨s1, s2⟩ <;> simp [q1, q2, s1, s2]
      rw [cut_append, e0, List.append_nil] at c
      rcases same with ⟨s1, s2⟩ | ⟨s1, s2⟩ <;> subst s1 s2
      · exact hne (conn_alone (aloneC _ _) c).symm
      · exact hne (conn_alone (aloneC _ _) c.symm).symm
    · have hn : ¬ isE u v (nrm (x, y, d)) = true := by
        unfold isE
        intro z
        have z' := of_decide_eq_true z
        rcases nrm_ends (x := x) (y := y) (d := d) with ⟨q1, q2⟩ | ⟨q1, q2⟩ <;> rw [q1, q2] at z' <;> rcases z' with ⟨z1, z2⟩ | ⟨z1, z2⟩
        · exact same (.inl ⟨z1.symm, z2.symm⟩)
        · exact same (.inr ⟨z2.symm, z1.symm⟩)
        · exact same (.inr ⟨z1.symm, z2.symm⟩)
        · exact same (.inl ⟨z2.symm, z1.symm⟩)
      have e0 : cutE [nrm (x, y, d)] u v = [nrm (x, y, d)] := by
        unfold cutE
        rw [List.filter_cons_of_pos (by simpa using hn), List.filter_nil]
      have hold : Adj es u v := by
        rcases adj_snoc.mp h with q | q
        · exact q
        · exfalso
          rcases nrm_ends (x := x) (y := y) (d := d) with ⟨q1, q2⟩ | ⟨q1, q2⟩ <;> rw [q1, q2] at q <;> rcases q with ⟨z1, z2⟩ | ⟨z1, z2⟩
          · exact same (.inl ⟨z1.symm, z2.symm⟩)
          · exact same (.inr ⟨z2.symm, z1.symm⟩)
          · exact same (.inr ⟨z1.symm, z2.symm⟩)
          · exact same (.inl ⟨z2.symm, z1.symm⟩)
      have av := g.adj hold
      rw [cut_append, e0] at c
      have toX : ∀ z, z ∈ vs → ¬ Conn (cutE es u v) z x := fun z hz hc => hx ((conn_alone (aloneC _ _) hc.symm) ▸ hz)
      rcases conn_snoc.mp c with q | ⟨qa, qb⟩ | ⟨qa, qb⟩
      · exact ih u v hold q
      · rcases nrm_ends (x := x) (y := y) (d := d) with ⟨q1, q2⟩ | ⟨q1, q2⟩ <;> rw [q1] at qa <;> rw [q2] at qb
        · exact toX u av.1 qa
        · exact toX v av.2.1 qb.symm
      · rcases nrm_ends (x := x) (y := y) (d := d) with ⟨q1, q2⟩ | ⟨q1, q2⟩ <;> rw [q2] at qa <;> rw [q1] at qb
        · exact toX v av.2.1 qb.symm
        · exact toX u av.1 qa
theorem Grow.all {vs : List Int} {es : List Ed} (g : Grow vs es) : ∀ x ∈ vs, ∀ y ∈ vs, Conn es x y := by
  induction g with
  | one v =>
    intro x hx y hy
    have e1 : x = v := by simpa using hx
    have e2 : y = v := by simpa using hy
    rw [e1, e2]
    exact .refl _
  | @leaf vs es x y d g hy hx h1 h2 ih =>
    have ad : Adj (es ++ [nrm (x, y, d)]) x y := adj_snoc.mpr (.inr nrm_ends)
    have up : ∀ {a b : Int}, Conn es a b → Conn (es ++ [nrm (x, y, d)]) a b := fun h => h.mono fun f hf => List.mem_append_left _ hf
    have toY : ∀ z ∈ vs ++ [x], Conn (es ++ [nrm (x, y, d)]) z y := fun z hz => by
      rcases List.mem_append.mp hz with hz | hz
      · exact up (ih z hz y hy)
      · have : z = x := by simpa using hz
        rw [this]
        exact .one ad
    intro a ha b hb
    exact (toY a ha).trans (toY b hb).symm
theorem nbrs_perm_es {es fs : List Ed} (p : es.Perm fs) (v : Int) : (nbrs es v).Perm (nbrs fs v) := List.Perm.flatMap_right _ p
theorem IsTree.wood {n : Nat} {es : List Ed} (t : IsTree n es) : Wood n es := by
  obtain ⟨vs, fs, g, p, q⟩ := t.grow
  have to : ∀ {x y}, Adj es x y → Adj fs x y := fun h => h.mono fun e he => q.mem_iff.mp he
  have ofc : ∀ {u v x y}, Conn (cutE es u v) x y → Conn (cutE fs u v) x y := fun h => h.mono fun e he => mem_cut.mpr ⟨q.mem_iff.mp (mem_cut.mp he).1, (mem_cut.mp he).2⟩
  refine ⟨fun x y h => mem_rI.mp (p.mem_iff.mp (g.adj (to h)).1), fun x y h => (g.adj (to h)).2.2, fun v => (nbrs_perm_es q v).nodup_iff.mpr (g.nd v), fun x y h c => g.br x y (to h) (ofc c), fun x y x0 x1 y0 y1 => ?_⟩
  exact (g.all x (p.mem_iff.mpr (mem_rI.mpr ⟨x0, x1⟩)) y (p.mem_iff.mpr (mem_rI.mpr ⟨y0, y1⟩))).mono fun e he => q.mem_iff.mpr he
/-- u belongs to the branch of v away from a -/
def InC (es : List Ed) (v a u : Int) : Prop := Conn (cutE es v a) v u
theorem Wood.inC {n : Nat} {es : List Ed} (W : Wood n es) {v a u : Int} (ha : Adj es v a) : InC es v a u ↔ u = v ∨ ∃ w, Adj es v w ∧ w ≠ a ∧ InC es w v u := by
  constructor
  · intro h
    change Conn (cutE es v a) v u at h
    induction h with
    | refl => exact .inl rfl
    | @step z z' _ hs ih =>
      obtain ⟨hs1, hs2⟩ := adj_cut.mp hs
      rcases ih with e | ⟨w, hw, hwa, hc⟩
      · subst e
        exact .inr ⟨z', hs1, fun e => hs2 (.inl ⟨rfl, e⟩), .refl _⟩
      · by_cases c : (z = w ∧ z' = v) ∨ (z = v ∧ z' = w)
        · rcases c with ⟨_, c⟩ | ⟨_, c⟩
          · exact .inl c
          · exact .inr ⟨w, hw, hwa, c ▸ .refl _⟩
        · exact .inr ⟨w, hw, hwa, hc.step (adj_cut.mpr ⟨hs1, c⟩)⟩
  · rintro (e | ⟨w, hw, hwa, hc⟩)
    · rw [e]; exact .refl _
    · have key : ∀ z, Conn (cutE es w v) w z → Conn (cutE es v a) w z := by
        intro z hz
        induction hz with
        | refl => exact .refl _
        | @step z z' hz1 hs ih =>
          obtain ⟨hs1, hs2⟩ := adj_cut.mp hs
          refine ih.step (adj_cut.mpr ⟨hs1, ?_⟩)
          rintro (⟨c1, c2⟩ | ⟨c1, c2⟩)
          · exact W.br w v hw.symm (c1 ▸ hz1)
          · exact W.br w v hw.symm (c2 ▸ (hz1.step hs))
      have first : Adj (cutE es v a) v w := adj_cut.mpr ⟨hw, fun c => by
        rcases c with ⟨_, c⟩ | ⟨c1, c2⟩
        · exact hwa c
        · exact W.ne v w hw c2.symm⟩
      exact (Conn.one first).trans (key u hc)
/-- a branch does not contain the vertex that it is away from -/
theorem Wood.notIn {n : Nat} {es : List Ed} (W : Wood n es) {v w : Int} (hw : Adj es v w) : ¬ InC es w v v := W.br w v hw.symm
/-- branches of different neighbours have no common vertex -/
theorem Wood.apart {n : Nat} {es : List Ed} (W : Wood n es) {v w w' u : Int} (hw : Adj es v w) (hw' : Adj es v w') (hne : w ≠ w') (h : InC es w v u) (h' : InC es w' v u) : False := by
  have key : ∀ z, Conn (cutE es w' v) w' z → Conn (cutE es w v) w' z := by
    intro z hz
    induction hz with
    | refl => exact .refl _
    | @step z z' hz1 hs ih =>
      obtain ⟨hs1, hs2⟩ := adj_cut.mp hs
      refine ih.step (adj_cut.mpr ⟨hs1, ?_⟩)
      rintro (⟨c1, c2⟩ | ⟨c1, c2⟩)
      · exact W.br w' v hw'.symm (c2 ▸ (hz1.step hs))
      · exact W.br w' v hw'.symm (c1 ▸ hz1)
  have first : Adj (cutE es w v) w' v := adj_cut.mpr ⟨hw'.symm, fun c => by
    rcases c with ⟨c, _⟩ | ⟨c, _⟩
    · exact hne c.symm
    · exact W.ne v w' hw' c.symm⟩
  have h1 : Conn (cutE es w v) w u := h
  exact W.br w v hw.symm ((h1.trans (key u h').symm).step first)
theorem Wood.range {n : Nat} {es : List Ed} (W : Wood n es) {v a u : Int} (hv : 0 ≤ v ∧ v < (n : Int)) (h : InC es v a u) : 0 ≤ u ∧ u < (n : Int) := by
  change Conn (cutE es v a) v u at h
  induction h with
  | refl => exact hv
  | step _ hs _ => exact W.rng _ _ ((adj_cut.mp hs).1.symm)
/-- numbers without repetition, all of them in another list, are no more than those -/
theorem nodup_le : ∀ {l m : List Int}, l.Nodup → (∀ u ∈ l, u ∈ m) → l.length ≤ m.length
  | [], _, _, _ => Nat.zero_le _
  | a :: l, m, nd, h => by
    have nd' := List.nodup_cons.mp nd
    have ha := h a List.mem_cons_self
    have ih := nodup_le (l := l) (m := m.erase a) nd'.2 fun u hu => (List.mem_erase_of_ne (fun e : u = a => nd'.1 (e ▸ hu))).mpr (h u (List.mem_cons_of_mem _ hu))
    rw [List.length_erase_of_mem ha] at ih
    have := List.length_pos_of_mem ha
    rw [List.length_cons]
    omega
/-- two strictly ascending lists with the same numbers are one -/
theorem strict_eq {a b : List Int} (ha : a.Pairwise (· < ·)) (hb : b.Pairwise (· < ·)) (h : ∀ u, u ∈ a ↔ u ∈ b) : a = b := by
  have na : a.Nodup := ha.imp fun h => by omega
  have nb : b.Nodup := hb.imp fun h => by omega
  exact sorted_eq ((List.perm_ext_iff_of_nodup na nb).mpr h) (ha.imp fun h => by omega) (hb.imp fun h => by omega)
/-! labels: two vertices have the same one if and only if they are joined -/
def getI (l : List Int) (x : Int) : Int := l.getD x.toNat 0
theorem getI_at {l : List Int} {x : Int} (h0 : 0 ≤ x) (h1 : x < (l.length : Int)) : atI (l.map V.int) x = some (.int (getI l x)) := by
  obtain ⟨j, rfl⟩ := Int.eq_ofNat_of_zero_le h0
  have hj : j < l.length := by omega
  rw [atI_nat (get_int hj)]
  unfold getI
  show some (V.int l[j]) = some (V.int (l.getD j 0))
  rw [List.getD_eq_getElem?_getD, List.getElem?_eq_getElem hj]
  rfl
theorem rI_succ (n : Nat) : rI (n + 1) = rI n ++ [(n : Int)] := by
  unfold rI
  rw [List.range_succ, List.map_append]
  rfl
theorem rI_strict (n : Nat) : (rI n).Pairwise (· < ·) := List.pairwise_map.mpr (List.pairwise_lt_range.imp fun h => Int.ofNat_lt.mpr h)
structure Lab (L : List Int) (n : Nat) (F : List Ed) : Prop where
  len : L.length = n
  eq : ∀ x y, 0 ≤ x → x < (n : Int) → 0 ≤ y → y < (n : Int) → (getI L x = getI L y ↔ Conn F x y)
def relab (L : List Int) (a b : Int) : List Int := L.map fun l => if l = getI L b then getI L a else l
theorem getI_relab {L : List Int} {a b x : Int} (h0 : 0 ≤ x) (h1 : x < (L.length : Int)) : getI (relab L a b) x = if getI L x = getI L b then getI L a else getI L x := by
  have hx : x.toNat < L.length := by omega
  have e : ∀ M : List Int, getI M x = (M[x.toNat]?).getD 0 := fun M => by
    unfold getI
    rw [List.getD_eq_getElem?_getD]
  rw [e (relab L a b), e L]
  unfold relab
  rw [List.getElem?_map, List.getElem?_eq_getElem hx]
  rfl
theorem Lab.start (n : Nat) : Lab (rI n) n [] := by
  refine ⟨rI_len n, fun x y x0 x1 y0 y1 => ?_⟩
  have g : ∀ z : Int, 0 ≤ z → z < (n : Int) → getI (rI n) z = z := fun z z0 z1 => by
    obtain ⟨j, rfl⟩ := Int.eq_ofNat_of_zero_le z0
    unfold getI rI
    have hj : j < n := by omega
    show ((List.range n).map Int.ofNat).getD j 0 = _
    rw [List.getD_eq_getElem?_getD, List.getElem?_map, List.getElem?_range hj]
    rfl
  rw [g x x0 x1, g y y0 y1]
  constructor
  · rintro rfl
    exact .refl _
  · intro c
    exact (conn_alone (fun z ⟨e, he, _⟩ => by cases he) c).symm
theorem Lab.next {L : List Int} {n : Nat} {F : List Ed} (h : Lab L n F) {e : Ed} (a0 : 0 ≤ e.1 ∧ e.1 < (n : Int)) (b0 : 0 ≤ e.2.1 ∧ e.2.1 < (n : Int)) : Lab (relab L e.1 e.2.1) n (F ++ [e]) := by
  refine ⟨by unfold relab; rw [List.length_map]; exact h.len, fun x y x0 x1 y0 y1 => ?_⟩
  have hl := h.len
  rw [getI_relab x0 (by omega), getI_relab y0 (by omega), conn_snoc]
  have exy := h.eq x y x0 x1 y0 y1
  have exa := h.eq x e.1 x0 x1 a0.1 a0.2
  have exb := h.eq x e.2.1 x0 x1 b0.1 b0.2
  have eya := h.eq e.1 y a0.1 a0.2 y0 y1
  have eyb := h.eq e.2.1 y b0.1 b0.2 y0 y1
  rw [← exy, ← exa, ← exb, ← eya, ← eyb]
  by_cases c1 : getI L x = getI L e.2.1 <;> by_cases c2 : getI L y = getI L e.2.1
  · rw [if_pos c1, if_pos c2, c1, c2]
    simp
  · rw [if_pos c1, if_neg c2]
    constructor
    · intro q
      exact .inr (.inr ⟨c1, q⟩)
    · rintro (q | ⟨_, q⟩ | ⟨_, q⟩)
      · exact absurd (q.symm.trans c1) c2
      · exact absurd q.symm c2
      · exact q
  · rw [if_neg c1, if_pos c2]
    constructor
    · intro q
      exact .inr (.inl ⟨q, c2.symm⟩)
    · rintro (q | ⟨q, _⟩ | ⟨q, _⟩)
      · exact absurd (q.trans c2) c1
      · exact q
      · exact absurd q c1
  · rw [if_neg c1, if_neg c2]
    constructor
    · exact .inl
    · rintro (q | ⟨_, q⟩ | ⟨q, _⟩)
      · exact q
      · exact absurd q.symm c2
      · exact absurd q c1
end Tr

/-! ### A9. xs.extend(t), t a tuple -/
namespace PySem.Tr9
open PySem PySem.AutoSeq1
set_option maxRecDepth 8000 in
theorem ext_tup (l : Addr) (xs : Array Value) (n : Nat) (b : Addr) (ys : Array Value) (k : Nat) (dd : Option Addr) (sl : Array (Option Value)) (h1 : ¬(!xs.isEmpty && Builtin.List.listTooLong (xs.size + ys.size)) = true) (h2 : xs.size ≤ sizeLine)
    (h3 : xs.size + ys.size ≤ sizeLine + 1) :
    Meets (Builtin.«list.extend» ⟨[.ref l, .ref b], []⟩) (fun _ R s => s.heap.get? l = some { cls := .type "list", dict := none, data := .seq xs n, slots := #[] } ∧ s.heap.get? b = some { cls := .type "tuple", dict := dd, data := .seq ys k, slots := sl } ∧
      R (.ok (.ret Value.none)) { s with heap := s.heap.update l (Obj.mapSeq fun x => x ++ ys), toks := s.toks }) :=
  .of_wp fun prog w A R s h => by
    obtain ⟨hp, g, d, tk, os⟩ := s
    obtain ⟨hl, hb, h⟩ := h
    have f1 := idx_int
    have f2 := sub_tuple_tuple
    have f3 := sub_list_list
    have f4 := sub_tuple_list
    have f5 := sub_list_tuple
    have long : (xs ++ ys).size ≤ sizeLine + 1 := by rw [Array.size_append]; exact h3
    wp_walk using (wpAny_updateSeq hl rfl (hz := h2) (_hz' := long)), wpAny_loadPart' hl, wpAny_loadPart' hb
    exact ⟨_, rfl, h⟩
end PySem.Tr9
namespace Tr
open PySem PySem.Spec PyProof.Rows L2
def rExtT (K : PySem.W.Frag) : V → List V → Hp → VK → Prop := fun x vs H Q => ∃ l b xs zs, x = .ref l ∧ vs = [.ref b] ∧ H l = some (.lst xs) ∧ H b = some (.tup zs) ∧ xs.length + zs.length ≤ sizeLine ∧ Q .non (upd H l (.lst (xs ++ zs)))
theorem mt_extT {X : Cx} : MtM X "list.extend" (rExtT X.K) := by
  rintro pins s σ H x vs v us Q I rx rv ⟨l, b, xs, zs, rfl, rfl, hl, hb, sz, q⟩
  cases rx
  obtain ⟨u, rfl, ru⟩ := rv.one
  cases ru
  obtain ⟨_, its, n, r, len, e⟩ := I.lstM hl
  obtain ⟨its2, r2, ⟨o, e2, ec, k, ed⟩, _⟩ := I.tuple (SqT.of hb)
  have len2 := r2.length
  obtain ⟨cls, dd, data, sl⟩ := o
  have ec' : cls = .type "tuple" := ec
  have ed' : data = .seq its2.toArray k := ed
  subst ec' ed'
  have small : its.toArray.size + its2.toArray.size ≤ sizeLine := by
    rw [List.size_toArray, List.size_toArray]
    omega
  have door : ¬ (!its.toArray.isEmpty && Builtin.List.listTooLong (its.toArray.size + its2.toArray.size)) = true := by
    rw [notLongL small, Bool.and_false]
    exact Bool.false_ne_true
  have met := PySem.Tr9.ext_tup l its.toArray n b its2.toArray k dd sl door (by rw [List.size_toArray]; omega) (by omega)
  refine call_meets F.slot_list_extend ⟨_, e, rfl⟩ F.entry_list_extend (F.args_list_extend_2 _ _) met ⟨e, e2, .non, _, I.lset (its' := its ++ its2) hl e (by simp) (Vals.append r r2) ?_, rfl, q⟩
  rw [List.length_append]
  exact sz
end Tr

namespace Tr
open PySem
def topS (i : Nat) : Stmt := PySem.Challenge.pw_tellrounds_k04_branches_of_vertices.main.body.getD i (.Pass ⟨0, 0, 0, 0⟩)
end Tr

namespace Tr
open PySem PySem.Spec PyProof.Rows L2
abbrev s_law_next : Stmt := topS 5
theorem sc_law_next : FnScope ["_law_drawn", "_law_many", "_law_cells", "_law_turn", "_law_rests", "_law_spot", "_law_digit", "_law_mixed", "_law_again"] ["_law_drawn", "_law_many"] (defScope s_law_next) := ⟨rfl, rfl, rfl, by decide +kernel, rfl, by decide +kernel, by decide +kernel⟩
section
variable {P : Program} {w : World} {K : PySem.W.Frag} {mg : Str → Option Value} {base : Heap}
theorem ok_law_next (bt : Bt mg) {f : Addr} {fd : FuncData} (F : Fun K "_law_next" "_law_next" s_law_next f fd) : FnG P w K mg base CX0 1 f fd ["_law_drawn", "_law_many"] sp_law_next := by
  refine fnG F sc_law_next (fun vs H Q E h => ?_) (fun cdv A outer s H vs Q E hr gg h => ?_)
  · obtain ⟨d, c, r, N, m, rfl, _⟩ := h
    rfl
  obtain ⟨d, c, r, N, m, rfl, ⟨n, hn, D⟩, hN, hm0, hm1, q⟩ := h
  obtain ⟨cs, rs, hc, hrs, hl, hl0, hl1⟩ := D.hc
  refine ⟨_, (pss_cons (ps_asg (pv 0) (pg_unl rfl (pgs_cons (pg_name (i := 2) sc_law_next.nd rfl (.inl rfl)) (pgs_cons (pg_name (i := 3) sc_law_next.nd rfl (.inl rfl)) (pgs_cons (pg_name (i := 4) sc_law_next.nd rfl (.inl rfl)) pgs_nil)))))
      (pss_cons (ps_set (i := 5) sc_law_next.nd rfl (.inl rfl) (pe_op (op_modN) (pv 3) (pe_callB (call_len_seq) (by rfl) bt.len bb_len (pa_cons (pv 2) pa_nil))))
      (pss_cons (ps_asg (pe_op (op_add) (pv 3) pe_int) (pg_sub (pv 0) pe_int set_list))
      (pss_cons (ps_if (pt_cmpR (op_gt) (pe_ix ix_list (pv 4) (pv 5) (fun _ _ => rfl)) pe_int (nomark _)) (pss_cons (ps_set (i := 6) sc_law_next.nd rfl (.inl rfl) (pe_op (op_modN) (pe_ix ix_list (pv 4) (pv 5) (fun _ _ => rfl)) (pv 1)))
      (pss_cons (ps_asg (pe_op (op_fdivN) (pe_ix ix_list (pv 4) (pv 5) (fun _ _ => rfl)) (pv 1)) (pg_sub (pv 4) (pv 5) set_list))
      (pss_one (ps_ret (pv 6))))) pss_nil)
      (pss_cons (ps_set (i := 7) sc_law_next.nd rfl (.inl rfl) (pe_op (op_modN) (pe_op (op_pow) (pe_op (op_add) (pe_op (op_add) (pe_op (op_modN) (pe_ix ix_list (pv 2) (pv 5) (fun _ _ => rfl)) pe_int) (pe_op (op_mul) pe_int (pv 3))) pe_int) pe_int) pe_int))
      (pss_cons (ps_set (i := 8) sc_law_next.nd rfl (.inl rfl) (pe_op (op_modN) (pe_op (op_pow) (pe_op (op_add) (pe_op (op_add) (pv 7) (pe_op (op_mul) (pe_op (op_mul) pe_int (pv 3)) (pv 3))) pe_int) pe_int) pe_int))
      (pss_one (ps_ret (pe_op (op_modN) (pe_op (op_modN) (pe_op (op_add) (pe_op (op_mul) (pv 8) pe_int) (pv 7)) pe_int) (pv 1)))))))))), ?_⟩
  have sqd : SqL K H d [.ref c, .int n, .ref r] := SqL.of D.hd
  have sqc : SqL K H c (cs.map V.int) := SqL.of hc
  refine ⟨_, rfl, d, _, rfl, sqd, rfl, _, _, rfl, _, _, rfl, _, _, rfl, rfl, ?_⟩
  -- spot = turn % len(cells)
  have hlc : (cs.map V.int).length = cs.length := List.length_map _
  refine ⟨_, rfl, _, rfl, c, _, rfl, .inl sqc, _, _, rfl, rfl, by rw [hlc]; omega, ?_⟩
  obtain ⟨k0, k1⟩ := fmod_bounds (a := (n : Int)) (b := (((cs.map V.int).length : Nat) : Int)) (by rw [hlc]; omega)
  have k2 : (n : Int).fmod (((cs.map V.int).length : Nat) : Int) < (cs.length : Int) := by rw [← hlc]; exact k1
  -- drawn[1] = turn + 1
  have D1 : Dr (upd H d (.lst [.ref c, .int ((n : Int) + 1), .ref r])) d c r (n + 1) :=
    ⟨upd_same, ⟨cs, rs, (upd_ne D.cd).trans hc, (upd_ne D.rd).trans hrs, hl, hl0, hl1⟩, D.cr⟩
  have K1 : Kp d r H (upd H d (.lst [.ref c, .int ((n : Int) + 1), .ref r])) := fun b o e n1 _ => (upd_ne n1).trans e
  refine ⟨_, rfl, _, _, rfl, rfl, _, rfl, d, _, _, 1, rfl, rfl, D.hd, rfl, ?_⟩
  show _
  have hr1 := (upd_ne (o := .lst [.ref c, .int ((n : Int) + 1), .ref r]) D.rd).trans hrs
  have hc1 := (upd_ne (o := .lst [.ref c, .int ((n : Int) + 1), .ref r]) D.cd).trans hc
  obtain ⟨jr, zr, ej, hjr, hgr, har⟩ := at_mod (l := rs) k0 (by omega)
  obtain ⟨jc, zc, _, hjc, hgc, hac⟩ := at_mod (l := cs) k0 k2
  refine ⟨_, rfl, _, rfl, r, _, _, _, rfl, rfl, SqL.of hr1, har, _, _, rfl, rfl, _, rfl, ?_⟩
  refine ite2 (fun e => ?_) (fun e => ?_)
  · -- a rest is left
    refine ⟨_, rfl, _, rfl, r, _, _, _, rfl, rfl, SqL.of hr1, har, _, rfl, _, _, rfl, rfl, by omega, ?_⟩
    refine ⟨_, rfl, _, rfl, r, _, _, _, rfl, rfl, SqL.of hr1, har, _, rfl, _, _, rfl, rfl, ⟨by omega, by omega⟩, ?_⟩
    have hx : ixN (rs.map V.int).length ((n : Int).fmod (((cs.map V.int).length : Nat) : Int)) = some jr := by
      rw [List.length_map, ej]
      unfold ixN
      rw [if_pos (by omega), if_pos (by omega)]
      simp
    refine ⟨_, rfl, _, rfl, r, _, _, jr, rfl, rfl, hr1, hx, ?_⟩
    obtain ⟨f0, f1⟩ := fmod_bounds (a := zr) hm0
    refine ⟨_, rfl, q _ _ f0 f1 ⟨n + 1, by omega, ?_⟩ ?_⟩
    · have em : (rs.map V.int).set jr (.int (zr.fdiv m)) = (rs.set jr (zr.fdiv m)).map V.int := by rw [List.map_set]
      rw [em]
      exact ⟨(upd_ne D1.rd.symm).trans D1.hd, ⟨cs, rs.set jr (zr.fdiv m), (upd_ne D1.cr).trans hc1, upd_same, by rw [List.length_set]; exact hl, hl0, hl1⟩, D1.cr⟩
    · exact fun b o e n1 n2 => (upd_ne n2).trans (K1 b o e n1 n2)
  · -- the mixed numbers
    have hnb : n < 2 ^ 24 := Nat.lt_of_le_of_lt hn hN
    have hn0 : (0 : Int) ≤ (n : Int) := Int.natCast_nonneg n
    have hn1 : (n : Int) < 16777216 := by omega
    obtain ⟨P0, P1⟩ := sq_bounds hn0 hn1
    refine ⟨_, rfl, _, rfl, c, _, _, _, rfl, rfl, SqL.of hc1, hac, _, _, rfl, rfl, nz_a, ?_⟩
    obtain ⟨a0, a1⟩ := fmod_bounds (a := zc) (b := 2147483629) (by decide)
    refine ⟨_, rfl, _, _, rfl, rfl, .inl ⟨by decide, by decide⟩, _, _, rfl, rfl, _, _, rfl, rfl, _, _, rfl, rfl, ⟨by decide, by decide, nat64 (by omega) (by omega)⟩, _, _, rfl, rfl, nz_b, ?_⟩
    have M0 : 0 ≤ ((zc.fmod 2147483629 + 39119 * (n : Int) + 9901) ^ Int.toNat 3).fmod 2147483587 := (fmod_bounds (by decide)).1
    have M1 : ((zc.fmod 2147483629 + 39119 * (n : Int) + 9901) ^ Int.toNat 3).fmod 2147483587 < 2147483587 := (fmod_bounds (by decide)).2
    refine ⟨_, rfl, _, rfl, _, _, rfl, rfl, .inl ⟨by decide, by decide⟩, _, rfl, _, _, rfl, rfl, .inl ⟨mul_lo hn0, mul_hi hn1⟩, _, _, rfl, rfl, _, _, rfl, rfl, _, _, rfl, rfl, ⟨by decide, by decide, nat64 (by omega) (by omega)⟩, _, _, rfl, rfl, nz_c, ?_⟩
    refine ⟨_, rfl, _, _, rfl, rfl, .inl (mid_mul (fmod_bounds (by decide))), _, rfl, _, _, rfl, rfl, _, _, rfl, rfl, nz_d, _, rfl, _, _, rfl, rfl, Int.ne_of_gt hm0, ?_⟩
    exact q _ _ (fmod_bounds hm0).1 (fmod_bounds hm0).2 ⟨n + 1, by omega, D1⟩ K1
end
end Tr

namespace Tr
open PySem PySem.Spec PyProof.Rows L2
abbrev s_law_draws : Stmt := topS 4
theorem sc_law_draws : FnScope ["_law_script", "_law_cells", "_law_cell"] ["_law_script"] (defScope s_law_draws) := ⟨rfl, rfl, rfl, by decide +kernel, rfl, by decide +kernel, by decide +kernel⟩
theorem int_of_bl (b : Bool) : (0 : Int) ≤ (if b then 1 else 0) ∧ (if b then 1 else 0 : Int) ≤ 1 := by cases b <;> decide
theorem cut63 (xs : List V) (h : xs.length ≤ 63) : cutV xs none (some 63) = xs := by
  unfold cutV
  rw [HT.sIx_none, show HT.sIx xs.length xs.length (some 63) = min 63 xs.length from HT.sIx_nat xs.length xs.length 63, List.drop_zero]
  exact List.take_of_length_le (by omega)
section
variable {P : Program} {w : World} {K : PySem.W.Frag} {mg : Str → Option Value} {base : Heap}
/-- from the cells on -/
theorem draws_end {cs : List Int} {c r p : Addr} {rs : List Int} {H1 : Hp} (h1 : H1 c = some (.lst (cs.map V.int))) (h2 : H1 r = some (.lst (rs.map V.int))) (h3 : c ≠ r) (h4 : rs.length = cs.length) (h5 : 0 < cs.length) (h6 : cs.length ≤ 63)
    (hp : H1 p = none) : Dn p c r 0 (upd H1 p (.lst [.ref c, .int 0, .ref r])) :=
  ⟨0, Nat.le_refl 0, ⟨upd_same, ⟨cs, rs, (upd_ne (ne_of_none h1 hp)).trans h1, (upd_ne (ne_of_none h2 hp)).trans h2, h4, h5, h6⟩, h3⟩⟩
theorem ok_law_draws (bt : Bt mg) {f : Addr} {fd : FuncData} (F : Fun K "_law_draws" "_law_draws" s_law_draws f fd) : FnG P w K mg base CX0 1 f fd ["_law_script"] (sp_law_draws K) := by
  refine fnG F sc_law_draws (fun vs H Q E h => ?_) (fun cdv A outer s H vs Q E hr gg h => ?_)
  · obtain ⟨a, ns, rfl, _⟩ := h
    rfl
  obtain ⟨a, ns, rfl, sq, h63, q⟩ := h
  refine ⟨_, (pss_cons (ps_set (i := 1) sc_law_draws.nd rfl (.inl rfl) (pe_op (op_cat) (pe_callTy (call_list_of) (by rfl) bt.list bb_list (pa_cons (pe_slice sl_list (pv 0) po_none (po_some pe_int)) pa_nil)) (pe_op (op_rep) (pe_lst (pa_cons pe_int pa_nil)) (pe_callTy (call_int1) (by rfl) bt.int bb_int (pa_cons (pe_cmpR (op_eq) (pe_callB (call_len_seq) (by rfl) bt.len bb_len (pa_cons (pv 0) pa_nil)) pe_int (nomark _)) pa_nil)))))
      (pss_one (ps_ret (pe_lst (pa_cons (pv 1) (pa_cons pe_int (pa_cons (pe_lc (own := [("_law_cell", 2)]) (tt := tYes) rfl sc_law_draws.nd (pi_list (pv 1)) (blkOk_by (own := [("_law_cell", 2)]) (N := ["_law_script", "_law_cells", "_law_cell"]) (sc := defScope s_law_draws) (by decide +kernel)) (fun _ _ _ _ _ => (pg_name (i := 2) sc_law_draws.nd rfl (.inl rfl))) (fun _ _ _ _ _ => pts_nil) (fun _ _ _ _ _ => (pe_op (op_mul) (pv 2) (pe_callTy (call_int1) (by rfl) bt.int bb_int (pa_cons (pe_cmpR (op_ge) (pv 2) (pe_op (op_pow) pe_int pe_int) (nomark _)) pa_nil))))) pa_nil))))))), ?_⟩
  refine ⟨.ref a, rfl, 63, rfl, a, ns.map V.int, rfl, sq, fun p1 n1 => ?_⟩
  have s1 := same_new (o := .lst (cutV (ns.map V.int) none (some 63))) n1
  refine ⟨p1, _, rfl, .inl (SqL.of upd_same), fun p2 n2 => ?_⟩
  have s2 := s1.trans (same_new (o := .lst (cutV (ns.map V.int) none (some 63))) n2)
  have e2 : (upd (upd H p1 (.lst (cutV (ns.map V.int) none (some 63)))) p2 (.lst (cutV (ns.map V.int) none (some 63)))) p2 = _ := upd_same
  generalize (upd (upd H p1 (.lst (cutV (ns.map V.int) none (some 63)))) p2 (.lst (cutV (ns.map V.int) none (some 63)))) = H2 at s2 e2 ⊢
  refine ⟨(by show 1 ≤ sizeLine; decide), fun p3 n3 => ?_⟩
  have s3 := s2.trans (same_new (o := .lst [.int 0]) n3)
  refine ⟨_, rfl, a, _, rfl, .inl (s3.seq sq), rfl, .inr ⟨_, rfl, ?_⟩⟩
  obtain ⟨k0, k1⟩ := int_of_bl (decide (V.int (((ns.map V.int).length : Nat) : Int) = V.int 0))
  refine ⟨_, _, _, rfl, rfl, upd_same, by omega, by omega, ?_, fun p4 n4 => ?_⟩
  · have : ([V.int 0] : List V).length = 1 := rfl
    rw [this]
    exact Nat.le_trans (show 1 * Int.toNat _ ≤ 1 by omega) (by decide)
  have ek : (if decide (V.int (((ns.map V.int).length : Nat) : Int) = V.int 0) = true then 1 else 0 : Int) = if ns.length = 0 then 1 else 0 := by
    rw [List.length_map]
    by_cases z : ns.length = 0
    · rw [if_pos z, z]
      exact if_pos (decide_eq_true rfl)
    · rw [if_neg z]
      exact if_neg (fun y => z (by have := V.int.inj (of_decide_eq_true y); omega))
  rw [ek] at k0 k1 ⊢
  obtain ⟨cs, ec, c0, c1⟩ : ∃ cs : List Int, cutV (ns.map V.int) none (some 63) ++ (List.replicate (if ns.length = 0 then 1 else 0 : Int).toNat [V.int 0]).flatten = cs.map V.int ∧ 0 < cs.length ∧ cs.length ≤ 63 := by
    rw [cut63 _ (by rw [List.length_map]; exact h63)]
    by_cases z : ns.length = 0
    · have zn : ns = [] := List.eq_nil_of_length_eq_zero z
      subst zn
      exact ⟨[0], rfl, by decide, by decide⟩
    · rw [if_neg z]
      exact ⟨ns, by simp, by omega, h63⟩
  have e4 : (upd (upd H2 p3 (.lst [V.int 0])) p4 (.lst (List.replicate (if ns.length = 0 then 1 else 0 : Int).toNat [V.int 0]).flatten)) p2 = _ := (same_new n4) _ _ ((same_new n3) _ _ e2)
  have s4 := s3.trans (same_new (o := .lst (List.replicate (if ns.length = 0 then 1 else 0 : Int).toNat [V.int 0]).flatten) n4)
  refine ⟨p2, p4, _, _, rfl, rfl, e4, upd_same, ?_, fun p5 n5 => ?_⟩
  · have hle := congrArg List.length ec
    rw [List.length_append, List.length_map] at hle
    exact Nat.le_trans (by omega) (show 63 ≤ sizeLine by decide)
  rw [ec]
  have s5 := s4.trans (same_new (o := .lst (cs.map V.int)) n5)
  have e5 := @upd_same (upd (upd H2 p3 (.lst [V.int 0])) p4 (.lst (List.replicate (if ns.length = 0 then 1 else 0 : Int).toNat [V.int 0]).flatten)) p5 (.lst (cs.map V.int))
  generalize upd (upd (upd H2 p3 (.lst [V.int 0])) p4 (.lst (List.replicate (if ns.length = 0 then 1 else 0 : Int).toNat [V.int 0]).flatten)) p5 (.lst (cs.map V.int)) = H5 at s5 e5 ⊢
  -- the display
  refine ⟨_, rfl, _, rfl, p5, rfl, ⟨_, SqL.of e5⟩, fun D nD => ?_⟩
  have p5D : p5 ≠ D := ne_of_none e5 nD
  refine lc_list (K := K) (a := p5) (xs := cs.map V.int) (fun i H' => i ≤ cs.length ∧ Same H5 H' ∧ ∃ rs : List Int, rs.length = i ∧ H' D = some (.lst (rs.map V.int)))
    ⟨Nat.zero_le _, same_new nD, [], rfl, upd_same⟩ (fun i H' _ h => SqL.of (h.2.1 _ _ e5)) (fun i x H' hx h => ?_) (fun H' h => ?_)
  · obtain ⟨hi, sm, rs, hrs, hD⟩ := h
    rw [List.getElem?_map] at hx
    obtain ⟨z, hz, rfl⟩ := Option.map_eq_some_iff.mp hx
    have hlt : i < cs.length := (List.getElem?_eq_some_iff.mp hz).1
    refine ⟨rfl, ?_⟩
    refine ⟨_, rfl, _, rfl, _, _, rfl, rfl, ⟨by decide, by decide, by decide⟩, _, _, rfl, rfl, .inr ⟨_, rfl, ?_⟩⟩
    obtain ⟨b0, b1⟩ := int_of_bl (decide (((10 : Int) ^ (18 : Int).toNat) ≤ z))
    refine ⟨_, _, rfl, rfl, .inr ⟨by omega, by omega⟩, _, hD, ?_, ?_⟩
    · rw [List.length_map, hrs]
      exact Nat.lt_of_lt_of_le (show i < 63 by omega) (by decide)
    · exact ⟨hlt, fun b o e => (upd_ne (ne_of_none e nD)).trans (sm b o e), rs ++ [_], by rw [List.length_append, hrs]; rfl, by rw [List.map_append]; exact upd_same⟩
  · obtain ⟨_, sm, rs, hrs, hD⟩ := h
    rw [List.length_map] at hrs
    refine ⟨(by show 3 ≤ sizeLine; decide), fun p hp => q _ _ _ _ (draws_end (sm _ _ e5) hD p5D hrs c0 c1 hp) ?_⟩
    exact (s5.trans sm).trans (same_new hp)
end
end Tr

namespace Tr
open PySem PySem.Spec PyProof.Rows L2
abbrev s_law_size : Stmt := topS 7
theorem sc_law_size : FnScope ["_law_drawn", "_law_great", "_law_few"] ["_law_drawn", "_law_great"] (defScope s_law_size) := ⟨rfl, rfl, rfl, by decide +kernel, rfl, by decide +kernel, by decide +kernel⟩
abbrev s_law_delay : Stmt := topS 8
theorem sc_law_delay : FnScope ["_law_drawn", "_law_great"] ["_law_drawn", "_law_great"] (defScope s_law_delay) := ⟨rfl, rfl, rfl, by decide +kernel, rfl, by decide +kernel, by decide +kernel⟩
/-- _law_size, _law_delay -/
def sp_law_size : Sp := fun vs H Q _ => ∃ (d c r : Addr) (N : Nat) (g : Int), vs = [.ref d, .int g] ∧ Dn d c r N H ∧ N + 3 ≤ TT ∧ 0 ≤ g ∧ g + 1 < 2 ^ 30 ∧
  ∀ (H' : Hp) (k : Int), 0 ≤ k → k ≤ g → Dn d c r (N + 3) H' → Kp d r H H' → Q (.int k) H'
def sp_law_delay : Sp := fun vs H Q _ => ∃ (d c r : Addr) (N : Nat) (g : Int), vs = [.ref d, .int g] ∧ Dn d c r N H ∧ N + 3 ≤ TT ∧ 1 ≤ g ∧ g < 2 ^ 30 ∧
  ∀ (H' : Hp) (k : Int), 1 ≤ k → k ≤ g → Dn d c r (N + 3) H' → Kp d r H H' → Q (.int k) H'
/-- an item of a display of ints -/
theorem item_of {K : PySem.W.Frag} {H : Hp} {p : Addr} {l : List Int} {i : Int} (h : H p = some (.lst (l.map V.int))) (h0 : 0 ≤ i) (h1 : i < (l.length : Int)) :
    ∃ z, z ∈ l ∧ SqL K H p (l.map V.int) ∧ atI (l.map V.int) i = some (.int z) := by
  obtain ⟨j, z, _, _, e, q⟩ := at_mod h0 h1
  exact ⟨z, List.mem_of_getElem? e, SqL.of h, q⟩
section
variable {P : Program} {w : World} {K : PySem.W.Frag} {mg : Str → Option Value} {base : Heap}
theorem ok_law_size (bt : Bt mg) (c_law_next : Cal P w K mg base "_law_next" ["_law_drawn", "_law_many"] 1 sp_law_next) {f : Addr} {fd : FuncData} (F : Fun K "_law_size" "_law_size" s_law_size f fd) :
    FnG P w K mg base CX0 2 f fd ["_law_drawn", "_law_great"] sp_law_size := by
  obtain ⟨f_law_next, fd_law_next, G_law_next, m_law_next, k_law_next, b_law_next⟩ := c_law_next
  refine fnG F sc_law_size (fun vs H Q E h => ?_) (fun cdv A outer s H vs Q E hr gg h => ?_)
  · obtain ⟨d, c, r, N, m, rfl, _⟩ := h
    rfl
  obtain ⟨d, c, r, N, g, rfl, D, hN, g0, g1, q⟩ := h
  refine ⟨_, (pss_cons (ps_set (i := 2) sc_law_size.nd rfl (.inl rfl) (pe_callG G_law_next gg (hr.mono (by first | decide | omega)) (by rfl) m_law_next k_law_next b_law_next .nil pass0 (pa_cons (pv 0) (pa_cons (pe_op (op_add) (pe_callB (call_min2 rfl) (by rfl) bt.min bb_min (pa_cons (pv 1) (pa_cons pe_int pa_nil))) pe_int) pa_nil))))
      (pss_one (ps_ret (pe_ix ix_list (pe_lst (pa_cons (pv 2) (pa_cons (pe_op (op_sub) (pv 1) (pv 2)) (pa_cons (pe_callG G_law_next gg (hr.mono (by first | decide | omega)) (by rfl) m_law_next k_law_next b_law_next .nil pass0 (pa_cons (pv 0) (pa_cons (pe_op (op_add) (pv 1) pe_int) pa_nil))) pa_nil)))) (pe_callG G_law_next gg (hr.mono (by first | decide | omega)) (by rfl) m_law_next k_law_next b_law_next .nil pass0 (pa_cons (pv 0) (pa_cons pe_int pa_nil))) (fun _ _ => rfl))))), ?_⟩
  refine ⟨_, rfl, _, rfl, _, _, rfl, _, _, rfl, rfl, d, c, r, N, _, rfl, D, by omega, ?_, ?_, fun H1 k b0 b1 D1 K1 => ?_⟩
  · split <;> omega
  · split <;> omega
  have b2 : k ≤ g := by
    split at b1 <;> omega
  refine ⟨_, rfl, _, rfl, _, rfl, _, _, rfl, rfl, _, rfl, _, rfl, _, _, rfl, rfl, d, c, r, N + 1, _, rfl, D1, by omega, by omega, by omega, fun H2 k2 c0 c1 D2 K2 => ?_⟩
  refine ⟨(by show 3 ≤ sizeLine; decide), fun p hp => ?_⟩
  refine ⟨_, rfl, d, c, r, N + 2, _, rfl, D2.new hp, by omega, by decide, by decide, fun H3 k3 e0 e1 D3 K3 => ?_⟩
  have np := D2.new_ne hp
  have at_p : H3 p = some (.lst (([k, g - k, k2] : List Int).map V.int)) := K3 p _ upd_same np.1 np.2.1
  obtain ⟨z, hz, sz, az⟩ := item_of (K := K) at_p e0 (show k3 < 3 from e1)
  refine ⟨p, _, _, _, rfl, rfl, sz, az, ?_⟩
  have kk : Kp d r H H3 := ((K1.trans K2).trans (Kp.of (same_new hp))).trans K3
  have zb : 0 ≤ z ∧ z ≤ g := by
    rcases List.mem_cons.mp hz with e | hz
    · omega
    rcases List.mem_cons.mp hz with e | hz
    · omega
    rcases List.mem_cons.mp hz with e | hz
    · omega
    · cases hz
  exact q _ _ zb.1 zb.2 D3 kk
theorem ok_law_delay (bt : Bt mg) (c_law_size : Cal P w K mg base "_law_size" ["_law_drawn", "_law_great"] 2 sp_law_size) {f : Addr} {fd : FuncData} (F : Fun K "_law_delay" "_law_delay" s_law_delay f fd) :
    FnG P w K mg base CX0 3 f fd ["_law_drawn", "_law_great"] sp_law_delay := by
  obtain ⟨f_law_size, fd_law_size, G_law_size, m_law_size, k_law_size, b_law_size⟩ := c_law_size
  refine fnG F sc_law_delay (fun vs H Q E h => ?_) (fun cdv A outer s H vs Q E hr gg h => ?_)
  · obtain ⟨d, c, r, N, m, rfl, _⟩ := h
    rfl
  obtain ⟨d, c, r, N, g, rfl, D, hN, g0, g1, q⟩ := h
  refine ⟨_, (pss_one (ps_ret (pe_op (op_add) pe_int (pe_callG G_law_size gg (hr.mono (by first | decide | omega)) (by rfl) m_law_size k_law_size b_law_size .nil pass0 (pa_cons (pv 0) (pa_cons (pe_op (op_sub) (pv 1) pe_int) pa_nil)))))), ?_⟩
  refine ⟨_, rfl, _, rfl, _, _, rfl, rfl, d, c, r, N, _, rfl, D, by omega, by omega, by omega, fun H1 k b0 b1 D1 K1 => ?_⟩
  exact ⟨_, _, rfl, rfl, q _ _ (by omega) (by omega) D1 K1⟩
end
end Tr

namespace Tr
open PySem PySem.Spec PyProof.Rows L2
abbrev s_law_parents : Stmt := topS 9
theorem sc_law_parents : FnScope ["_law_drawn", "_law_count", "_law_way", "_law_found", "_law_k", "_law_near"] ["_law_drawn", "_law_count"] (defScope s_law_parents) := ⟨rfl, rfl, rfl, by decide +kernel, rfl, by decide +kernel, by decide +kernel⟩
/-- _law_parents: each number is at most its place -/
def sp_law_parents : Sp := fun vs H Q _ => ∃ (d c r : Addr) (N n : Nat), vs = [.ref d, .int n] ∧ Dn d c r N H ∧ N + (1 + 4 * n) ≤ TT ∧ 1 ≤ n ∧ n ≤ 1000 ∧
  ∀ (H' : Hp) (p : Addr) (l : List Int), l.length + 1 = n → (∀ (i : Nat) (z : Int), l[i]? = some z → 0 ≤ z ∧ z ≤ (i : Int)) → H p = none → H' p = some (.lst (l.map V.int)) → p ≠ d → p ≠ r → Dn d c r (N + (1 + 4 * n)) H' → Kp d r H H' → Q (.ref p) H'
theorem mem4 {a b c e z : Int} (h : z ∈ [a, b, c, e]) : z = a ∨ z = b ∨ z = c ∨ z = e := by simpa using h
theorem mem5 {a b c e f z : Int} (h : z ∈ [a, b, c, e, f]) : z = a ∨ z = b ∨ z = c ∨ z = e ∨ z = f := by simpa using h
theorem max0_b {x y : Int} (h : x ≤ y) (h2 : 0 ≤ y) : 0 ≤ (if x > 0 then x else 0 : Int) ∧ (if x > 0 then x else 0 : Int) ≤ y := by split <;> omega
theorem half_b {k : Int} (h : 1 ≤ k) : 0 ≤ k.fdiv 2 ∧ k.fdiv 2 ≤ k - 1 := by
  rw [Int.fdiv_eq_ediv_of_nonneg _ (by decide)]
  omega
section
variable {P : Program} {w : World} {K : PySem.W.Frag} {mg : Str → Option Value} {base : Heap}
theorem ok_law_parents (bt : Bt mg) (c_law_next : Cal P w K mg base "_law_next" ["_law_drawn", "_law_many"] 1 sp_law_next) {f : Addr} {fd : FuncData} (F : Fun K "_law_parents" "_law_parents" s_law_parents f fd) :
    FnG P w K mg base CX0 2 f fd ["_law_drawn", "_law_count"] sp_law_parents := by
  obtain ⟨f_law_next, fd_law_next, G_law_next, m_law_next, k_law_next, b_law_next⟩ := c_law_next
  refine fnG F sc_law_parents (fun vs H Q E h => ?_) (fun cdv A outer s H vs Q E hr gg h => ?_)
  · obtain ⟨d, c, r, N, m, rfl, _⟩ := h
    rfl
  obtain ⟨d, c, r, N, n, rfl, D, hN, n0, n1, q⟩ := h
  refine ⟨_, (pss_cons (ps_par (i := 2) (j := 3) (by rfl) sc_law_parents.nd rfl rfl (by decide) rfl rfl (pa_cons (pe_callG G_law_next gg (hr.mono (by first | decide | omega)) (by rfl) m_law_next k_law_next b_law_next .nil pass0 (pa_cons (pv 0) (pa_cons pe_int pa_nil))) (pa_cons (pe_lst pa_nil) pa_nil)) (by rfl))
      (pss_cons (ps_for PassesOwn.never rfl (pi_range2 (by rfl) bt.range (pa_cons pe_int (pa_cons (pv 1) pa_nil))) (pg_name (i := 4) sc_law_parents.nd rfl (.inl rfl))
        (pss_cons (ps_set (i := 5) sc_law_parents.nd rfl (.inl rfl) (pe_ix ix_list (pe_lst (pa_cons (pe_callG G_law_next gg (hr.mono (by first | decide | omega)) (by rfl) m_law_next k_law_next b_law_next .nil pass0 (pa_cons (pv 0) (pa_cons (pv 4) pa_nil))) (pa_cons (pe_op (op_sub) (pv 4) pe_int) (pa_cons pe_int (pa_cons (pe_callB (call_max2 rfl) (by rfl) bt.max bb_max (pa_cons pe_int (pa_cons (pe_op (op_sub) (pe_op (op_sub) (pv 4) pe_int) (pe_callG G_law_next gg (hr.mono (by first | decide | omega)) (by rfl) m_law_next k_law_next b_law_next .nil pass0 (pa_cons (pv 0) (pa_cons pe_int pa_nil)))) pa_nil))) (pa_cons (pe_op (op_fdivN) (pv 4) pe_int) pa_nil)))))) (pv 2) (fun _ _ => rfl)))
      (pss_one (ps_expr (pe_bm PySem.F.plainAttrs_list PySem.F.slot_list_append PySem.F.type_list_append mt_append (pv 3) (pa_cons (pe_ix ix_list (pe_lst (pa_cons (pv 5) (pa_cons (pv 5) (pa_cons (pv 5) (pa_cons (pe_callG G_law_next gg (hr.mono (by first | decide | omega)) (by rfl) m_law_next k_law_next b_law_next .nil pass0 (pa_cons (pv 0) (pa_cons (pv 4) pa_nil))) pa_nil))))) (pe_callG G_law_next gg (hr.mono (by first | decide | omega)) (by rfl) m_law_next k_law_next b_law_next .nil pass0 (pa_cons (pv 0) (pa_cons pe_int pa_nil))) (fun _ _ => rfl)) pa_nil))))))
      (pss_one (ps_ret (pv 3))))), ?_⟩
  refine ⟨_, rfl, d, c, r, N, _, rfl, D, by omega, by decide, by decide, fun H1 way w0 w1 D1 K1 => ?_⟩
  refine ⟨Nat.zero_le _, fun o no => ?_⟩
  have D2 := D1.new (o := .lst []) no
  have K2 : Kp d r H (upd H1 o (.lst [])) := K1.trans (Kp.of (same_new no))
  have ne := D1.new_ne no
  have noH : H o = none := by
    cases e : H o with
    | none => rfl
    | some u => exact absurd (K1 o u e ne.1 ne.2.1) (by rw [no]; exact fun z => nomatch z)
  refine ⟨_, _, rfl, _, rfl, 1, (n : Int), rfl, ⟨by omega, by omega, by omega, by omega⟩, ?_⟩
  refine for_range (lo := 1) (n := ((n : Int) - 1).toNat) (fun i σ H' => ∃ y4 y5, σ = [some (.ref d), some (.int n), some (.int way), some (.ref o), y4, y5] ∧ Dn d c r (N + 1 + 4 * i) H' ∧ Kp d r H H' ∧
      ∃ l : List Int, l.length = i ∧ (∀ (j : Nat) (z : Int), l[j]? = some z → 0 ≤ z ∧ z ≤ (j : Int)) ∧ H' o = some (.lst (l.map V.int)))
    ⟨none, none, rfl, D2, K2, [], rfl, fun j z h => by simp at h, upd_same⟩ (fun i σ H' hi h => ?_) (fun σ H' h => ?_)
  · obtain ⟨y4, y5, rfl, D3, K3, l, hl, hb, ho⟩ := h
    have hi' : i + 1 < n := by omega
    -- the display of five
    refine ⟨_, rfl, _, rfl, d, c, r, _, _, rfl, D3, by omega, by omega, by omega, fun H4 a a0 a1 D4 K4 => ?_⟩
    refine ⟨_, rfl, _, _, rfl, rfl, ?_⟩
    refine ⟨_, rfl, _, _, rfl, rfl, _, rfl, d, c, r, _, _, rfl, D4, by omega, by decide, by decide, fun H5 b b0 b1 D5 K5 => ?_⟩
    refine ⟨_, _, rfl, rfl, _, _, rfl, _, rfl, _, _, rfl, rfl, ⟨by decide, by decide⟩, (by show 5 ≤ sizeLine; decide), fun p hp => ?_⟩
    have ho5 := K5 o _ (K4 o _ ho ne.1 ne.2.1) ne.1 ne.2.1
    have ho6 := (same_new (o := .lst (([a, (1 + (i : Int)) - 1, 0, (if (1 + (i : Int)) - 1 - b > 0 then (1 + (i : Int)) - 1 - b else 0), (1 + (i : Int)).fdiv 2] : List Int).map V.int)) hp) _ _ ho5
    obtain ⟨z, hz, sz, az⟩ := item_of (K := K) (H := upd H5 p (.lst (([a, (1 + (i : Int)) - 1, 0, (if (1 + (i : Int)) - 1 - b > 0 then (1 + (i : Int)) - 1 - b else 0), (1 + (i : Int)).fdiv 2] : List Int).map V.int))) upd_same w0 (show way < 5 from w1)
    have zb : 0 ≤ z ∧ z ≤ (i : Int) := by
      obtain ⟨m0, m1⟩ := max0_b (x := (1 + (i : Int)) - 1 - b) (y := (i : Int)) (by omega) (by omega)
      obtain ⟨h0, h1⟩ := half_b (k := 1 + (i : Int)) (by omega)
      rcases mem5 hz with e | e | e | e | e
      · omega
      · omega
      · omega
      · rw [e]; exact ⟨m0, m1⟩
      · omega
    refine ⟨_, rfl, p, _, _, _, rfl, rfl, sz, az, ?_⟩
    have D6 := D5.new (o := .lst (([a, (1 + (i : Int)) - 1, 0, (if (1 + (i : Int)) - 1 - b > 0 then (1 + (i : Int)) - 1 - b else 0), (1 + (i : Int)).fdiv 2] : List Int).map V.int)) hp
    have K6 : Kp d r H _ := ((K3.trans K4).trans K5).trans (Kp.of (same_new (o := .lst (([a, (1 + (i : Int)) - 1, 0, (if (1 + (i : Int)) - 1 - b > 0 then (1 + (i : Int)) - 1 - b else 0), (1 + (i : Int)).fdiv 2] : List Int).map V.int)) hp))
    clear sz az D3 D4 K4 D5 K5 ho5 hp
    -- found.append(..)
    refine ⟨_, rfl, .inl ⟨rfl, _, SqL.of ho6⟩, _, rfl, _, rfl, _, rfl, _, rfl, _, rfl, d, c, r, _, _, rfl, D6, by omega, by omega, by omega, fun H7 e e0 e1 D7 K7 => ?_⟩
    refine ⟨(by show 4 ≤ sizeLine; decide), fun p2 hp2 => ?_⟩
    have D8 := D7.new (o := .lst (([z, z, z, e] : List Int).map V.int)) hp2
    have n8 := D7.new_ne hp2
    refine ⟨_, rfl, d, c, r, _, _, rfl, D8, by omega, by decide, by decide, fun H9 g g0 g1 D9 K9 => ?_⟩
    have at2 : H9 p2 = some (.lst (([z, z, z, e] : List Int).map V.int)) := K9 p2 _ upd_same n8.1 n8.2.1
    obtain ⟨y, hy, sy, ay⟩ := item_of (K := K) at2 g0 (show g < 4 from g1)
    have yb : 0 ≤ y ∧ y ≤ (i : Int) := by
      rcases mem4 hy with e | e | e | e <;> omega
    refine ⟨p2, _, _, _, rfl, rfl, sy, ay, ?_⟩
    have ho9 := K9 o _ (same_new (o := .lst (([z, z, z, e] : List Int).map V.int)) hp2 _ _ (K7 o _ ho6 ne.1 ne.2.1)) ne.1 ne.2.1
    refine ⟨o, _, _, rfl, rfl, ho9, ?_, ?_⟩
    · rw [List.length_map]
      exact small1000 (by omega)
    refine ⟨_, _, rfl, (D9.upd ne).mono (by omega), ?_, l ++ [y], by rw [List.length_append, hl]; rfl, ?_, by rw [List.map_append]; exact upd_same⟩
    · exact fun x u ex n1 n2 => (upd_ne (fun q => by rw [q, noH] at ex; cases ex)).trans ((K6.trans (K7.trans ((Kp.of (same_new hp2)).trans K9))) x u ex n1 n2)
    · intro j x hx
      rcases Nat.lt_or_ge j l.length with hj | hj
      · rw [List.getElem?_append_left hj] at hx
        exact hb j x hx
      · rw [List.getElem?_append_right hj] at hx
        have hj0 : j - l.length = 0 := by
          rcases Nat.eq_zero_or_pos (j - l.length) with q | q
          · exact q
          · rw [List.getElem?_eq_none (by simp; omega)] at hx
            cases hx
        rw [hj0] at hx
        have : y = x := Option.some.inj hx
        omega
  · obtain ⟨y4, y5, rfl, D3, K3, l, hl, hb, ho⟩ := h
    exact ⟨_, rfl, q _ _ l (by omega) hb noH ho ne.1 ne.2.1 (D3.mono (by omega)) K3⟩
end
end Tr

namespace Tr
open PySem PySem.Spec PyProof.Rows L2
abbrev s_law_shuffled : Stmt := topS 10
theorem sc_law_shuffled : FnScope ["_law_drawn", "_law_count", "_law_left", "_law_k"] ["_law_drawn", "_law_count"] (defScope s_law_shuffled) := ⟨rfl, rfl, rfl, by decide +kernel, rfl, by decide +kernel, by decide +kernel⟩
theorem rgV_rI (n : Nat) : rgV 0 (n : Int) = (rI n).map V.int := by
  unfold rgV rI
  rw [List.map_map, show ((n : Int) - 0).toNat = n by omega]
  refine List.map_congr_left fun i _ => ?_
  show V.int (0 + (i : Int)) = V.int (Int.ofNat i)
  rw [Int.zero_add] <;> rfl
/-- _law_shuffled: some order of all numbers below n -/
def sp_law_shuffled : Sp := fun vs H Q _ => ∃ (d c r : Addr) (N n : Nat), vs = [.ref d, .int n] ∧ Dn d c r N H ∧ N + n ≤ TT ∧ n ≤ 1000 ∧
  ∀ (H' : Hp) (p : Addr) (l : List Int), l.Perm (rI n) → H p = none → H' p = some (.lst (l.map V.int)) → p ≠ d → p ≠ r → Dn d c r (N + n) H' → Kp d r H H' → Q (.ref p) H'
theorem kp_free {d r : Addr} {H H1 : Hp} {o : Addr} (K1 : Kp d r H H1) (no : H1 o = none) (n1 : o ≠ d) (n2 : o ≠ r) : H o = none := by
  cases e : H o with
  | none => rfl
  | some u => exact absurd (K1 o u e n1 n2) (by rw [no]; exact fun z => nomatch z)
theorem kp_wr {d r : Addr} {H H1 : Hp} {o : Addr} {u : HO} (K1 : Kp d r H H1) (no : H o = none) : Kp d r H (upd H1 o u) := fun b x e n1 n2 => (upd_ne (ne_of_none e no)).trans (K1 b x e n1 n2)
theorem seq_ix {n j : Nat} (h : j < n) : seqIndex? (j : Int) n = some j := by
  have e : ixN n (j : Int) = some j := by
    unfold ixN
    rw [if_pos (by omega), if_pos (by omega)]
    simp
  exact (ixN_seq e).1
theorem map_erase {α β : Type} (f : α → β) : ∀ (l : List α) (j : Nat), (l.map f).eraseIdx j = (l.eraseIdx j).map f
  | [], _ => rfl
  | _ :: _, 0 => rfl
  | a :: l, j + 1 => by
    show f a :: (l.map f).eraseIdx j = f a :: (l.eraseIdx j).map f
    rw [map_erase f l j]
theorem perm_erase {a l : List Int} {z : Int} {j : Nat} {t : List Int} (h : (a ++ l).Perm t) (e : l[j]? = some z) : ((a ++ [z]) ++ l.eraseIdx j).Perm t := by
  obtain ⟨hj, ez⟩ := List.getElem?_eq_some_iff.mp e
  have p1 : (z :: l.eraseIdx j).Perm l := by
    rw [← ez]
    exact erase_perm l j _ (List.getElem?_eq_getElem hj)
  rw [List.append_assoc]
  exact ((List.Perm.append_left a p1)).trans h
section
variable {P : Program} {w : World} {K : PySem.W.Frag} {mg : Str → Option Value} {base : Heap}
theorem ok_law_shuffled (bt : Bt mg) (c_law_next : Cal P w K mg base "_law_next" ["_law_drawn", "_law_many"] 1 sp_law_next) {f : Addr} {fd : FuncData} (F : Fun K "_law_shuffled" "_law_shuffled" s_law_shuffled f fd) :
    FnG P w K mg base CX0 2 f fd ["_law_drawn", "_law_count"] sp_law_shuffled := by
  obtain ⟨f_law_next, fd_law_next, G_law_next, m_law_next, k_law_next, b_law_next⟩ := c_law_next
  refine fnG F sc_law_shuffled (fun vs H Q E h => ?_) (fun cdv A outer s H vs Q E hr gg h => ?_)
  · obtain ⟨d, c, r, N, m, rfl, _⟩ := h
    rfl
  obtain ⟨d, c, r, N, n, rfl, D, hN, n1, q⟩ := h
  refine ⟨_, (pss_cons (ps_set (i := 2) sc_law_shuffled.nd rfl (.inr rfl) (pe_listRg rfl (by rfl) bt.list (prg_1 (by rfl) bt.range (pv 1))))
      (pss_one (ps_ret (pe_lc (own := [("_law_k", 3)]) (tt := tYes) rfl sc_law_shuffled.nd (pi_range1 (by rfl) bt.range (pa_cons (pv 1) pa_nil)) (blkOk_by (own := [("_law_k", 3)]) (N := ["_law_drawn", "_law_count", "_law_left", "_law_k"]) (sc := defScope s_law_shuffled) (by decide +kernel)) (fun _ _ _ _ _ => (pg_name (i := 3) sc_law_shuffled.nd rfl (.inl rfl))) (fun _ _ _ _ _ => pts_nil) (fun _ _ _ _ _ => (pe_bm PySem.F.plainAttrs_list PySem.F.slot_list_pop PySem.F.type_list_pop mt_popAt (pv 2) (pa_cons (pe_callG G_law_next gg (hr.mono (by first | decide | omega)) (by rfl) m_law_next k_law_next b_law_next .nil pass0 (pa_cons (pv 0) (pa_cons (pe_callB ((q_len : CallR _ _ (qLen K))) (by rfl) bt.len bb_len (pa_cons (pv 2) pa_nil)) pa_nil))) pa_nil) : PE _ _ (tBM K "list" rPopAt _ _))))))), ?_⟩
  refine ⟨_, rfl, _, rfl, RgOk.of_le (by decide) (by omega) (by decide) (by omega), fun o no => ?_⟩
  rw [rgV_rI]
  have D1 := D.new (o := .lst ((rI n).map V.int)) no
  have ne := D.new_ne no
  have K1 : Kp d r H (upd H o (.lst ((rI n).map V.int))) := Kp.of (same_new no)
  have e1 : (upd H o (.lst ((rI n).map V.int))) o = _ := upd_same
  generalize upd H o (.lst ((rI n).map V.int)) = H1 at D1 K1 e1 ⊢
  refine ⟨_, rfl, _, rfl, by omega, by omega, fun Z nZ => ?_⟩
  have neZ := D1.new_ne nZ
  have oZ : o ≠ Z := ne_of_none e1 nZ
  have freeZ := kp_free K1 nZ neZ.1 neZ.2.1
  refine lc_range (lo := 0) (n := Int.toNat n) (fun i H' => Dn d c r (N + i) H' ∧ Kp d r H H' ∧ ∃ a l : List Int, a.length = i ∧ (a ++ l).Perm (rI n) ∧ H' Z = some (.lst (a.map V.int)) ∧ H' o = some (.lst (l.map V.int)))
    ⟨D1.new nZ, K1.trans (Kp.of (same_new nZ)), [], rI n, rfl, List.Perm.refl _, upd_same, (upd_ne oZ).trans e1⟩ (fun i H' hi h => ?_) (fun H' h => ?_)
  · obtain ⟨D2, K2, a, l, ha, pm, hZ, ho⟩ := h
    have hl : a.length + l.length = n := by
      have := pm.length_eq
      rw [List.length_append, rI_len] at this
      exact this
    have hi' : i < n := by omega
    refine ⟨rfl, ?_⟩
    refine ⟨_, rfl, .inl ⟨rfl, _, SqL.of ho⟩, _, rfl, _, rfl, o, _, rfl, .inl (SqL.of ho), d, c, r, _, _, rfl, D2, by omega, ?_, ?_, fun H3 k k0 k1 D3 K3 => ?_⟩
    · rw [List.length_map]; omega
    · rw [List.length_map]; omega
    rw [List.length_map] at k1
    obtain ⟨j, rfl⟩ := Int.eq_ofNat_of_zero_le k0
    have hj : j < l.length := by omega
    have ho3 := K3 o _ ho ne.1 ne.2.1
    have hZ3 := K3 Z _ hZ neZ.1 neZ.2.1
    refine ⟨o, _, _, j, .int l[j], rfl, rfl, ho3, by omega, by omega, ?_, get_int hj, ?_⟩
    · rw [List.length_map]
      exact seq_ix hj
    have em : (l.map V.int).eraseIdx j = (l.eraseIdx j).map V.int := map_erase V.int l j
    rw [em]
    refine ⟨a.map V.int, (upd_ne oZ.symm).trans hZ3, ?_, ?_⟩
    · rw [List.length_map]
      exact small1000 (by omega)
    refine ⟨((D3.upd ne).upd neZ).mono (by omega), kp_wr (kp_wr (K2.trans K3) (kp_free (Kp.refl d r H) no ne.1 ne.2.1)) freeZ, a ++ [l[j]], l.eraseIdx j, by rw [List.length_append, ha]; rfl, perm_erase pm (List.getElem?_eq_getElem hj), by rw [List.map_append]; exact upd_same, (upd_ne oZ).trans upd_same⟩
  · obtain ⟨D2, K2, a, l, ha, pm, hZ, ho⟩ := h
    have hl : a.length + l.length = n := by
      have := pm.length_eq
      rw [List.length_append, rI_len] at this
      exact this
    have l0 : l = [] := List.eq_nil_of_length_eq_zero (by omega)
    subst l0
    rw [List.append_nil] at pm
    exact q _ _ a pm freeZ hZ neZ.1 neZ.2.1 (D2.mono (by omega)) K2
end
end Tr

namespace Tr
open PySem PySem.Spec PyProof.Rows L2
abbrev s_law_made : Stmt := topS 11
theorem sc_law_made : FnScope ["_law_count", "_law_edges", "_law_one", "_law_other", "_law_delay_here"] ["_law_count", "_law_edges"] (defScope s_law_made) := ⟨rfl, rfl, rfl, by decide +kernel, rfl, by decide +kernel, by decide +kernel⟩
/-- _law_made -/
def sp_law_made : Sp := fun vs H Q _ => ∃ (n : Nat) (o : Addr) (as : List Addr) (xs : List Ed), vs = [.int n, .ref o] ∧ H o = some (.lst (as.map V.ref)) ∧ EdsAt H as xs ∧ xs.length < 64 ∧ (∀ x ∈ xs, EdIn x) ∧
  ∀ (H' : Hp) (t : Addr) (es : List Ed), es.Perm (xs.map nrm) → es.Pairwise edLe → TrAt H' t n es → Same H H' → Q (.ref t) H'
section
variable {P : Program} {w : World} {K : PySem.W.Frag} {mg : Str → Option Value} {base : Heap}
theorem ok_law_made (bt : Bt mg) {f : Addr} {fd : FuncData} (F : Fun K "_law_made" "_law_made" s_law_made f fd) : FnG P w K mg base CX0 1 f fd ["_law_count", "_law_edges"] sp_law_made := by
  refine fnG F sc_law_made (fun vs H Q E h => ?_) (fun cdv A outer s H vs Q E hr gg h => ?_)
  · obtain ⟨n, o, as, xs, rfl, _⟩ := h
    rfl
  obtain ⟨n, o, as, xs, rfl, ho, hx, h64, hin, q⟩ := h
  refine ⟨_, (pss_one (ps_ret (pe_tup (pa_cons (pv 0) (pa_cons (pe_callTy (call_tuple_of) (by rfl) bt.tuple bb_tuple (pa_cons (pe_callB (cr_sortT (d := 3) (B := BB) (by decide)) (by rfl) bt.sorted bb_sorted (pa_cons (pe_lc (own := [("_law_one", 2), ("_law_other", 3), ("_law_delay_here", 4)]) (tt := tYes) rfl sc_law_made.nd (pi_list (pv 1)) (blkOk_by (own := [("_law_one", 2), ("_law_other", 3), ("_law_delay_here", 4)]) (N := ["_law_count", "_law_edges", "_law_one", "_law_other", "_law_delay_here"]) (sc := defScope s_law_made) (by decide +kernel)) (fun _ _ _ _ _ => (pg_tup rfl (pgs_cons (pg_name (i := 2) sc_law_made.nd rfl (.inl rfl)) (pgs_cons (pg_name (i := 3) sc_law_made.nd rfl (.inl rfl)) (pgs_cons (pg_name (i := 4) sc_law_made.nd rfl (.inl rfl)) pgs_nil))) : PG _ _ (gTup K 3 _))) (fun _ _ _ _ _ => pts_nil) (fun _ _ _ _ _ => (pe_tup (pa_cons (pe_callB (call_min2 rfl) (by rfl) bt.min bb_min (pa_cons (pv 2) (pa_cons (pv 3) pa_nil))) (pa_cons (pe_callB (call_max2 rfl) (by rfl) bt.max bb_max (pa_cons (pv 2) (pa_cons (pv 3) pa_nil))) (pa_cons (pv 4) pa_nil)))))) pa_nil)) pa_nil)) pa_nil))))), ?_⟩
  refine ⟨_, rfl, _, rfl, o, rfl, ⟨_, SqL.of ho⟩, fun Z nZ => ?_⟩
  have hla := hx.length
  refine lc_list (K := K) (a := o) (xs := as.map V.ref) (fun i H' => i ≤ xs.length ∧ Same H H' ∧ ∃ bs : List Addr, H' Z = some (.lst (bs.map V.ref)) ∧ EdsAt H' bs ((xs.take i).map nrm))
    ⟨Nat.zero_le _, same_new nZ, [], upd_same, eds_nil⟩ (fun i H' _ h => SqL.of (h.2.1 _ _ ho)) (fun i x H' hx1 h => ?_) (fun H' h => ?_)
  · obtain ⟨hi, sm, bs, hZ, hb⟩ := h
    rw [List.getElem?_map] at hx1
    obtain ⟨a, ha, rfl⟩ := Option.map_eq_some_iff.mp hx1
    obtain ⟨e, he, hae⟩ := hx.get' ha
    have hlt : i < xs.length := (List.getElem?_eq_some_iff.mp he).1
    refine ⟨a, _, rfl, SqT.of (sm _ _ hae), rfl, _, _, rfl, _, _, rfl, _, _, rfl, rfl, rfl, ?_⟩
    refine ⟨_, rfl, _, rfl, _, _, rfl, _, rfl, _, rfl, _, _, rfl, _, rfl, (by show 3 ≤ sizeLine; decide), fun p hp => ?_⟩
    have hl := hb.length
    rw [List.length_map, List.length_take] at hl
    have Zp : Z ≠ p := ne_of_none hZ hp
    refine ⟨_, (upd_ne Zp).trans hZ, ?_, hlt, ?_, bs ++ [p], ?_, ?_⟩
    · rw [List.length_map]
      exact Nat.lt_of_lt_of_le (show bs.length < 64 by omega) (by decide)
    · exact fun b u eb => (upd_ne (ne_of_none eb nZ)).trans (((same_new hp) b u (sm b u eb)))
    · rw [List.map_append]
      exact upd_same
    · have es1 : (xs.take (i + 1)).map nrm = (xs.take i).map nrm ++ [nrm e] := by
        rw [List.take_add_one, he, List.map_append]
        rfl
      rw [es1]
      refine EdsAt.snoc (hb.keep fun b ys eb => ?_) ?_
      · exact (upd_ne (fun z => by rw [z, hZ] at eb; cases eb)).trans ((upd_ne (ne_of_none eb hp)).trans eb)
      · exact (upd_ne Zp.symm).trans upd_same
  · obtain ⟨_, sm, bs, hZ, hb⟩ := h
    rw [List.length_map, hla, List.take_length] at hb
    have hl := hb.length
    rw [List.length_map] at hl
    refine ⟨Z, bs.map V.ref, rfl, SqL.of hZ, by rw [List.length_map]; omega, fun x hx2 => ?_, fun ys p pm so hp => ?_⟩
    · obtain ⟨b, hb1, rfl⟩ := List.mem_map.mp hx2
      obtain ⟨e, he, hbe⟩ := hb.mem hb1
      obtain ⟨e0, he0, rfl⟩ := List.mem_map.mp he
      exact ⟨edV (nrm e0), ⟨b, rfl, SqT.of hbe⟩, rfl, bd_of (nrm_in (hin e0 he0))⟩
    obtain ⟨cs, rfl, pc⟩ := perm_pull V.ref pm bs rfl
    obtain ⟨fs, hf, pf⟩ := hb.perm pc
    have sorted_fs := eds_sorted hf so
    have s1 := same_new (o := .lst (cs.map V.ref)) hp
    refine ⟨p, _, rfl, .inl ⟨SqL.of upd_same, fun l hl1 => ?_⟩⟩
    refine ⟨(by show 2 ≤ sizeLine; decide), fun t ht => ?_⟩
    have s2 := same_new (o := .tup (cs.map V.ref)) hl1
    have s3 := same_new (o := .tup [.int n, .ref l]) ht
    refine q _ t fs pf sorted_fs ⟨l, cs, upd_same, s3 _ _ upd_same, hf.keep fun a xs e => s3 _ _ (s2 _ _ (s1 _ _ e))⟩ (((sm.trans s1).trans s2).trans s3)
end
end Tr

namespace Tr
open PySem PySem.Spec PyProof.Rows L2
abbrev s_law_tree : Stmt := topS 12
theorem sc_law_tree : FnScope ["_law_drawn", "_law_most", "_law_count", "_law_great", "_law_names", "_law_edges", "_law_k", "_law_near"] ["_law_drawn", "_law_most"] (defScope s_law_tree) := ⟨rfl, rfl, rfl, by decide +kernel, rfl, by decide +kernel, by decide +kernel⟩
/-- _law_tree -/
def sp_law_tree : Sp := fun vs H Q _ => ∃ (d c r : Addr) (N m : Nat), vs = [.ref d, .int m] ∧ Dn d c r N H ∧ N + (5 + 8 * m) ≤ TT ∧ 1 ≤ m ∧ m ≤ 60 ∧
  ∀ (H' : Hp) (t : Addr) (n : Nat) (es : List Ed), IsTree n es → n ≤ m → TrAt H' t n es → Dn d c r (N + (5 + 8 * m)) H' → Kp d r H H' → Q (.ref t) H'
section
variable {P : Program} {w : World} {K : PySem.W.Frag} {mg : Str → Option Value} {base : Heap}
theorem ok_law_tree (bt : Bt mg) (c_law_next : Cal P w K mg base "_law_next" ["_law_drawn", "_law_many"] 1 sp_law_next) (c_law_size : Cal P w K mg base "_law_size" ["_law_drawn", "_law_great"] 2 sp_law_size)
    (c_law_delay : Cal P w K mg base "_law_delay" ["_law_drawn", "_law_great"] 3 sp_law_delay) (c_law_parents : Cal P w K mg base "_law_parents" ["_law_drawn", "_law_count"] 2 sp_law_parents)
    (c_law_shuffled : Cal P w K mg base "_law_shuffled" ["_law_drawn", "_law_count"] 2 sp_law_shuffled) (c_law_made : Cal P w K mg base "_law_made" ["_law_count", "_law_edges"] 1 sp_law_made)
    {f : Addr} {fd : FuncData} (F : Fun K "_law_tree" "_law_tree" s_law_tree f fd) : FnG P w K mg base CX0 4 f fd ["_law_drawn", "_law_most"] sp_law_tree := by
  obtain ⟨f_law_next, fd_law_next, G_law_next, m_law_next, k_law_next, b_law_next⟩ := c_law_next
  obtain ⟨f_law_size, fd_law_size, G_law_size, m_law_size, k_law_size, b_law_size⟩ := c_law_size
  obtain ⟨f_law_delay, fd_law_delay, G_law_delay, m_law_delay, k_law_delay, b_law_delay⟩ := c_law_delay
  obtain ⟨f_law_parents, fd_law_parents, G_law_parents, m_law_parents, k_law_parents, b_law_parents⟩ := c_law_parents
  obtain ⟨f_law_shuffled, fd_law_shuffled, G_law_shuffled, m_law_shuffled, k_law_shuffled, b_law_shuffled⟩ := c_law_shuffled
  obtain ⟨f_law_made, fd_law_made, G_law_made, m_law_made, k_law_made, b_law_made⟩ := c_law_made
  refine fnG F sc_law_tree (fun vs H Q E h => ?_) (fun cdv A outer s H vs Q E hr gg h => ?_)
  · obtain ⟨d, c, r, N, m, rfl, _⟩ := h
    rfl
  obtain ⟨d, c, r, N, m, rfl, D, hN, m0, m1, q⟩ := h
  refine ⟨_, (pss_cons (ps_set (i := 2) sc_law_tree.nd rfl (.inl rfl) (pe_op (op_add) pe_int (pe_callG G_law_size gg (hr.mono (by first | decide | omega)) (by rfl) m_law_size k_law_size b_law_size .nil pass0 (pa_cons (pv 0) (pa_cons (pe_op (op_sub) (pv 1) pe_int) pa_nil)))))
      (pss_cons (ps_set (i := 3) sc_law_tree.nd rfl (.inl rfl) (pe_ix ix_list (pe_lst (pa_cons pe_int (pa_cons pe_int (pa_cons (pe_op (op_pow) pe_int pe_int) pa_nil)))) (pe_callG G_law_next gg (hr.mono (by first | decide | omega)) (by rfl) m_law_next k_law_next b_law_next .nil pass0 (pa_cons (pv 0) (pa_cons pe_int pa_nil))) (fun _ _ => rfl)))
      (pss_cons (ps_set (i := 4) sc_law_tree.nd rfl (.inl rfl) (pe_callG G_law_shuffled gg (hr.mono (by first | decide | omega)) (by rfl) m_law_shuffled k_law_shuffled b_law_shuffled .nil pass0 (pa_cons (pv 0) (pa_cons (pv 2) pa_nil))))
      (pss_cons (ps_set (i := 5) sc_law_tree.nd rfl (.inl rfl) (pe_lst pa_nil))
      (pss_cons (ps_for PassesOwn.never rfl (pi_enum (by rfl) bt.enumerate (pa_cons (pe_callG G_law_parents gg (hr.mono (by first | decide | omega)) (by rfl) m_law_parents k_law_parents b_law_parents .nil pass0 (pa_cons (pv 0) (pa_cons (pv 2) pa_nil))) pa_nil)) (pg_tup rfl (pgs_cons (pg_name (i := 6) sc_law_tree.nd rfl (.inl rfl)) (pgs_cons (pg_name (i := 7) sc_law_tree.nd rfl (.inl rfl)) pgs_nil)))
        (pss_one (ps_expr (pe_bm PySem.F.plainAttrs_list PySem.F.slot_list_append PySem.F.type_list_append mt_append (pv 5) (pa_cons (pe_tup (pa_cons (pe_ix ix_list (pv 4) (pe_op (op_add) (pv 6) pe_int) (fun _ _ => rfl)) (pa_cons (pe_ix ix_list (pv 4) (pv 7) (fun _ _ => rfl)) (pa_cons (pe_callG G_law_delay gg (hr.mono (by first | decide | omega)) (by rfl) m_law_delay k_law_delay b_law_delay .nil pass0 (pa_cons (pv 0) (pa_cons (pv 3) pa_nil))) pa_nil)))) pa_nil)))))
      (pss_one (ps_ret (pe_callG G_law_made gg (hr.mono (by first | decide | omega)) (by rfl) m_law_made k_law_made b_law_made .nil pass0 (pa_cons (pv 2) (pa_cons (pv 5) pa_nil)))))))))), ?_⟩
  -- count
  refine ⟨_, rfl, _, rfl, _, _, rfl, rfl, d, c, r, N, _, rfl, D, by omega, by omega, by omega, fun H1 k k0 k1 D1 K1 => ?_⟩
  obtain ⟨n, en⟩ : ∃ n : Nat, 1 + k = (n : Int) := ⟨(1 + k).toNat, by omega⟩
  refine ⟨_, _, rfl, rfl, ?_⟩
  have hv : V.int (1 + k) = V.int n := congrArg V.int en
  -- great
  refine ⟨_, _, rfl, rfl, ⟨by decide, by decide, by decide⟩, (by show 3 ≤ sizeLine; decide), fun p1 n1 => ?_⟩
  have D1' := D1.new (o := .lst [.int 1, .int 3, .int ((10 : Int) ^ (9 : Int).toNat)]) n1
  have ne1 := D1.new_ne n1
  refine ⟨_, rfl, d, c, r, _, _, rfl, D1', by omega, by decide, by decide, fun H2 gi g0 g1 D2 K2 => ?_⟩
  have at1 : H2 p1 = some (.lst (([1, 3, (10 : Int) ^ (9 : Int).toNat] : List Int).map V.int)) := K2 p1 _ upd_same ne1.1 ne1.2.1
  obtain ⟨G, hG, sG, aG⟩ := item_of (K := K) at1 g0 (show gi < 3 from g1)
  have Gb : 1 ≤ G ∧ G ≤ 1000000000 := by
    have e9 : (10 : Int) ^ (9 : Int).toNat = 1000000000 := by decide
    rw [e9] at hG
    have : G = 1 ∨ G = 3 ∨ G = 1000000000 := by simpa using hG
    omega
  refine ⟨p1, _, _, _, rfl, rfl, sG, aG, ?_⟩
  have K2' : Kp d r H H2 := (K1.trans (Kp.of (same_new n1))).trans K2
  clear sG aG at1 K1 K2 D1 D1'
  -- names
  refine ⟨_, rfl, _, rfl, d, c, r, _, n, congrArg (fun v => [V.ref d, v]) hv, D2, by omega, by omega, fun H3 pn l pm fn atn nd nr D3 K3 => ?_⟩
  refine ⟨Nat.zero_le _, fun o no => ?_⟩
  have D4 := D3.new (o := .lst []) no
  have neo := D3.new_ne no
  have K4 : Kp d r H (upd H3 o (.lst [])) := (K2'.trans K3).trans (Kp.of (same_new no))
  have pno : pn ≠ o := ne_of_none atn no
  have atn4 : (upd H3 o (.lst [])) pn = some (.lst (l.map V.int)) := (upd_ne pno).trans atn
  have ato4 : (upd H3 o (.lst [])) o = some (.lst []) := upd_same
  have freeo : H o = none := kp_free (K2'.trans K3) no neo.1 neo.2.1
  generalize upd H3 o (.lst []) = H4 at D4 K4 atn4 ato4 ⊢
  clear D3 no
  -- parents
  have hn1 : 1 ≤ n := by omega
  refine ⟨_, rfl, _, rfl, d, c, r, _, n, congrArg (fun v => [V.ref d, v]) hv, D4, by omega, hn1, by omega, fun H5 pp ps hps hpb fp atp pd pr D5 K5 => ?_⟩
  have atn5 := K5 pn _ atn4 nd nr
  have ato5 := K5 o _ ato4 neo.1 neo.2.1
  have ppo : pp ≠ o := fun z => by rw [z, ato4] at fp; cases fp
  have hll : l.length = n := by rw [pm.length_eq, rI_len]
  refine ⟨pp, _, rfl, SqL.of atp, ?_⟩
  refine for_it (walk_enum (K := K) (a := pp) (xs := ps.map V.int)) (fun i σ H' => ∃ y6 y7, σ = [some (.ref d), some (.int m), some (.int (1 + k)), some (.int G), some (.ref pn), some (.ref o), y6, y7] ∧ Dn d c r (N + 3 + 1 + n + (1 + 4 * n) + 3 * i) H' ∧ Kp d r H H' ∧
      H' pn = some (.lst (l.map V.int)) ∧ H' pp = some (.lst (ps.map V.int)) ∧ ∃ (as : List Addr) (xs : List Ed), H' o = some (.lst (as.map V.ref)) ∧ EdsAt H' as xs ∧ xs.length = i ∧ (∀ x ∈ xs, EdIn x) ∧ Grow (l.take (i + 1)) (xs.map nrm))
    ⟨none, none, rfl, D5.mono (by omega), K4.trans K5, atn5, atp, [], [], ato5, eds_nil, rfl, fun x h => (by cases h), ?_⟩ (fun i σ H' _ h => ?_) (fun i x σ H6 H7 hi h hy => ?_) (fun σ H6 h => ?_)
  · cases l with
    | nil => simp at hll; omega
    | cons a l => exact Grow.one a
  · obtain ⟨_, _, _, _, _, _, h5, _⟩ := h
    exact SqL.of h5
  · obtain ⟨y6, y7, rfl, D6, K6, atn6, atp6, as, xs, ato6, hx, hxl, hin, gr⟩ := h
    obtain ⟨T, a, b, rfl, fT, rfl, ea, eb⟩ := hy
    obtain rfl : V.int (i : Nat) = a := Option.some.inj ea
    have eb : (ps.map V.int)[i]? = some b := eb
    rw [List.getElem?_map] at eb
    obtain ⟨z, hz, rfl⟩ := Option.map_eq_some_iff.mp eb
    have zb := hpb i z hz
    have hi' : i + 1 < n := by
      have := (List.getElem?_eq_some_iff.mp hz).1
      omega
    have D7 := D6.new (o := .tup [.int (i : Nat), .int z]) fT
    have oT : o ≠ T := ne_of_none ato6 fT
    have pnT : pn ≠ T := ne_of_none atn6 fT
    have ppT : pp ≠ T := ne_of_none atp6 fT
    have K7 : Kp d r H (upd H6 T (.tup [.int (i : Nat), .int z])) := K6.trans (Kp.of (same_new fT))
    have atn7 : (upd H6 T (.tup [.int (i : Nat), .int z])) pn = some (.lst (l.map V.int)) := (upd_ne pnT).trans atn6
    have atp7 : (upd H6 T (.tup [.int (i : Nat), .int z])) pp = some (.lst (ps.map V.int)) := (upd_ne ppT).trans atp6
    have ato7 : (upd H6 T (.tup [.int (i : Nat), .int z])) o = some (.lst (as.map V.ref)) := (upd_ne oT).trans ato6
    have hx7 : EdsAt (upd H6 T (.tup [.int (i : Nat), .int z])) as xs := hx.keep fun a ys e => (upd_ne (ne_of_none e fT)).trans e
    have tT : (upd H6 T (.tup [.int (i : Nat), .int z])) T = some (.tup [.int (i : Nat), .int z]) := upd_same
    generalize upd H6 T (.tup [.int (i : Nat), .int z]) = H8 at D7 K7 atn7 atp7 ato7 hx7 tT ⊢
    refine ⟨T, _, rfl, SqT.of tT, rfl, _, _, rfl, _, _, rfl, rfl, ?_⟩
    have g1 : l[i + 1]? = some l[i + 1] := List.getElem?_eq_getElem (by omega)
    have hzl : z.toNat < l.length := by omega
    have ez : z = ((z.toNat : Nat) : Int) := by omega
    have az : atI (l.map V.int) z = some (.int l[z.toNat]) := at_of ez (get_int hzl)
    refine ⟨_, rfl, .inl ⟨rfl, _, SqL.of ato7⟩, _, rfl, _, rfl, _, _, rfl, rfl, pn, _, _, _, rfl, rfl, SqL.of atn7, at_of (j := i + 1) (by omega) (get_int (by omega)), ?_⟩
    refine ⟨_, rfl, _, rfl, pn, _, _, _, rfl, rfl, SqL.of atn7, az, ?_⟩
    refine ⟨_, rfl, _, rfl, d, c, r, _, _, rfl, D7, by omega, Gb.1, by omega, fun H9 dl d0 d1 D9 K9 => ?_⟩
    have atn9 := K9 pn _ atn7 nd nr
    have atp9 := K9 pp _ atp7 pd pr
    have ato9 := K9 o _ ato7 neo.1 neo.2.1
    have hx9 : EdsAt H9 as xs := hx7.keep fun a ys e => K9.tup D7 e
    refine ⟨(by show 3 ≤ sizeLine; decide), fun T2 fT2 => ?_⟩
    have s9 := same_new (o := .tup [.int l[i + 1], .int l[z.toNat], .int dl]) fT2
    have oT2 : o ≠ T2 := ne_of_none ato9 fT2
    have pno' : pn ≠ o := pno
    refine ⟨o, _, _, rfl, rfl, s9 _ _ ato9, ?_, ?_⟩
    · rw [List.length_map, hx.length]
      exact small1000 (by omega)
    have hmem : ∀ {j : Nat} (hj : j < l.length), 0 ≤ l[j] ∧ l[j] < (n : Int) := fun hj => mem_rI.mp (pm.mem_iff.mp (List.getElem_mem hj))
    have b1 := hmem (j := i + 1) (by omega)
    have b2 := hmem hzl
    refine ⟨_, _, rfl, ((D9.new fT2).upd neo).mono (by omega), kp_wr ((K7.trans K9).trans (Kp.of s9)) freeo, (upd_ne pno).trans (s9 _ _ atn9), (upd_ne ppo).trans (s9 _ _ atp9), as ++ [T2], xs ++ [(l[i + 1], l[z.toNat], dl)], ?_, ?_, ?_, ?_, ?_⟩
    · rw [List.map_append]
      exact upd_same
    · refine EdsAt.snoc (hx9.keep fun a ys e => ?_) ?_
      · exact (upd_ne (fun q => by rw [q, ato9] at e; cases e)).trans (s9 _ _ e)
      · exact (upd_ne oT2.symm).trans upd_same
    · rw [List.length_append, hxl]
      rfl
    · intro x hx
      rcases List.mem_append.mp hx with hx | hx
      · exact hin x hx
      · have ex : x = (l[i + 1], l[z.toNat], dl) := by simpa using hx
        rw [ex]
        unfold EdIn BB
        exact ⟨⟨b1.1, by show l[i + 1] < _; omega⟩, ⟨b2.1, by show l[z.toNat] < _; omega⟩, ⟨by show 0 ≤ dl; omega, by show dl < _; omega⟩⟩
    · rw [List.map_append, List.take_add_one (i := i + 1), g1]
      have hlt : z.toNat < i + 1 := by omega
      have nd : l.Nodup := pm.nodup_iff.mpr (rI_nodup n)
      refine Grow.leaf (l[i + 1]) (l[z.toNat]) dl gr ?_ ?_ d0 (by omega)
      · exact List.mem_take_iff_getElem.mpr ⟨z.toNat, by omega, rfl⟩
      · intro hm
        obtain ⟨j, hj, ej⟩ := List.mem_take_iff_getElem.mp hm
        have hj2 : l[j]? = some l[i + 1] := by
          rw [← ej]
          exact List.getElem?_eq_getElem (by omega)
        have := nd_ix nd hj2 g1
        omega
  · obtain ⟨y6, y7, rfl, D6, K6, atn6, atp6, as, xs, ato6, hx, hxl, hin, gr⟩ := h
    rw [List.length_map] at hxl
    refine ⟨_, rfl, _, rfl, n, o, as, xs, congrArg (fun v => [v, V.ref o]) hv, ato6, hx, by omega, hin, fun H8 t es pe so tr s8 => ?_⟩
    refine q H8 t n es ⟨hn1, ⟨l, _, ?_, pm, pe⟩, so⟩ (by omega) tr ((D6.same s8).mono ?_) (K6.trans (Kp.of s8))
    · rw [List.length_map, List.take_of_length_le (by omega)] at gr
      exact gr
    · rw [List.length_map]; omega
end
end Tr

namespace Tr
open PySem PySem.Spec PyProof.Rows L2
abbrev s_law_equal : Stmt := topS 6
theorem sc_law_equal : FnScope ["_law_one", "_law_other", "_law_a", "_law_b"] ["_law_one", "_law_other"] (defScope s_law_equal) := ⟨rfl, rfl, rfl, by decide +kernel, rfl, by decide +kernel, by decide +kernel⟩
/-- _law_equal: of two values with the same data it says True -/
def sp_law_equal (K : PySem.W.Frag) (n : Nat) : Sp := fun vs H Q _ => ∃ (x y : V) (d : PyData), vs = [x, y] ∧ Dp K H x d ∧ Dp K H y d ∧ okd n d = true ∧ ∀ H', Same H H' → Q (.bl true) H'
section
variable {P : Program} {w : World} {K : PySem.W.Frag} {mg : Str → Option Value} {base : Heap}
theorem ok_law_equal_step (bt : Bt mg) {n : Nat} {f : Addr} {fd : FuncData} (F : Fun K "_law_equal" "_law_equal" s_law_equal f fd) (m_law_equal : mg "_law_equal" = some (.ref f)) (b_law_equal : Binds K fd ["_law_one", "_law_other"] [])
    (G_law_equal : FnG P w K mg base CX0 n f fd ["_law_one", "_law_other"] (sp_law_equal K n)) : FnG P w K mg base CX0 (n + 1) f fd ["_law_one", "_law_other"] (sp_law_equal K (n + 1)) := by
  have k_law_equal := F.kp
  refine fnG F sc_law_equal (fun vs H Q E h => ?_) (fun cdv A outer s H vs Q E hr gg h => ?_)
  · obtain ⟨x, y, d, rfl, _⟩ := h
    rfl
  obtain ⟨x, y, d, rfl, hx, hy, hd, q⟩ := h
  refine ⟨_, (pss_cons (ps_if (PW.pt (pw_and (pt_val (pe_callB (call_isi) (by rfl) bt.isinstance bb_isinstance (pa_cons (pv 0) (pa_cons (pe_bltn (v := .ty "tuple") (by rfl) bt.tuple bb_tuple rfl) pa_nil)))) (pw_and1 (pt_val (pe_callB (call_isi) (by rfl) bt.isinstance bb_isinstance (pa_cons (pv 1) (pa_cons (pe_bltn (v := .ty "tuple") (by rfl) bt.tuple bb_tuple rfl) pa_nil))))))) (pss_one (ps_ret (pe_and (pe_cmpR (op_eq) (pe_callB (call_len_seq) (by rfl) bt.len bb_len (pa_cons (pv 0) pa_nil)) (pe_callB (call_len_seq) (by rfl) bt.len bb_len (pa_cons (pv 1) pa_nil)) (nomark _)) (pe_one (pe_callB (cr_all rfl) (by rfl) bt.all bb_all (pa_cons (pe_lc (own := [("_law_a", 2), ("_law_b", 3)]) (tt := tYes) rfl sc_law_equal.nd (RZ.pi_zipA (by rfl) bt.zip (pa_cons (pv 0) (pa_cons (pv 1) pa_nil))) (blkOk_by (own := [("_law_a", 2), ("_law_b", 3)]) (N := ["_law_one", "_law_other", "_law_a", "_law_b"]) (sc := defScope s_law_equal) (by decide +kernel)) (fun _ _ _ _ _ => (pg_tup rfl (pgs_cons (pg_name (i := 2) sc_law_equal.nd rfl (.inl rfl)) (pgs_cons (pg_name (i := 3) sc_law_equal.nd rfl (.inl rfl)) pgs_nil)) : PG _ _ (gTup K 2 _))) (fun _ _ _ _ _ => pts_nil) (fun _ _ _ _ _ => (pe_callG G_law_equal gg (hr.mono (by first | decide | omega)) (by rfl) m_law_equal k_law_equal b_law_equal .nil pass0 (pa_cons (pv 2) (pa_cons (pv 3) pa_nil))))) pa_nil)))))) pss_nil)
      (pss_cons (ps_if (PW.pt (pw_or (pt_val (pe_callB (call_isi) (by rfl) bt.isinstance bb_isinstance (pa_cons (pv 0) (pa_cons (pe_bltn (v := .ty "bool") (by rfl) bt.bool bb_bool rfl) pa_nil)))) (pw_or1 (pt_val (pe_callB (call_isi) (by rfl) bt.isinstance bb_isinstance (pa_cons (pv 1) (pa_cons (pe_bltn (v := .ty "bool") (by rfl) bt.bool bb_bool rfl) pa_nil))))))) (pss_one (ps_ret (pe_and (pe_callB (call_isi) (by rfl) bt.isinstance bb_isinstance (pa_cons (pv 0) (pa_cons (pe_bltn (v := .ty "bool") (by rfl) bt.bool bb_bool rfl) pa_nil))) (pe_and (pe_callB (call_isi) (by rfl) bt.isinstance bb_isinstance (pa_cons (pv 1) (pa_cons (pe_bltn (v := .ty "bool") (by rfl) bt.bool bb_bool rfl) pa_nil))) (pe_one (pe_cmpR (op_eq) (pv 0) (pv 1) (nomark _))))))) pss_nil)
      (pss_cons (ps_if (pt_cmpR (op_ne) (pe_callB (call_isi) (by rfl) bt.isinstance bb_isinstance (pa_cons (pv 0) (pa_cons (pe_bltn (v := .ty "tuple") (by rfl) bt.tuple bb_tuple rfl) pa_nil))) (pe_callB (call_isi) (by rfl) bt.isinstance bb_isinstance (pa_cons (pv 1) (pa_cons (pe_bltn (v := .ty "tuple") (by rfl) bt.tuple bb_tuple rfl) pa_nil))) (nomark _)) (pss_one (ps_ret pe_bl)) pss_nil)
      (pss_cons (ps_if (pt_cmpR (op_ne) (pe_callB (call_isi) (by rfl) bt.isinstance bb_isinstance (pa_cons (pv 0) (pa_cons (pe_bltn (v := .ty "int") (by rfl) bt.int bb_int rfl) pa_nil))) (pe_callB (call_isi) (by rfl) bt.isinstance bb_isinstance (pa_cons (pv 1) (pa_cons (pe_bltn (v := .ty "int") (by rfl) bt.int bb_int rfl) pa_nil))) (nomark _)) (pss_one (ps_ret pe_bl)) pss_nil)
      (pss_one (ps_ret (pe_and (pe_cmpR (op_eq) (pe_callB (call_isi) (by rfl) bt.isinstance bb_isinstance (pa_cons (pv 0) (pa_cons (pe_bltn (v := .ty "str") (by rfl) bt.str bb_str rfl) pa_nil))) (pe_callB (call_isi) (by rfl) bt.isinstance bb_isinstance (pa_cons (pv 1) (pa_cons (pe_bltn (v := .ty "str") (by rfl) bt.str bb_str rfl) pa_nil))) (nomark _)) (pe_one (pe_cmpR (op_eq) (pv 0) (pv 1) (nomark _)))))))))), ?_⟩
  cases hx with
  | lst h1 h2 => exact absurd hd (by simp [okd])
  | tup h1 h2 =>
    rename_i a xs ds
    cases hy with
    | tup h3 h4 =>
    rename_i b ys
    have hd' : decide (ds.length ≤ 1000) = true ∧ ds.all (okd n) = true := by
      have : (decide (ds.length ≤ 1000) && ds.all (okd n)) = true := hd
      rwa [Bool.and_eq_true] at this
    have hlen : ds.length ≤ 1000 := of_decide_eq_true hd'.1
    have l1 := dps_len h2
    have l2 := dps_len h4
    refine ⟨_, rfl, _, _, _, _, true, rfl, .ty _, tyx_tup h1, kit_ty (by decide +kernel), _, rfl, iteT ⟨_, rfl, _, _, _, _, true, rfl, .ty _, tyx_tup h3, kit_ty (by decide +kernel), _, rfl, iteT ?_⟩⟩
    refine ⟨_, rfl, a, _, rfl, .inr h1, _, rfl, b, _, rfl, .inr h3, rfl, _, rfl, ?_⟩
    rw [show decide (V.int ((xs.length : Nat) : Int) = V.int ((ys.length : Nat) : Int)) = true from decide_eq_true (by rw [l1, l2])]
    refine iteT ⟨_, rfl, _, rfl, a, b, xs, ys, rfl, .inr ⟨h1, h3, fun Z nZ => ?_⟩⟩
    refine lc_it (walk_zipT (K := K) (a := a) (b := b) (xs := xs) (ys := ys) (by omega)) (fun i H' => i ≤ xs.length ∧ Same H H' ∧ ∃ bs : List Bool, bs.length = i ∧ (∀ b ∈ bs, b = true) ∧ H' Z = some (.lst (bs.map V.bl)))
      ⟨Nat.zero_le _, same_new nZ, [], rfl, fun b h => (by cases h), upd_same⟩ (fun i H' _ h => ⟨same_tup h.2.1 h1, same_tup h.2.1 h3⟩) (fun i x H' H2 hi h hy => ?_) (fun H' h => ?_)
    · obtain ⟨hi', sm, bs, hbl, hbt, hZ⟩ := h
      obtain ⟨T, u, v, rfl, fT, rfl, eu, ev⟩ := hy
      have ZT : Z ≠ T := ne_of_none hZ fT
      have sT := same_new (o := .tup [u, v]) fT
      refine ⟨T, _, rfl, SqT.of upd_same, rfl, _, _, rfl, _, _, rfl, rfl, rfl, ?_⟩
      have hdi : ds[i]? = some ds[i] := List.getElem?_eq_getElem (by omega)
      have hok : okd n ds[i] = true := List.all_eq_true.mp hd'.2 _ (List.getElem_mem _)
      have s2 := sm.trans sT
      refine ⟨_, rfl, _, rfl, u, v, ds[i], rfl, dp_same s2 (dps_get h2 eu hdi), dp_same s2 (dps_get h4 ev hdi), hok, fun H3 s3 => ?_⟩
      refine ⟨_, s3 _ _ ((upd_ne ZT).trans hZ), ?_, hi, ?_, bs ++ [true], ?_, ?_, ?_⟩
      · rw [List.length_map, hbl]
        exact small1000 (by omega)
      · exact fun c o e => (upd_ne (ne_of_none e nZ)).trans (s3 _ _ (s2 c o e))
      · rw [List.length_append, hbl]
        rfl
      · intro b hb
        rcases List.mem_append.mp hb with hb | hb
        · exact hbt b hb
        · simpa using hb
      · rw [List.map_append]
        exact upd_same
    · obtain ⟨_, sm, bs, _, hbt, hZ⟩ := h
      refine ⟨Z, bs, rfl, SqL.of hZ, ?_⟩
      rw [all_true hbt]
      exact q _ sm
  | non =>
    cases hy
    refine ⟨_, rfl, _, _, _, _, false, rfl, .ty _, (.base .non), kit_ty (by decide +kernel), _, rfl, iteF (iteF ?_)⟩
    refine ⟨_, rfl, _, _, _, _, false, rfl, .ty _, (.base .non), kit_ty (by decide +kernel), _, rfl, iteF ⟨_, rfl, _, _, _, _, false, rfl, .ty _, (.base .non), kit_ty (by decide +kernel), _, rfl, iteF ?_⟩⟩
    refine ⟨_, rfl, _, _, _, _, false, rfl, .ty _, (.base .non), kit_ty (by decide +kernel), _, rfl, _, _, _, _, false, rfl, .ty _, (.base .non), kit_ty (by decide +kernel), rfl, _, rfl, iteNS rfl ?_⟩
    refine ⟨_, rfl, _, _, _, _, false, rfl, .ty _, (.base .non), kit_ty (by decide +kernel), _, rfl, _, _, _, _, false, rfl, .ty _, (.base .non), kit_ty (by decide +kernel), rfl, _, rfl, iteNS rfl ?_⟩
    refine ⟨_, rfl, _, _, _, _, false, rfl, .ty _, (.base .non), kit_ty (by decide +kernel), _, rfl, _, _, _, _, false, rfl, .ty _, (.base .non), kit_ty (by decide +kernel), rfl, _, rfl, iteD rfl ⟨_, rfl, _, rfl, rfl, ?_⟩⟩
    exact q_dec rfl (q _ (Same.refl _))
  | bl b =>
    cases hy
    refine ⟨_, rfl, _, _, _, _, false, rfl, .ty _, (.base (.bl b)), kit_ty (by decide +kernel), _, rfl, iteF (iteF ?_)⟩
    refine ⟨_, rfl, _, _, _, _, true, rfl, .ty _, (.base (.bl b)), kit_ty (by decide +kernel), _, rfl, iteT (iteT ?_)⟩
    refine ⟨_, rfl, _, _, _, _, true, rfl, .ty _, (.base (.bl b)), kit_ty (by decide +kernel), _, rfl, iteT ⟨_, rfl, _, _, _, _, true, rfl, .ty _, (.base (.bl b)), kit_ty (by decide +kernel), _, rfl, iteT ⟨_, rfl, _, rfl, rfl, ?_⟩⟩⟩
    exact q_dec rfl (q _ (Same.refl _))
  | int i =>
    cases hy
    refine ⟨_, rfl, _, _, _, _, false, rfl, .ty _, (.base (.int i)), kit_ty (by decide +kernel), _, rfl, iteF (iteF ?_)⟩
    refine ⟨_, rfl, _, _, _, _, false, rfl, .ty _, (.base (.int i)), kit_ty (by decide +kernel), _, rfl, iteF ⟨_, rfl, _, _, _, _, false, rfl, .ty _, (.base (.int i)), kit_ty (by decide +kernel), _, rfl, iteF ?_⟩⟩
    refine ⟨_, rfl, _, _, _, _, false, rfl, .ty _, (.base (.int i)), kit_ty (by decide +kernel), _, rfl, _, _, _, _, false, rfl, .ty _, (.base (.int i)), kit_ty (by decide +kernel), rfl, _, rfl, iteNS rfl ?_⟩
    refine ⟨_, rfl, _, _, _, _, true, rfl, .ty _, (.base (.int i)), kit_ty (by decide +kernel), _, rfl, _, _, _, _, true, rfl, .ty _, (.base (.int i)), kit_ty (by decide +kernel), rfl, _, rfl, iteNS rfl ?_⟩
    refine ⟨_, rfl, _, _, _, _, false, rfl, .ty _, (.base (.int i)), kit_ty (by decide +kernel), _, rfl, _, _, _, _, false, rfl, .ty _, (.base (.int i)), kit_ty (by decide +kernel), rfl, _, rfl, iteD rfl ⟨_, rfl, _, rfl, rfl, ?_⟩⟩
    exact q_dec rfl (q _ (Same.refl _))
  | str z =>
    cases hy
    refine ⟨_, rfl, _, _, _, _, false, rfl, .ty _, (.base (.str z)), kit_ty (by decide +kernel), _, rfl, iteF (iteF ?_)⟩
    refine ⟨_, rfl, _, _, _, _, false, rfl, .ty _, (.base (.str z)), kit_ty (by decide +kernel), _, rfl, iteF ⟨_, rfl, _, _, _, _, false, rfl, .ty _, (.base (.str z)), kit_ty (by decide +kernel), _, rfl, iteF ?_⟩⟩
    refine ⟨_, rfl, _, _, _, _, false, rfl, .ty _, (.base (.str z)), kit_ty (by decide +kernel), _, rfl, _, _, _, _, false, rfl, .ty _, (.base (.str z)), kit_ty (by decide +kernel), rfl, _, rfl, iteNS rfl ?_⟩
    refine ⟨_, rfl, _, _, _, _, false, rfl, .ty _, (.base (.str z)), kit_ty (by decide +kernel), _, rfl, _, _, _, _, false, rfl, .ty _, (.base (.str z)), kit_ty (by decide +kernel), rfl, _, rfl, iteNS rfl ?_⟩
    refine ⟨_, rfl, _, _, _, _, true, rfl, .ty _, (.base (.str z)), kit_ty (by decide +kernel), _, rfl, _, _, _, _, true, rfl, .ty _, (.base (.str z)), kit_ty (by decide +kernel), rfl, _, rfl, iteD rfl ⟨_, rfl, _, rfl, rfl, ?_⟩⟩
    exact q_dec rfl (q _ (Same.refl _))
theorem ok_law_equal (bt : Bt mg) {f : Addr} {fd : FuncData} (F : Fun K "_law_equal" "_law_equal" s_law_equal f fd) (m : mg "_law_equal" = some (.ref f)) (b : Binds K fd ["_law_one", "_law_other"] []) :
    ∀ n, FnG P w K mg base CX0 n f fd ["_law_one", "_law_other"] (sp_law_equal K n)
  | 0 => by
    have no : ∀ vs H Q E, ¬ sp_law_equal K 0 vs H Q E := fun vs H Q E h => by
      obtain ⟨x, y, d, _, _, _, z, _⟩ := h
      cases z
    exact ⟨fun vs H Q E h => absurd h (no _ _ _ _), fun A _ o s H ar us vs Q E _ _ _ _ h => absurd h (no _ _ _ _)⟩
  | n + 1 => ok_law_equal_step bt F m b (ok_law_equal bt F m b n)
end
end Tr

namespace Tr
open PySem PySem.Spec PyProof.Rows L2
abbrev s_neighbours_of : Stmt := topS 1
theorem sc_neighbours_of : FnScope ["tree", "vertex", "neighbours", "one", "other", "delay"] ["tree", "vertex"] (defScope s_neighbours_of) := ⟨rfl, rfl, rfl, by decide +kernel, rfl, by decide +kernel, by decide +kernel⟩
/-- neighbours_of -/
def sp_neighbours_of : Sp := fun vs H Q _ => ∃ (t : Addr) (n : Nat) (es : List Ed) (v : Int), vs = [.ref t, .int v] ∧ TrAt H t n es ∧ es.length ≤ 31 ∧
  ∀ (H' : Hp) (p : Addr) (l : List Int), l.Perm (nbrs es v) → l.Pairwise (· ≤ ·) → H p = none → H' p = some (.tup (l.map V.int)) → Same H H' → Q (.ref p) H'
section
variable {P : Program} {w : World} {K : PySem.W.Frag} {mg : Str → Option Value} {base : Heap}
theorem ok_neighbours_of (bt : Bt mg) {f : Addr} {fd : FuncData} (F : Fun K "neighbours_of" "neighbours_of" s_neighbours_of f fd) : FnG P w K mg base CX0 1 f fd ["tree", "vertex"] sp_neighbours_of := by
  refine fnG F sc_neighbours_of (fun vs H Q E h => ?_) (fun cdv A outer s H vs Q E hr gg h => ?_)
  · obtain ⟨t, n, es, v, rfl, _⟩ := h
    rfl
  obtain ⟨t, n, es, v, rfl, ⟨q0, as, ht, hq, he⟩, hl, q⟩ := h
  refine ⟨_, (pss_cons (ps_set (i := 2) sc_neighbours_of.nd rfl (.inl rfl) (pe_lst pa_nil))
      (pss_cons (ps_for PassesOwn.never rfl (pi_tup (pe_ix ix_tup (pv 0) pe_int (fun _ _ => rfl))) (pg_tup rfl (pgs_cons (pg_name (i := 3) sc_neighbours_of.nd rfl (.inl rfl)) (pgs_cons (pg_name (i := 4) sc_neighbours_of.nd rfl (.inl rfl)) (pgs_cons (pg_name (i := 5) sc_neighbours_of.nd rfl (.inl rfl)) pgs_nil))))
        (pss_cons (ps_if (pt_cmpR (op_eq) (pv 3) (pv 1) (nomark _)) (pss_one (ps_expr (pe_bm PySem.F.plainAttrs_list PySem.F.slot_list_append PySem.F.type_list_append mt_append (pv 2) (pa_cons (pv 4) pa_nil)))) pss_nil)
      (pss_one (ps_if (pt_cmpR (op_eq) (pv 4) (pv 1) (nomark _)) (pss_one (ps_expr (pe_bm PySem.F.plainAttrs_list PySem.F.slot_list_append PySem.F.type_list_append mt_append (pv 2) (pa_cons (pv 3) pa_nil)))) pss_nil))))
      (pss_one (ps_ret (pe_callTy (call_tuple_of) (by rfl) bt.tuple bb_tuple (pa_cons (pe_callB (cr_sorted) (by rfl) bt.sorted bb_sorted (pa_cons (pv 2) pa_nil)) pa_nil)))))), ?_⟩
  refine ⟨Nat.zero_le _, fun o no => ?_⟩
  have s1 := same_new (o := .lst []) no
  have e1 : (upd H o (.lst [])) o = some (.lst []) := upd_same
  generalize upd H o (.lst []) = H1 at s1 e1 ⊢
  refine ⟨_, rfl, t, _, 1, .ref q0, rfl, rfl, SqT.of (s1 _ _ ht), atI_nat (j := 1) rfl, q0, rfl, ⟨_, SqT.of (s1 _ _ hq)⟩, ?_⟩
  have hla := he.length
  refine for_tup (K := K) (a := q0) (xs := as.map V.ref) (fun i σ H' => i ≤ es.length ∧ ∃ y3 y4 y5, σ = [some (.ref t), some (.int v), some (.ref o), y3, y4, y5] ∧ Same H H' ∧ H' o = some (.lst ((nbrs (es.take i) v).map V.int)))
    ⟨Nat.zero_le _, none, none, none, rfl, s1, e1⟩ (fun i σ H' _ h => ?_) (fun i x σ H' hx h => ?_) (fun σ H' h => ?_)
  · obtain ⟨_, _, _, _, _, sm, _⟩ := h
    exact SqT.of (sm _ _ hq)
  · obtain ⟨hi, y3, y4, y5, rfl, sm, hO⟩ := h
    rw [List.getElem?_map] at hx
    obtain ⟨a, ha, rfl⟩ := Option.map_eq_some_iff.mp hx
    obtain ⟨e, hee, hae⟩ := he.get' ha
    have hlt : i < es.length := (List.getElem?_eq_some_iff.mp hee).1
    have bound : (nbrs (es.take i) v).length ≤ 2 * i := by
      unfold nbrs
      rw [List.length_flatMap]
      have : ((es.take i).map fun e => (nbE v e).length).sum ≤ 2 * (es.take i).length := sum_le2 fun e => nbE_len v e
      rw [List.length_take] at this
      exact Nat.le_trans this (by omega)
    have nx : nbrs (es.take (i + 1)) v = nbrs (es.take i) v ++ nbE v e := by
      unfold nbrs
      rw [List.take_add_one, hee, List.flatMap_append]
      simp
    have go : ∀ (H2 : Hp) (l : List Int), Same H H2 → H2 o = some (.lst ((nbrs (es.take i) v ++ l).map V.int)) → l = nbE v e → i + 1 ≤ es.length ∧ ∃ z3 z4 z5, [some (V.ref t), some (V.int v), some (V.ref o), some (V.int e.1), some (V.int e.2.1), some (V.int e.2.2)] = [some (V.ref t), some (V.int v), some (V.ref o), z3, z4, z5] ∧ Same H H2 ∧ H2 o = some (.lst ((nbrs (es.take (i + 1)) v).map V.int)) :=
      fun H2 l s2 h2 el => ⟨hlt, _, _, _, rfl, s2, by rw [nx, ← el]; exact h2⟩
    have wr : ∀ (H2 : Hp) (u : HO), Same H H2 → Same H (upd H2 o u) := fun H2 u s2 b x eb => (upd_ne (ne_of_none eb no)).trans (s2 b x eb)
    refine ⟨a, _, rfl, SqT.of (sm _ _ hae), rfl, _, _, rfl, _, _, rfl, _, _, rfl, rfl, ?_⟩
    refine ⟨_, rfl, _, rfl, rfl, _, rfl, ite2 (fun c => ?_) (fun c => ?_)⟩
    · have c1 : e.1 = v := V.int.inj (of_decide_eq_true c)
      refine ⟨_, rfl, .inl ⟨rfl, _, SqL.of hO⟩, _, rfl, o, _, _, rfl, rfl, hO, ?_, ?_⟩
      · rw [List.length_map]
        exact small1000 (by omega)
      refine ⟨_, rfl, _, rfl, rfl, _, rfl, ite2 (fun c' => ?_) (fun c' => ?_)⟩
      · have c2 : e.2.1 = v := V.int.inj (of_decide_eq_true c')
        refine ⟨_, rfl, .inl ⟨rfl, _, SqL.of upd_same⟩, _, rfl, o, _, _, rfl, rfl, upd_same, ?_, ?_⟩
        · rw [List.length_append, List.length_map]
          exact small1000 (by show _ + 1 ≤ 1000; omega)
        refine go _ [e.2.1, e.1] (wr _ _ (wr _ _ sm)) ?_ ?_
        · rw [upd_same, List.map_append, List.append_assoc]
          rfl
        · unfold nbE
          rw [if_pos c1, if_pos c2]
          rfl
      · have c2 : ¬ e.2.1 = v := fun z => c' (decide_eq_true (congrArg V.int z))
        refine go _ [e.2.1] (wr _ _ sm) ?_ ?_
        · rw [upd_same, List.map_append]
          rfl
        · unfold nbE
          rw [if_pos c1, if_neg c2]
          rfl
    · have c1 : ¬ e.1 = v := fun z => c (decide_eq_true (congrArg V.int z))
      refine ⟨_, rfl, _, rfl, rfl, _, rfl, ite2 (fun c' => ?_) (fun c' => ?_)⟩
      · have c2 : e.2.1 = v := V.int.inj (of_decide_eq_true c')
        refine ⟨_, rfl, .inl ⟨rfl, _, SqL.of hO⟩, _, rfl, o, _, _, rfl, rfl, hO, ?_, ?_⟩
        · rw [List.length_map]
          exact small1000 (by omega)
        refine go _ [e.1] (wr _ _ sm) ?_ ?_
        · rw [upd_same, List.map_append]
          rfl
        · unfold nbE
          rw [if_neg c1, if_pos c2]
          rfl
      · have c2 : ¬ e.2.1 = v := fun z => c' (decide_eq_true (congrArg V.int z))
        refine go _ [] sm ?_ ?_
        · rw [List.append_nil]
          exact hO
        · unfold nbE
          rw [if_neg c1, if_neg c2]
          rfl
  · obtain ⟨_, y3, y4, y5, rfl, sm, hO⟩ := h
    rw [List.length_map, hla, List.take_length] at hO
    have bound : (nbrs es v).length ≤ 2 * es.length := by
      unfold nbrs
      rw [List.length_flatMap]
      exact sum_le2 fun e => nbE_len v e
    refine ⟨_, rfl, o, _, rfl, SqL.of hO, by omega, fun l p pm so hp => ?_⟩
    refine ⟨p, _, rfl, .inl ⟨SqL.of upd_same, fun z hz => ?_⟩⟩
    have s2 := same_new (o := .lst (l.map V.int)) hp
    have s3 := same_new (o := .tup (l.map V.int)) hz
    refine q _ z l pm so ?_ upd_same ((sm.trans s2).trans s3)
    exact (sm.trans s2).free hz
end
end Tr

namespace Tr
open PySem PySem.Spec PyProof.Rows L2
abbrev s_branch_of : Stmt := topS 2
theorem sc_branch_of : FnScope ["tree", "vertex", "away", "branch", "neighbour"] ["tree", "vertex", "away"] (defScope s_branch_of) := ⟨rfl, rfl, rfl, by decide +kernel, rfl, by decide +kernel, by decide +kernel⟩
/-- the branch has at most k vertices -/
def Sz (es : List Ed) (v a : Int) (k : Nat) : Prop := ∀ l : List Int, l.Nodup → (∀ u ∈ l, InC es v a u) → l.length ≤ k
theorem Sz.sub {n : Nat} {es : List Ed} (W : Wood n es) {v a w : Int} {k : Nat} (s : Sz es v a (k + 1)) (ha : Adj es v a) (hw : Adj es v w) (hne : w ≠ a) : Sz es w v k := by
  intro l nd h
  have := s (v :: l) (List.nodup_cons.mpr ⟨fun hv => W.notIn hw (h v hv), nd⟩) fun u hu => by
    rcases List.mem_cons.mp hu with e | hu
    · exact (W.inC ha).mpr (.inl e)
    · exact (W.inC ha).mpr (.inr ⟨w, hw, hne, h u hu⟩)
  rw [List.length_cons] at this
  omega
theorem Sz.mono {es : List Ed} {v a : Int} {j k : Nat} (s : Sz es v a j) (h : j ≤ k) : Sz es v a k := fun l nd q => Nat.le_trans (s l nd q) h
theorem Sz.top {n : Nat} {es : List Ed} (W : Wood n es) {v a : Int} (hv : 0 ≤ v ∧ v < (n : Int)) : Sz es v a n := by
  intro l nd h
  have sub : l ⊆ rI n := fun u hu => mem_rI.mpr (W.range hv (h u hu))
  have := nodup_le nd sub
  rwa [rI_len] at this
theorem strict_of {l : List Int} (h : l.Pairwise (· ≤ ·)) (nd : l.Nodup) : l.Pairwise (· < ·) := by
  refine (List.pairwise_and_iff.mpr ⟨h, nd⟩).imp ?_
  rintro a b ⟨h1, h2⟩
  have : a ≠ b := h2
  omega
/-- branch_of -/
def sp_branch_of (n : Nat) : Sp := fun vs H Q _ => ∃ (t : Addr) (N : Nat) (es : List Ed) (v a : Int), vs = [.ref t, .int v, .int a] ∧ TrAt H t N es ∧ es.length ≤ 31 ∧ Wood N es ∧ Adj es v a ∧ Sz es v a n ∧ n ≤ 40 ∧
  ∀ (H' : Hp) (p : Addr) (l : List Int), l.Pairwise (· < ·) → (∀ u, u ∈ l ↔ InC es v a u) → H p = none → H' p = some (.tup (l.map V.int)) → Same H H' → Q (.ref p) H'
section
variable {P : Program} {w : World} {K : PySem.W.Frag} {mg : Str → Option Value} {base : Heap}
theorem ok_branch_step (bt : Bt mg) {n : Nat} (c_neighbours_of : Cal P w K mg base "neighbours_of" ["tree", "vertex"] 1 sp_neighbours_of) {f : Addr} {fd : FuncData} (F : Fun K "branch_of" "branch_of" s_branch_of f fd) (m_branch_of : mg "branch_of" = some (.ref f)) (b_branch_of : Binds K fd ["tree", "vertex", "away"] [])
    (G_branch_of : FnG P w K mg base CX0 (n + 1) f fd ["tree", "vertex", "away"] (sp_branch_of n)) : FnG P w K mg base CX0 (n + 1 + 1) f fd ["tree", "vertex", "away"] (sp_branch_of (n + 1)) := by
  obtain ⟨f_neighbours_of, fd_neighbours_of, G_neighbours_of, m_neighbours_of, k_neighbours_of, b_neighbours_of⟩ := c_neighbours_of
  have k_branch_of := F.kp
  refine fnG F sc_branch_of (fun vs H Q E h => ?_) (fun cdv A outer s H vs Q E hr gg h => ?_)
  · obtain ⟨t, N, es, v, a, rfl, _⟩ := h
    rfl
  obtain ⟨t, N, es, v, a, rfl, tr, hl, W, ad, sz, hn, q⟩ := h
  refine ⟨_, (pss_cons (ps_set (i := 3) sc_branch_of.nd rfl (.inl rfl) (pe_lst (pa_cons (pv 1) pa_nil)))
      (pss_cons (ps_for PassesOwn.never rfl (pi_tup (pe_callG G_neighbours_of gg (hr.mono (by first | decide | omega)) (by rfl) m_neighbours_of k_neighbours_of b_neighbours_of .nil pass0 (pa_cons (pv 0) (pa_cons (pv 1) pa_nil)))) (pg_name (i := 4) sc_branch_of.nd rfl (.inl rfl))
        (pss_one (ps_if (pt_cmpR (op_ne) (pv 4) (pv 2) (nomark _)) (pss_one (ps_expr (pe_bm PySem.F.plainAttrs_list PySem.F.slot_list_extend PySem.F.type_list_extend mt_extT (pv 3) (pa_cons (pe_callG G_branch_of gg (hr.mono (by first | decide | omega)) (by rfl) m_branch_of k_branch_of b_branch_of .nil pass0 (pa_cons (pv 0) (pa_cons (pv 4) (pa_cons (pv 1) pa_nil)))) pa_nil)))) pss_nil)))
      (pss_one (ps_ret (pe_callTy (call_tuple_of) (by rfl) bt.tuple bb_tuple (pa_cons (pe_callB (cr_sorted) (by rfl) bt.sorted bb_sorted (pa_cons (pv 3) pa_nil)) pa_nil)))))), ?_⟩
  refine ⟨_, rfl, (by show 1 ≤ sizeLine; decide), fun o no => ?_⟩
  have s1 := same_new (o := .lst [.int v]) no
  have e1 : (upd H o (.lst [.int v])) o = some (.lst [.int v]) := upd_same
  generalize upd H o (.lst [.int v]) = H1 at s1 e1 ⊢
  refine ⟨_, rfl, _, rfl, t, N, es, v, rfl, tr.same s1, hl, fun H2 p nb pm so fr at2 s2 => ?_⟩
  refine ⟨p, rfl, ⟨_, SqT.of at2⟩, ?_⟩
  have s12 := s1.trans s2
  have nbm : ∀ w, w ∈ nb ↔ Adj es v w := fun w => pm.mem_iff.trans mem_nbrs
  have nbd : nb.Nodup := pm.nodup_iff.mpr (W.nd v)
  refine for_tup (K := K) (a := p) (xs := nb.map V.int) (fun i σ H' => ∃ y4, σ = [some (.ref t), some (.int v), some (.int a), some (.ref o), y4] ∧ Same H H' ∧ H' p = some (.tup (nb.map V.int)) ∧
      ∃ acc : List Int, H' o = some (.lst (acc.map V.int)) ∧ acc.Nodup ∧ ∀ u, u ∈ acc ↔ u = v ∨ ∃ w ∈ nb.take i, w ≠ a ∧ InC es w v u)
    ⟨none, rfl, s12, at2, [v], s2 _ _ e1, by simp, fun u => by simp⟩ (fun i σ H' _ h => ?_) (fun i x σ H' hx h => ?_) (fun σ H' h => ?_)
  · obtain ⟨_, _, _, hp, _⟩ := h
    exact SqT.of hp
  · obtain ⟨y4, rfl, sm, hp, acc, ho, nd, mem⟩ := h
    rw [List.getElem?_map] at hx
    obtain ⟨w0, hw0, rfl⟩ := Option.map_eq_some_iff.mp hx
    have hw : Adj es v w0 := (nbm w0).mp (List.mem_of_getElem? hw0)
    have tk : nb.take (i + 1) = nb.take i ++ [w0] := by
      rw [List.take_add_one, hw0]
      rfl
    have accIn : ∀ u ∈ acc, InC es v a u := fun u hu => by
      rcases (mem u).mp hu with e | ⟨w1, h1, h2, h3⟩
      · exact (W.inC ad).mpr (.inl e)
      · exact (W.inC ad).mpr (.inr ⟨w1, (nbm w1).mp (List.mem_of_mem_take h1), h2, h3⟩)
    have accLen := sz acc nd accIn
    refine ⟨_, rfl, _, rfl, rfl, _, rfl, ite2 (fun c => ?_) (fun c => ?_)⟩
    · have hne : w0 ≠ a := fun z => by
        have : decide (V.int w0 = V.int a) = true := decide_eq_true (congrArg V.int z)
        rw [this] at c
        cases c
      refine ⟨_, rfl, .inl ⟨rfl, _, SqL.of ho⟩, _, rfl, _, rfl, _, rfl, t, N, es, w0, v, rfl, tr.same sm, hl, W, hw.symm, sz.sub W ad hw hne, by omega, fun H3 p3 l3 so3 mem3 fr3 at3 s3 => ?_⟩
      have l3len : l3.length ≤ n := sz.sub W ad hw hne l3 (so3.imp fun h => by omega) fun u hu => (mem3 u).mp hu
      refine ⟨o, p3, _, _, rfl, rfl, s3 _ _ ho, at3, ?_, ?_⟩
      · rw [List.length_map, List.length_map]
        exact Nat.le_of_lt (small1000 (by omega))
      refine ⟨_, rfl, fun b u eb => ?_, ?_, acc ++ l3, ?_, ?_, fun u => ?_⟩
      · exact (upd_ne (ne_of_none eb no)).trans (s3 _ _ (sm b u eb))
      · exact (upd_ne (fun z => by rw [z, ho] at hp; cases hp)).trans (s3 _ _ hp)
      · rw [List.map_append]
        exact upd_same
      · refine List.nodup_append.mpr ⟨nd, so3.imp fun h => by omega, ?_⟩
        intro x hx y hy e
        subst e
        have iny := (mem3 x).mp hy
        rcases (mem x).mp hx with e | ⟨w1, h1, h2, h3⟩
        · rw [e] at iny
          exact W.notIn hw iny
        · have h1' := (nbm w1).mp (List.mem_of_mem_take h1)
          have ne01 : w1 ≠ w0 := fun e => by
            rw [e] at h1
            obtain ⟨j, hj, ej⟩ := List.mem_take_iff_getElem.mp h1
            have hj2 : nb[j]? = some w0 := by
              rw [← ej]
              exact List.getElem?_eq_getElem (by omega)
            have := nd_ix nbd hj2 hw0
            omega
          exact W.apart h1' hw ne01 h3 iny
      · rw [List.mem_append, mem u, mem3 u, tk]
        constructor
        · rintro ((e | ⟨w1, h1, h2, h3⟩) | h)
          · exact .inl e
          · exact .inr ⟨w1, List.mem_append_left _ h1, h2, h3⟩
          · exact .inr ⟨w0, by simp, hne, h⟩
        · rintro (e | ⟨w1, h1, h2, h3⟩)
          · exact .inl (.inl e)
          · rcases List.mem_append.mp h1 with h1 | h1
            · exact .inl (.inr ⟨w1, h1, h2, h3⟩)
            · have : w1 = w0 := by simpa using h1
              exact .inr (this ▸ h3)
    · have heq : w0 = a := by
        cases e : decide (V.int w0 = V.int a) with
        | true => exact V.int.inj (of_decide_eq_true e)
        | false => rw [e] at c; exact absurd rfl c
      refine ⟨_, rfl, sm, hp, acc, ho, nd, fun u => ?_⟩
      rw [mem u, tk]
      constructor
      · rintro (e | ⟨w1, h1, h2, h3⟩)
        · exact .inl e
        · exact .inr ⟨w1, List.mem_append_left _ h1, h2, h3⟩
      · rintro (e | ⟨w1, h1, h2, h3⟩)
        · exact .inl e
        · rcases List.mem_append.mp h1 with h1 | h1
          · exact .inr ⟨w1, h1, h2, h3⟩
          · have : w1 = w0 := by simpa using h1
            exact absurd (this.trans heq) h2
  · obtain ⟨y4, rfl, sm, hp, acc, ho, nd, mem⟩ := h
    rw [List.length_map, List.take_length] at mem
    have memIn : ∀ u, u ∈ acc ↔ InC es v a u := fun u => by
      rw [mem u, W.inC ad]
      exact or_congr_right ⟨fun ⟨w1, h1, h2⟩ => ⟨w1, (nbm w1).mp h1, h2⟩, fun ⟨w1, h1, h2⟩ => ⟨w1, (nbm w1).mpr h1, h2⟩⟩
    have accLen := sz acc nd fun u hu => (memIn u).mp hu
    refine ⟨_, rfl, o, acc, rfl, SqL.of ho, by omega, fun l z pl sl hz => ?_⟩
    refine ⟨z, _, rfl, .inl ⟨SqL.of upd_same, fun y hy => ?_⟩⟩
    have s3 := same_new (o := .lst (l.map V.int)) hz
    have s4 := same_new (o := .tup (l.map V.int)) hy
    exact q _ y l (strict_of sl (pl.nodup_iff.mpr nd)) (fun u => pl.mem_iff.trans (memIn u)) ((sm.trans s3).free hy) upd_same ((sm.trans s3).trans s4)
theorem ok_branch_of (bt : Bt mg) (c_neighbours_of : Cal P w K mg base "neighbours_of" ["tree", "vertex"] 1 sp_neighbours_of) {f : Addr} {fd : FuncData} (F : Fun K "branch_of" "branch_of" s_branch_of f fd) (m : mg "branch_of" = some (.ref f)) (b : Binds K fd ["tree", "vertex", "away"] []) :
    ∀ n, FnG P w K mg base CX0 (n + 1) f fd ["tree", "vertex", "away"] (sp_branch_of n)
  | 0 => by
    have no : ∀ vs H Q E, ¬ sp_branch_of 0 vs H Q E := fun vs H Q E h => by
      obtain ⟨t, N, es, v, a, _, _, _, W, ad, sz, _⟩ := h
      have := sz [v] (by simp) fun u hu => (W.inC ad).mpr (.inl (by simpa using hu))
      simp at this
    exact ⟨fun vs H Q E h => absurd h (no _ _ _ _), fun A _ o s H ar us vs Q E _ _ _ _ h => absurd h (no _ _ _ _)⟩
  | n + 1 => ok_branch_step bt c_neighbours_of F m b (ok_branch_of bt c_neighbours_of F m b n)
end
end Tr

namespace Tr
open PySem PySem.Spec PyProof.Rows L2
abbrev s_law_side : Stmt := topS 13
theorem sc_law_side : FnScope ["_law_tree_here", "_law_vertex", "_law_away", "_law_pair", "_law_labels", "_law_one", "_law_other", "_law_delay_here", "_law_gone", "_law_label", "_law_k"] ["_law_tree_here", "_law_vertex", "_law_away"] (defScope s_law_side) := ⟨rfl, rfl, rfl, by decide +kernel, rfl, by decide +kernel, by decide +kernel⟩
/-- _law_side -/
def sp_law_side : Sp := fun vs H Q _ => ∃ (t : Addr) (n : Nat) (es : List Ed) (v a : Int), vs = [.ref t, .int v, .int a] ∧ TrAt H t n es ∧ es.length ≤ 31 ∧ n ≤ 31 ∧ (∀ e ∈ es, 0 ≤ e.1 ∧ e.1 < e.2.1 ∧ e.2.1 < (n : Int)) ∧ 0 ≤ v ∧ v < (n : Int) ∧
  ∀ (H' : Hp) (p : Addr) (l : List Int), l.Pairwise (· < ·) → (∀ u, u ∈ l ↔ 0 ≤ u ∧ u < (n : Int) ∧ InC es v a u) → H p = none → H' p = some (.tup (l.map V.int)) → Same H H' → Q (.ref p) H'
theorem pair_is {e : Ed} {v a : Int} (h : e.1 < e.2.1) : (e.1 = mnI v a ∧ e.2.1 = mxI v a) ↔ ((e.1 = v ∧ e.2.1 = a) ∨ (e.1 = a ∧ e.2.1 = v)) := by
  unfold mnI mxI
  by_cases c : a < v
  · rw [if_pos c, if_neg (by omega)]
    omega
  · by_cases c2 : a > v
    · rw [if_neg c, if_pos c2]
      omega
    · rw [if_neg c, if_neg c2]
      omega
theorem eqv2 (a b c d : Int) : PyData.eqv (.tuple [.int a, .int b]) (.tuple [.int c, .int d]) = decide (a = c ∧ b = d) := by
  show ((a == c) && ((b == d) && true)) = _
  by_cases h : a = c <;> by_cases g : b = d <;> simp [h, g]
theorem cut_take {es : List Ed} {v a : Int} {i : Nat} {e : Ed} (h : es[i]? = some e) : cutE (es.take (i + 1)) v a = cutE (es.take i) v a ++ (if isE v a e = true then [] else [e]) := by
  rw [List.take_add_one, h, cut_append]
  congr 1
  by_cases c : isE v a e = true
  · rw [if_pos c]
    exact List.filter_cons_of_neg (by simp [c])
  · rw [if_neg c]
    exact List.filter_cons_of_pos (by simpa using c)
section
variable {P : Program} {w : World} {K : PySem.W.Frag} {mg : Str → Option Value} {base : Heap}
theorem ok_law_side (bt : Bt mg) {f : Addr} {fd : FuncData} (F : Fun K "_law_side" "_law_side" s_law_side f fd) : FnG P w K mg base CX0 1 f fd ["_law_tree_here", "_law_vertex", "_law_away"] sp_law_side := by
  refine fnG F sc_law_side (fun vs H Q E h => ?_) (fun cdv A outer s H vs Q E hr gg h => ?_)
  · obtain ⟨t, n, es, v, a, rfl, _⟩ := h
    rfl
  obtain ⟨t, n, es, v, a, rfl, ⟨q0, as, ht, hq, he⟩, hl, hn, hin, v0, v1, q⟩ := h
  refine ⟨_, (pss_cons (ps_set (i := 3) sc_law_side.nd rfl (.inl rfl) (pe_tup (pa_cons (pe_callB (call_min2 rfl) (by rfl) bt.min bb_min (pa_cons (pv 1) (pa_cons (pv 2) pa_nil))) (pa_cons (pe_callB (call_max2 rfl) (by rfl) bt.max bb_max (pa_cons (pv 1) (pa_cons (pv 2) pa_nil))) pa_nil))))
      (pss_cons (ps_set (i := 4) sc_law_side.nd rfl (.inr rfl) (pe_listRg rfl (by rfl) bt.list (prg_1 (by rfl) bt.range (pe_ix ix_tup (pv 0) pe_int (fun _ _ => rfl)))))
      (pss_cons (ps_for PassesOwn.never rfl (pi_tup (pe_ix ix_tup (pv 0) pe_int (fun _ _ => rfl))) (pg_tup rfl (pgs_cons (pg_name (i := 5) sc_law_side.nd rfl (.inr rfl)) (pgs_cons (pg_name (i := 6) sc_law_side.nd rfl (.inl rfl)) (pgs_cons (pg_name (i := 7) sc_law_side.nd rfl (.inl rfl)) pgs_nil))))
        (pss_one (ps_if (pt_cmpR (op_neD hr.units) (pe_tup (pa_cons (pv 5) (pa_cons (pv 6) pa_nil))) (pv 3) (nomark _)) (pss_cons (ps_set (i := 8) sc_law_side.nd rfl (.inr rfl) (pe_ix ix_list (pv 4) (pv 6) (fun _ _ => rfl)))
      (pss_one (ps_set (i := 4) sc_law_side.nd rfl (.inr rfl) (pe_lc (own := [("_law_label", 9)]) (tt := tYes) rfl sc_law_side.nd (pi_list (pv 4)) (blkOk_by (own := [("_law_label", 9)]) (N := ["_law_tree_here", "_law_vertex", "_law_away", "_law_pair", "_law_labels", "_law_one", "_law_other", "_law_delay_here", "_law_gone", "_law_label", "_law_k"]) (sc := defScope s_law_side) (by decide +kernel)) (fun _ _ _ _ _ => (pg_name (i := 9) sc_law_side.nd rfl (.inl rfl))) (fun _ _ _ _ _ => pts_nil) (fun _ _ _ _ _ => (pe_ifExp (pt_cmpR (op_eq) (pv 9) (pv 8) (nomark _)) (pe_ix (ix_list : IxR _ (rIxL K)) (pv 4) (pv 5) (fun _ _ => rfl)) (pv 9))))))) pss_nil)))
      (pss_one (ps_ret (pe_callTy (call_tuple_of) (by rfl) bt.tuple bb_tuple (pa_cons (pe_lc (own := [("_law_k", 10)]) rfl sc_law_side.nd (pi_range1 (by rfl) bt.range (pa_cons (pe_ix ix_tup (pv 0) pe_int (fun _ _ => rfl)) pa_nil)) (blkOk_by (own := [("_law_k", 10)]) (N := ["_law_tree_here", "_law_vertex", "_law_away", "_law_pair", "_law_labels", "_law_one", "_law_other", "_law_delay_here", "_law_gone", "_law_label", "_law_k"]) (sc := defScope s_law_side) (by decide +kernel)) (fun _ _ _ _ _ => (pg_name (i := 10) sc_law_side.nd rfl (.inl rfl))) (fun _ _ _ _ _ => (pts_one (pt_cmpR (op_eq) (pe_ix (ix_list : IxR _ (rIxL K)) (pv 4) (pv 10) (fun _ _ => rfl)) (pe_ix (ix_list : IxR _ (rIxL K)) (pv 4) (pv 1) (fun _ _ => rfl)) (nomark _)))) (fun _ _ _ _ _ => (pv 10))) pa_nil))))))), ?_⟩
  have hla := he.length
  -- the pair, the labels
  refine ⟨_, rfl, _, rfl, _, _, rfl, _, rfl, _, rfl, _, _, rfl, (by show 2 ≤ sizeLine; decide), fun pp hpp => ?_⟩
  have s1 := same_new (o := .tup [.int (mnI v a), .int (mxI v a)]) hpp
  have atp : (upd H pp (.tup [.int (mnI v a), .int (mxI v a)])) pp = some (.tup [.int (mnI v a), .int (mxI v a)]) := upd_same
  refine ⟨_, rfl, t, _, 0, .int n, rfl, rfl, SqT.of (s1 _ _ ht), atI_nat (j := 0) rfl, _, rfl, RgOk.of_le (by decide) (by omega) (by decide) (by omega), fun o no => ?_⟩
  rw [rgV_rI] at *
  have s2 := same_new (o := .lst ((rI n).map V.int)) no
  have s12 := s1.trans s2
  have atp2 := s2 _ _ atp
  refine ⟨_, rfl, t, _, 1, .ref q0, rfl, rfl, SqT.of (s12 _ _ ht), atI_nat (j := 1) rfl, q0, rfl, ⟨_, SqT.of (s12 _ _ hq)⟩, ?_⟩
  refine for_tup (K := K) (a := q0) (xs := as.map V.ref) (fun i σ H' => i ≤ es.length ∧ ∃ o L y5 y6 y7 y8, σ = [some (.ref t), some (.int v), some (.int a), some (.ref pp), some (.ref o), y5, y6, y7, y8, none, none] ∧ Same H H' ∧ H' pp = some (.tup [.int (mnI v a), .int (mxI v a)]) ∧
      H' o = some (.lst (L.map V.int)) ∧ Lab L n (cutE (es.take i) v a))
    ⟨Nat.zero_le _, o, rI n, none, none, none, none, rfl, s12, atp2, upd_same, Lab.start n⟩ (fun i σ H' _ h => ?_) (fun i x σ H' hx h => ?_) (fun σ H' h => ?_)
  · obtain ⟨_, _, _, _, _, _, _, _, sm, _⟩ := h
    exact SqT.of (sm _ _ hq)
  · obtain ⟨hi, o, L, y5, y6, y7, y8, rfl, sm, hp, ho, lab⟩ := h
    rw [List.getElem?_map] at hx
    obtain ⟨b, hb, rfl⟩ := Option.map_eq_some_iff.mp hx
    obtain ⟨e, hee, hbe⟩ := he.get' hb
    have hlt : i < es.length := (List.getElem?_eq_some_iff.mp hee).1
    obtain ⟨e0, e1, e2⟩ := hin e (List.mem_of_getElem? hee)
    refine ⟨b, _, rfl, SqT.of (sm _ _ hbe), rfl, _, _, rfl, _, _, rfl, _, _, rfl, rfl, ?_⟩
    refine ⟨_, rfl, _, rfl, (by show 2 ≤ sizeLine; decide), fun p1 hp1 => ?_⟩
    have s3 := same_new (o := .tup [.int e.1, .int e.2.1]) hp1
    have sm3 := sm.trans s3
    have at1 : (upd H' p1 (.tup [.int e.1, .int e.2.1])) p1 = some (.tup [.int e.1, .int e.2.1]) := upd_same
    have hp3 := s3 _ _ hp
    have ho3 := s3 _ _ ho
    generalize upd H' p1 (.tup [.int e.1, .int e.2.1]) = H3 at s3 sm3 at1 hp3 ho3 ⊢
    refine ⟨_, rfl, .tuple [.int e.1, .int e.2.1], .tuple [.int (mnI v a), .int (mxI v a)], .tup (SqT.of at1) (.cons (.int _) (.cons (.int _) .nil)), .tup (SqT.of hp3) (.cons (.int _) (.cons (.int _) .nil)), rfl, rfl, _, rfl, ?_⟩
    rw [eqv2]
    refine ite2 (fun c => ?_) (fun c => ?_)
    · have nis : ¬ isE v a e = true := fun z => by
        have : decide (e.1 = mnI v a ∧ e.2.1 = mxI v a) = true := decide_eq_true ((pair_is e1).mpr (of_decide_eq_true z))
        rw [this] at c
        cases c
      have hL := lab.len
      refine ⟨_, rfl, _, rfl, o, _, _, _, rfl, rfl, SqL.of ho3, getI_at (by omega) (by omega), ?_⟩
      refine ⟨_, rfl, o, rfl, ⟨_, SqL.of ho3⟩, fun Z nZ => ?_⟩
      refine lc_list (K := K) (a := o) (xs := L.map V.int) (fun j H4 => Same H3 H4 ∧ H4 Z = some (.lst (((L.take j).map fun l => if l = getI L e.2.1 then getI L e.1 else l).map V.int)))
        ⟨same_new nZ, upd_same⟩ (fun j H4 _ h => SqL.of (h.1 _ _ ho3)) (fun j x H4 hx h => ?_) (fun H4 h => ?_)
      · obtain ⟨s4, hZ⟩ := h
        rw [List.getElem?_map] at hx
        obtain ⟨l, hlj, rfl⟩ := Option.map_eq_some_iff.mp hx
        have hlen : j < L.length := (List.getElem?_eq_some_iff.mp hlj).1
        have tk : (L.take (j + 1)).map (fun l => if l = getI L e.2.1 then getI L e.1 else l) = (L.take j).map (fun l => if l = getI L e.2.1 then getI L e.1 else l) ++ [if l = getI L e.2.1 then getI L e.1 else l] := by
          rw [List.take_add_one, hlj, List.map_append]
          rfl
        have small : (((L.take j).map fun l => if l = getI L e.2.1 then getI L e.1 else l).map V.int).length < sizeLine := by
          rw [List.length_map, List.length_map, List.length_take]
          exact small1000 (by omega)
        have kept : ∀ (y : V), Same H3 (upd H4 Z (.lst ((((L.take j).map fun l => if l = getI L e.2.1 then getI L e.1 else l).map V.int) ++ [y]))) := fun y b u eb => (upd_ne (ne_of_none eb nZ)).trans (s4 b u eb)
        refine ⟨rfl, _, rfl, _, rfl, rfl, _, rfl, ite2 (fun c => ?_) (fun c => ?_)⟩
        · have c' : l = getI L e.2.1 := V.int.inj (of_decide_eq_true c)
          refine ⟨_, rfl, _, rfl, o, _, _, _, rfl, rfl, SqL.of (s4 _ _ ho3), getI_at (by omega) (by omega), _, hZ, small, kept _, ?_⟩
          rw [tk, if_pos c', List.map_append (l₁ := List.map _ _)]
          exact upd_same
        · have c' : ¬ l = getI L e.2.1 := fun z => c (decide_eq_true (congrArg V.int z))
          refine ⟨_, rfl, _, hZ, small, kept _, ?_⟩
          rw [tk, if_neg c', List.map_append (l₁ := List.map _ _)]
          exact upd_same
      · obtain ⟨s4, hZ⟩ := h
        rw [List.length_map, List.take_length] at hZ
        refine ⟨hlt, Z, relab L e.1 e.2.1, _, _, _, _, rfl, sm3.trans s4, s4 _ _ hp3, hZ, ?_⟩
        rw [cut_take hee, if_neg nis]
        exact lab.next ⟨e0, by omega⟩ ⟨by omega, e2⟩
    · have is : isE v a e = true := by
        cases z : decide (e.1 = mnI v a ∧ e.2.1 = mxI v a) with
        | true => exact decide_eq_true ((pair_is e1).mp (of_decide_eq_true z))
        | false => rw [z] at c; exact absurd rfl c
      refine ⟨hlt, o, L, _, _, _, _, rfl, sm3, hp3, ho3, ?_⟩
      rw [cut_take hee, if_pos is, List.append_nil]
      exact lab
  · obtain ⟨_, o, L, y5, y6, y7, y8, rfl, sm, hp, ho, lab⟩ := h
    rw [List.length_map, hla, List.take_length] at lab
    have hL := lab.len
    refine ⟨_, rfl, t, _, 0, .int n, rfl, rfl, SqT.of (sm _ _ ht), atI_nat (j := 0) rfl, _, rfl, by omega, by omega, fun Z nZ => ?_⟩
    refine lc_range (lo := 0) (n := Int.toNat n) (fun j H4 => Same H' H4 ∧ H4 Z = some (.lst (((rI j).filter fun k => decide (getI L k = getI L v)).map V.int)))
      ⟨same_new nZ, upd_same⟩ (fun j H4 hj h => ?_) (fun H4 h => ?_)
    · obtain ⟨s4, hZ⟩ := h
      have hj' : j < n := by omega
      have e0 : (0 : Int) + (j : Int) = (j : Int) := Int.zero_add _
      have tk : (rI (j + 1)).filter (fun k => decide (getI L k = getI L v)) = (rI j).filter (fun k => decide (getI L k = getI L v)) ++ [(j : Int)].filter (fun k => decide (getI L k = getI L v)) := by
        rw [rI_succ, List.filter_append]
      refine ⟨rfl, _, rfl, _, rfl, o, _, _, _, rfl, rfl, SqL.of (s4 _ _ ho), getI_at (by omega) (by omega), _, rfl, _, rfl, o, _, _, _, rfl, rfl, SqL.of (s4 _ _ ho), getI_at v0 (by omega), rfl, _, rfl, ite2 (fun c => ?_) (fun c => ?_)⟩
      · have c' : getI L (0 + (j : Int)) = getI L v := V.int.inj (of_decide_eq_true c)
        rw [e0] at c'
        refine ⟨_, rfl, _, hZ, ?_, fun b u eb => (upd_ne (ne_of_none eb nZ)).trans (s4 b u eb), ?_⟩
        · rw [List.length_map]
          have := List.length_filter_le (fun k => decide (getI L k = getI L v)) (rI j)
          rw [rI_len] at this
          exact small1000 (by omega)
        · have one : [(j : Int)].filter (fun k => decide (getI L k = getI L v)) = [(j : Int)] := by simp [c']
          rw [tk, one, List.map_append, upd_same, e0]
          rfl
      · have c' : ¬ getI L (j : Int) = getI L v := fun z => c (decide_eq_true (congrArg V.int (by rw [e0]; exact z)))
        refine ⟨s4, ?_⟩
        have none' : [(j : Int)].filter (fun k => decide (getI L k = getI L v)) = [] := by simp [c']
        rw [tk, none', List.append_nil]
        exact hZ
    · obtain ⟨s4, hZ⟩ := h
      refine ⟨Z, _, rfl, .inl ⟨SqL.of hZ, fun z hz => ?_⟩⟩
      have s5 := same_new (o := .tup (((rI (Int.toNat n)).filter fun k => decide (getI L k = getI L v)).map V.int)) hz
      have sm4 := sm.trans s4
      refine q _ z _ ((rI_strict _).filter _) (fun u => ?_) (sm4.free hz) upd_same (sm4.trans s5)
      rw [List.mem_filter, mem_rI, decide_eq_true_iff]
      constructor
      · rintro ⟨⟨u0, u1⟩, c⟩
        have u1' : u < (n : Int) := by omega
        exact ⟨u0, u1', ((lab.eq u v u0 u1' v0 v1).mp c).symm⟩
      · rintro ⟨u0, u1, c⟩
        exact ⟨⟨u0, by omega⟩, (lab.eq u v u0 u1 v0 v1).mpr (Conn.symm c)⟩
end
end Tr

namespace Tr
open PySem PySem.Spec PyProof.Rows L2
abbrev s_law : Stmt := topS 14
theorem sc_law : FnScope ["_law_script", "_law_drawn", "_law_turn", "_law_tree_here", "_law_kept", "_law_one", "_law_other", "_law_delay_here", "_law_vertex", "_law_away"] ["_law_script"] (defScope s_law) := ⟨rfl, rfl, rfl, by decide +kernel, rfl, by decide +kernel, by decide +kernel⟩
def sp_law (K : PySem.W.Frag) : Sp := fun vs H Q _ => ∃ (a : Addr) (ns : List Int), vs = [.ref a] ∧ SqL K H a (ns.map V.int) ∧ ns.length ≤ 63 ∧ ∀ H', Q (.bl true) H'
section
variable {P : Program} {w : World} {K : PySem.W.Frag} {mg : Str → Option Value} {base : Heap}
theorem ok_law (bt : Bt mg) (c_law_draws : Cal P w K mg base "_law_draws" ["_law_script"] 1 (sp_law_draws K)) (c_law_tree : Cal P w K mg base "_law_tree" ["_law_drawn", "_law_most"] 4 sp_law_tree)
    (c_law_equal : Cal P w K mg base "_law_equal" ["_law_one", "_law_other"] 2 (sp_law_equal K 2)) (c_branch_of : Cal P w K mg base "branch_of" ["tree", "vertex", "away"] 17 (sp_branch_of 16)) (c_law_side : Cal P w K mg base "_law_side" ["_law_tree_here", "_law_vertex", "_law_away"] 1 sp_law_side)
    {f : Addr} {fd : FuncData} (F : Fun K "law" "law" s_law f fd) : FnG P w K mg base CX0 18 f fd ["_law_script"] (sp_law K) := by
  obtain ⟨f_law_draws, fd_law_draws, G_law_draws, m_law_draws, k_law_draws, b_law_draws⟩ := c_law_draws
  obtain ⟨f_law_tree, fd_law_tree, G_law_tree, m_law_tree, k_law_tree, b_law_tree⟩ := c_law_tree
  obtain ⟨f_law_equal, fd_law_equal, G_law_equal, m_law_equal, k_law_equal, b_law_equal⟩ := c_law_equal
  obtain ⟨f_branch_of, fd_branch_of, G_branch_of, m_branch_of, k_branch_of, b_branch_of⟩ := c_branch_of
  obtain ⟨f_law_side, fd_law_side, G_law_side, m_law_side, k_law_side, b_law_side⟩ := c_law_side
  refine fnG F sc_law (fun vs H Q E h => ?_) (fun cdv A outer s H vs Q E hr gg h => ?_)
  · obtain ⟨a, ns, rfl, _⟩ := h
    rfl
  obtain ⟨a, ns, rfl, sq, h63, q⟩ := h
  have hT : TT = 16777216 := rfl
  refine ⟨_, (pss_cons (ps_set (i := 1) sc_law.nd rfl (.inl rfl) (pe_callG G_law_draws gg (hr.mono (by first | decide | omega)) (by rfl) m_law_draws k_law_draws b_law_draws .nil pass0 (pa_cons (pv 0) pa_nil)))
      (pss_cons (ps_for PassesOwn.never rfl (pi_range1 (by rfl) bt.range (pa_cons pe_int pa_nil)) (pg_name (i := 2) sc_law.nd rfl (.inl rfl))
        (pss_cons (ps_set (i := 3) sc_law.nd rfl (.inl rfl) (pe_callG G_law_tree gg (hr.mono (by first | decide | omega)) (by rfl) m_law_tree k_law_tree b_law_tree .nil pass0 (pa_cons (pv 1) (pa_cons pe_int pa_nil))))
      (pss_cons (ps_set (i := 4) sc_law.nd rfl (.inl rfl) (pe_callB (call_reprD gg hr.units) (by rfl) bt.repr bb_repr (pa_cons (pv 3) pa_nil)))
      (pss_cons (ps_for PassesOwn.never rfl (pi_tup (pe_ix ix_tup (pv 3) pe_int (fun _ _ => rfl))) (pg_tup rfl (pgs_cons (pg_name (i := 5) sc_law.nd rfl (.inl rfl)) (pgs_cons (pg_name (i := 6) sc_law.nd rfl (.inl rfl)) (pgs_cons (pg_name (i := 7) sc_law.nd rfl (.inl rfl)) pgs_nil))))
        (pss_one (ps_for PassesOwn.never rfl (pi_list (pe_lst (pa_cons (pe_tup (pa_cons (pv 5) (pa_cons (pv 6) pa_nil))) (pa_cons (pe_tup (pa_cons (pv 6) (pa_cons (pv 5) pa_nil))) (pa_cons (pe_tup (pa_cons (pv 5) (pa_cons (pv 6) pa_nil))) pa_nil))))) (pg_tup rfl (pgs_cons (pg_name (i := 8) sc_law.nd rfl (.inl rfl)) (pgs_cons (pg_name (i := 9) sc_law.nd rfl (.inl rfl)) pgs_nil)))
        (pss_one (ps_if (pt_not (pt_val (pe_callG G_law_equal gg (hr.mono (by first | decide | omega)) (by rfl) m_law_equal k_law_equal b_law_equal .nil pass0 (pa_cons (pe_callG G_branch_of gg (hr.mono (by first | decide | omega)) (by rfl) m_branch_of k_branch_of b_branch_of .nil pass0 (pa_cons (pv 3) (pa_cons (pv 8) (pa_cons (pv 9) pa_nil)))) (pa_cons (pe_callG G_law_side gg (hr.mono (by first | decide | omega)) (by rfl) m_law_side k_law_side b_law_side .nil pass0 (pa_cons (pv 3) (pa_cons (pv 8) (pa_cons (pv 9) pa_nil)))) pa_nil))))) (pss_one (ps_ret pe_bl)) pss_nil)))))
      (pss_one (ps_if (pt_cmpR (op_ne) (pe_callB (call_reprD gg hr.units) (by rfl) bt.repr bb_repr (pa_cons (pv 3) pa_nil)) (pv 4) (nomark _)) (pss_one (ps_ret pe_bl)) pss_nil))))))
      (pss_one (ps_ret pe_bl)))), ?_⟩
  refine ⟨_, rfl, a, ns, rfl, sq, h63, fun H0 d c r D0 s0 => ?_⟩
  refine ⟨6, rfl, by decide, by decide, for_range (n := Int.toNat 6) (fun i σ H' => ∃ y2 y3 y4 y5 y6 y7 y8 y9, σ = [some (.ref a), some (.ref d), y2, y3, y4, y5, y6, y7, y8, y9] ∧ Dn d c r (133 * i) H')
    ⟨none, none, none, none, none, none, none, none, rfl, D0⟩ (fun i σ H' hi h => ?_) (fun σ H' h => ?_)⟩
  · obtain ⟨y2, y3, y4, y5, y6, y7, y8, y9, rfl, D1⟩ := h
    have hi' : i < 6 := hi
    refine ⟨_, rfl, d, c, r, _, 16, rfl, D1, by omega, by decide, by decide, fun H1 t n es tree hn tr D2 K2 => ?_⟩
    have g := GoodT.of tree hn tr
    have W := tree.wood
    have E := tree.edge
    obtain ⟨w1, w2, w3, w4, w5⟩ := g.shw
    refine ⟨_, rfl, _, _, rfl, g.tr.dp, w1, w2, w3, w4, w5, ?_⟩
    obtain ⟨q0, as, ht, hq, he⟩ := g.tr
    have hla := he.length
    have hes := g.len
    refine ⟨_, rfl, t, _, 1, .ref q0, rfl, rfl, SqT.of ht, atI_nat (j := 1) rfl, q0, rfl, ⟨_, SqT.of hq⟩, ?_⟩
    refine for_tup (K := K) (a := q0) (xs := as.map V.ref) (fun j σ H2 => ∃ y5 y6 y7 y8 y9, σ = [some (.ref a), some (.ref d), some (.int (0 + i)), some (.ref t), some (.str (trD n es).shown), y5, y6, y7, y8, y9] ∧ Same H1 H2)
      ⟨_, _, _, _, _, rfl, Same.refl _⟩ (fun j σ H2 _ h => ?_) (fun j x σ H2 hx h => ?_) (fun σ H2 h => ?_)
    · obtain ⟨_, _, _, _, _, _, sm⟩ := h
      exact SqT.of (sm _ _ hq)
    · obtain ⟨y5, y6, y7, y8, y9, rfl, sm⟩ := h
      rw [List.getElem?_map] at hx
      obtain ⟨b, hb, rfl⟩ := Option.map_eq_some_iff.mp hx
      obtain ⟨e, hee, hbe⟩ := he.get' hb
      have hmem := List.mem_of_getElem? hee
      obtain ⟨e0, e1, e2, _⟩ := E e hmem
      refine ⟨b, _, rfl, SqT.of (sm _ _ hbe), rfl, _, _, rfl, _, _, rfl, _, _, rfl, rfl, ?_⟩
      -- the three pairs
      refine ⟨_, rfl, _, rfl, (by show 2 ≤ sizeLine; decide), fun p1 h1 => ⟨_, rfl, _, rfl, (by show 2 ≤ sizeLine; decide), fun p2 h2 => ⟨_, rfl, _, rfl, (by show 2 ≤ sizeLine; decide), fun p3 h3 => ⟨(by show 3 ≤ sizeLine; decide), fun o no => ?_⟩⟩⟩⟩
      have s1 := same_new (o := .tup [.int e.1, .int e.2.1]) h1
      have s2 := same_new (o := .tup [.int e.2.1, .int e.1]) h2
      have s3 := same_new (o := .tup [.int e.1, .int e.2.1]) h3
      have s4 := same_new (o := .lst [.ref p1, .ref p2, .ref p3]) no
      have pairs : ∀ x ∈ ([.ref p1, .ref p2, .ref p3] : List V), ∃ (p : Addr) (u v : Int), x = .ref p ∧ (upd (upd (upd (upd H2 p1 (.tup [.int e.1, .int e.2.1])) p2 (.tup [.int e.2.1, .int e.1])) p3 (.tup [.int e.1, .int e.2.1])) o (.lst [.ref p1, .ref p2, .ref p3])) p = some (.tup [.int u, .int v]) ∧ Adj es u v := by
        have ad : Adj es e.1 e.2.1 := ⟨e, hmem, .inl ⟨rfl, rfl⟩⟩
        intro x hx
        have : x = .ref p1 ∨ x = .ref p2 ∨ x = .ref p3 := by simpa using hx
        rcases this with rfl | rfl | rfl
        · exact ⟨p1, _, _, rfl, s4 _ _ (s3 _ _ (s2 _ _ upd_same)), ad⟩
        · exact ⟨p2, _, _, rfl, s4 _ _ (s3 _ _ upd_same), ad.symm⟩
        · exact ⟨p3, _, _, rfl, s4 _ _ upd_same, ad⟩
      have sm4 := (((sm.trans s1).trans s2).trans s3).trans s4
      have ato : (upd (upd (upd (upd H2 p1 (.tup [.int e.1, .int e.2.1])) p2 (.tup [.int e.2.1, .int e.1])) p3 (.tup [.int e.1, .int e.2.1])) o (.lst [.ref p1, .ref p2, .ref p3])) o = some (.lst [.ref p1, .ref p2, .ref p3]) := upd_same
      generalize upd (upd (upd (upd H2 p1 (.tup [.int e.1, .int e.2.1])) p2 (.tup [.int e.2.1, .int e.1])) p3 (.tup [.int e.1, .int e.2.1])) o (.lst [.ref p1, .ref p2, .ref p3]) = H3 at pairs sm4 ato ⊢
      refine ⟨o, rfl, ⟨_, SqL.of ato⟩, ?_⟩
      refine for_list (K := K) (a := o) (xs := [.ref p1, .ref p2, .ref p3]) (fun k σ H4 => ∃ y8 y9, σ = [some (.ref a), some (.ref d), some (.int (0 + i)), some (.ref t), some (.str (trD n es).shown), some (.int e.1), some (.int e.2.1), some (.int e.2.2), y8, y9] ∧ Same H3 H4)
        ⟨_, _, rfl, Same.refl _⟩ (fun k σ H4 _ h => ?_) (fun k x σ H4 hx h => ?_) (fun σ H4 h => ?_)
      · obtain ⟨_, _, _, s5⟩ := h
        exact SqL.of (s5 _ _ ato)
      · obtain ⟨y8, y9, rfl, s5⟩ := h
        obtain ⟨p, u, v, rfl, hp, ad⟩ := pairs x (List.mem_of_getElem? hx)
        have ru := W.rng _ _ ad
        refine ⟨p, _, rfl, SqT.of (s5 _ _ hp), rfl, _, _, rfl, _, _, rfl, rfl, ?_⟩
        have sm5 := sm4.trans s5
        refine ⟨_, rfl, _, rfl, _, rfl, t, n, es, u, v, rfl, g.tr.same sm5, by omega, W, ad, (Sz.top W ru).mono hn, by decide, fun H5 z l so mem fr atz s6 => ?_⟩
        refine ⟨_, rfl, _, rfl, _, rfl, t, n, es, u, v, rfl, g.tr.same (sm5.trans s6), by omega, by omega, fun e he => ⟨(E e he).1, (E e he).2.1, (E e he).2.2.1⟩, ru.1, ru.2, fun H6 z2 l2 so2 mem2 fr2 atz2 s7 => ?_⟩
        have el : l2 = l := strict_eq so2 so fun x => by
          rw [mem x, mem2 x]
          exact ⟨fun h => h.2.2, fun h => ⟨(W.range ru h).1, (W.range ru h).2, h⟩⟩
        have ll : l.length ≤ n := Sz.top (a := v) W ru l (so.imp fun h => by omega) fun x hx => (mem x).mp hx
        refine ⟨_, _, .tuple (l.map PyData.int), rfl, .tup (SqT.of (s7 _ _ atz)) (dps_ints l), by rw [← el]; exact .tup (SqT.of atz2) (dps_ints l2), okd_ints (by omega), fun H7 s8 => ⟨_, rfl, iteNT ⟨_, _, rfl, ((s5.trans s6).trans s7).trans s8⟩⟩⟩
      · obtain ⟨y8, y9, rfl, s5⟩ := h
        exact ⟨_, _, _, _, _, rfl, sm4.trans s5⟩
    · obtain ⟨y5, y6, y7, y8, y9, rfl, sm⟩ := h
      refine ⟨_, rfl, _, _, rfl, (g.tr.same sm).dp, w1, w2, w3, w4, w5, _, rfl, rfl, _, rfl, iteNS rfl ?_⟩
      exact ⟨_, _, _, _, _, _, _, _, rfl, (D2.same sm).mono (by omega)⟩
  · exact q _
end
end Tr
namespace Tr
open PySem PySem.Spec PyProof.Rows L2
theorem all_mk {l : PySem.W.OpenLaw} {w : World} {K : PySem.W.Frag} {h : Heap} {mg : Str → Option Value} {fa f0 f1 f2 f3 f4 f5 f6 f7 f8 f9 f10 f11 f12 : Addr} (X : K.In h) (G : h.Ns mainGlobals mg) (hfa : mg "law" = some (.ref fa))
    {od0 an0 od1 an1 od2 an2 od3 an3 od4 an4 od5 an5 od6 an6 od7 an7 od8 an8 od9 an9 od10 an10 od11 an11 od12 an12 : Option Addr} {sl0 sl1 sl2 sl3 sl4 sl5 sl6 sl7 sl8 sl9 sl10 sl11 sl12 : Array (Option Value)} {oc0 kV0 dc0 pm0 cd0 ct0 oc1 kV1 dc1 pm1 cd1 ct1 oc2 kV2 dc2 pm2 cd2 ct2 oc3 kV3 dc3 pm3 cd3 ct3 oc4 kV4 dc4 pm4 cd4 ct4 oc5 kV5 dc5 pm5 cd5 ct5 oc6 kV6 dc6 pm6 cd6 ct6 oc7 kV7 dc7 pm7 cd7 ct7 oc8 kV8 dc8 pm8 cd8 ct8 oc9 kV9 dc9 pm9 cd9 ct9 oc10 kV10 dc10 pm10 cd10 ct10 oc11 kV11 dc11 pm11 cd11 ct11 oc12 kV12 dc12 pm12 cd12 ct12 : Value}
    (a0 : PySem.W.nsIn K mainGlobals "_law_draws" = some (some (.ref f0))) (l0 : K.lookup f0 = some ⟨oc0, od0, .func (PySem.W.fnOf "_law_draws" "_law_draws" (defArgs s_law_draws) (defBody s_law_draws) (defScope s_law_draws) .none kV0 dc0 pm0 an0 cd0 ct0), sl0⟩) (c0 : PySem.W.codeIn K cd0 "_law_draws" = true) (k0 : PySem.W.keepIn K (.ref f0) = true)
    (a1 : PySem.W.nsIn K mainGlobals "_law_next" = some (some (.ref f1))) (l1 : K.lookup f1 = some ⟨oc1, od1, .func (PySem.W.fnOf "_law_next" "_law_next" (defArgs s_law_next) (defBody s_law_next) (defScope s_law_next) .none kV1 dc1 pm1 an1 cd1 ct1), sl1⟩) (c1 : PySem.W.codeIn K cd1 "_law_next" = true) (k1 : PySem.W.keepIn K (.ref f1) = true)
    (a2 : PySem.W.nsIn K mainGlobals "_law_size" = some (some (.ref f2))) (l2 : K.lookup f2 = some ⟨oc2, od2, .func (PySem.W.fnOf "_law_size" "_law_size" (defArgs s_law_size) (defBody s_law_size) (defScope s_law_size) .none kV2 dc2 pm2 an2 cd2 ct2), sl2⟩) (c2 : PySem.W.codeIn K cd2 "_law_size" = true) (k2 : PySem.W.keepIn K (.ref f2) = true)
    (a3 : PySem.W.nsIn K mainGlobals "_law_delay" = some (some (.ref f3))) (l3 : K.lookup f3 = some ⟨oc3, od3, .func (PySem.W.fnOf "_law_delay" "_law_delay" (defArgs s_law_delay) (defBody s_law_delay) (defScope s_law_delay) .none kV3 dc3 pm3 an3 cd3 ct3), sl3⟩) (c3 : PySem.W.codeIn K cd3 "_law_delay" = true) (k3 : PySem.W.keepIn K (.ref f3) = true)
    (a4 : PySem.W.nsIn K mainGlobals "_law_parents" = some (some (.ref f4))) (l4 : K.lookup f4 = some ⟨oc4, od4, .func (PySem.W.fnOf "_law_parents" "_law_parents" (defArgs s_law_parents) (defBody s_law_parents) (defScope s_law_parents) .none kV4 dc4 pm4 an4 cd4 ct4), sl4⟩) (c4 : PySem.W.codeIn K cd4 "_law_parents" = true) (k4 : PySem.W.keepIn K (.ref f4) = true)
    (a5 : PySem.W.nsIn K mainGlobals "_law_shuffled" = some (some (.ref f5))) (l5 : K.lookup f5 = some ⟨oc5, od5, .func (PySem.W.fnOf "_law_shuffled" "_law_shuffled" (defArgs s_law_shuffled) (defBody s_law_shuffled) (defScope s_law_shuffled) .none kV5 dc5 pm5 an5 cd5 ct5), sl5⟩) (c5 : PySem.W.codeIn K cd5 "_law_shuffled" = true) (k5 : PySem.W.keepIn K (.ref f5) = true)
    (a6 : PySem.W.nsIn K mainGlobals "_law_made" = some (some (.ref f6))) (l6 : K.lookup f6 = some ⟨oc6, od6, .func (PySem.W.fnOf "_law_made" "_law_made" (defArgs s_law_made) (defBody s_law_made) (defScope s_law_made) .none kV6 dc6 pm6 an6 cd6 ct6), sl6⟩) (c6 : PySem.W.codeIn K cd6 "_law_made" = true) (k6 : PySem.W.keepIn K (.ref f6) = true)
    (a7 : PySem.W.nsIn K mainGlobals "_law_tree" = some (some (.ref f7))) (l7 : K.lookup f7 = some ⟨oc7, od7, .func (PySem.W.fnOf "_law_tree" "_law_tree" (defArgs s_law_tree) (defBody s_law_tree) (defScope s_law_tree) .none kV7 dc7 pm7 an7 cd7 ct7), sl7⟩) (c7 : PySem.W.codeIn K cd7 "_law_tree" = true) (k7 : PySem.W.keepIn K (.ref f7) = true)
    (a8 : PySem.W.nsIn K mainGlobals "_law_equal" = some (some (.ref f8))) (l8 : K.lookup f8 = some ⟨oc8, od8, .func (PySem.W.fnOf "_law_equal" "_law_equal" (defArgs s_law_equal) (defBody s_law_equal) (defScope s_law_equal) .none kV8 dc8 pm8 an8 cd8 ct8), sl8⟩) (c8 : PySem.W.codeIn K cd8 "_law_equal" = true) (k8 : PySem.W.keepIn K (.ref f8) = true)
    (a9 : PySem.W.nsIn K mainGlobals "neighbours_of" = some (some (.ref f9))) (l9 : K.lookup f9 = some ⟨oc9, od9, .func (PySem.W.fnOf "neighbours_of" "neighbours_of" (defArgs s_neighbours_of) (defBody s_neighbours_of) (defScope s_neighbours_of) .none kV9 dc9 pm9 an9 cd9 ct9), sl9⟩) (c9 : PySem.W.codeIn K cd9 "neighbours_of" = true) (k9 : PySem.W.keepIn K (.ref f9) = true)
    (a10 : PySem.W.nsIn K mainGlobals "branch_of" = some (some (.ref f10))) (l10 : K.lookup f10 = some ⟨oc10, od10, .func (PySem.W.fnOf "branch_of" "branch_of" (defArgs s_branch_of) (defBody s_branch_of) (defScope s_branch_of) .none kV10 dc10 pm10 an10 cd10 ct10), sl10⟩) (c10 : PySem.W.codeIn K cd10 "branch_of" = true) (k10 : PySem.W.keepIn K (.ref f10) = true)
    (a11 : PySem.W.nsIn K mainGlobals "_law_side" = some (some (.ref f11))) (l11 : K.lookup f11 = some ⟨oc11, od11, .func (PySem.W.fnOf "_law_side" "_law_side" (defArgs s_law_side) (defBody s_law_side) (defScope s_law_side) .none kV11 dc11 pm11 an11 cd11 ct11), sl11⟩) (c11 : PySem.W.codeIn K cd11 "_law_side" = true) (k11 : PySem.W.keepIn K (.ref f11) = true)
    (a12 : PySem.W.nsIn K mainGlobals "law" = some (some (.ref f12))) (l12 : K.lookup f12 = some ⟨oc12, od12, .func (PySem.W.fnOf "law" "law" (defArgs s_law) (defBody s_law) (defScope s_law) .none kV12 dc12 pm12 an12 cd12 ct12), sl12⟩) (c12 : PySem.W.codeIn K cd12 "law" = true) (k12 : PySem.W.keepIn K (.ref f12) = true)
    (zlen : PySem.W.nsIn K mainGlobals "len" = some none) (zlist : PySem.W.nsIn K mainGlobals "list" = some none) (ztuple : PySem.W.nsIn K mainGlobals "tuple" = some none) (zint : PySem.W.nsIn K mainGlobals "int" = some none) (zbool : PySem.W.nsIn K mainGlobals "bool" = some none) (zstr : PySem.W.nsIn K mainGlobals "str" = some none) (zrange : PySem.W.nsIn K mainGlobals "range" = some none) (zmin : PySem.W.nsIn K mainGlobals "min" = some none) (zmax : PySem.W.nsIn K mainGlobals "max" = some none) (zsorted : PySem.W.nsIn K mainGlobals "sorted" = some none) (zsum : PySem.W.nsIn K mainGlobals "sum" = some none) (zall : PySem.W.nsIn K mainGlobals "all" = some none) (zzip : PySem.W.nsIn K mainGlobals "zip" = some none) (zenumerate : PySem.W.nsIn K mainGlobals "enumerate" = some none) (zisinstance : PySem.W.nsIn K mainGlobals "isinstance" = some none) (zrepr : PySem.W.nsIn K mainGlobals "repr" = some none) (zset : PySem.W.nsIn K mainGlobals "set" = some none) :
    ∃ fd : FuncData, (∀ (s : Shared) (v : Value), BindsTo s fd ⟨[v], []⟩ [("_law_script", v)]) ∧ ∀ base : Heap, K.In base → base.Ns mainGlobals mg → FnG l.prog w K mg base CX0 18 fa fd ["_law_script"] (sp_law K) := by
  have e := hfa.symm.trans (PySem.W.mg_of X G a12)
  cases e
  have F_law_draws := fun_mk (st := s_law_draws) l0 c0 k0
  have b_law_draws := F_law_draws.binds (ps := ["_law_script"]) fun _ _ _ _ _ _ us hl => match us, hl with | [_], _ => rfl
  have m_law_draws := PySem.W.mg_of X G a0
  have F_law_next := fun_mk (st := s_law_next) l1 c1 k1
  have b_law_next := F_law_next.binds (ps := ["_law_drawn", "_law_many"]) fun _ _ _ _ _ _ us hl => match us, hl with | [_, _], _ => rfl
  have m_law_next := PySem.W.mg_of X G a1
  have F_law_size := fun_mk (st := s_law_size) l2 c2 k2
  have b_law_size := F_law_size.binds (ps := ["_law_drawn", "_law_great"]) fun _ _ _ _ _ _ us hl => match us, hl with | [_, _], _ => rfl
  have m_law_size := PySem.W.mg_of X G a2
  have F_law_delay := fun_mk (st := s_law_delay) l3 c3 k3
  have b_law_delay := F_law_delay.binds (ps := ["_law_drawn", "_law_great"]) fun _ _ _ _ _ _ us hl => match us, hl with | [_, _], _ => rfl
  have m_law_delay := PySem.W.mg_of X G a3
  have F_law_parents := fun_mk (st := s_law_parents) l4 c4 k4
  have b_law_parents := F_law_parents.binds (ps := ["_law_drawn", "_law_count"]) fun _ _ _ _ _ _ us hl => match us, hl with | [_, _], _ => rfl
  have m_law_parents := PySem.W.mg_of X G a4
  have F_law_shuffled := fun_mk (st := s_law_shuffled) l5 c5 k5
  have b_law_shuffled := F_law_shuffled.binds (ps := ["_law_drawn", "_law_count"]) fun _ _ _ _ _ _ us hl => match us, hl with | [_, _], _ => rfl
  have m_law_shuffled := PySem.W.mg_of X G a5
  have F_law_made := fun_mk (st := s_law_made) l6 c6 k6
  have b_law_made := F_law_made.binds (ps := ["_law_count", "_law_edges"]) fun _ _ _ _ _ _ us hl => match us, hl with | [_, _], _ => rfl
  have m_law_made := PySem.W.mg_of X G a6
  have F_law_tree := fun_mk (st := s_law_tree) l7 c7 k7
  have b_law_tree := F_law_tree.binds (ps := ["_law_drawn", "_law_most"]) fun _ _ _ _ _ _ us hl => match us, hl with | [_, _], _ => rfl
  have m_law_tree := PySem.W.mg_of X G a7
  have F_law_equal := fun_mk (st := s_law_equal) l8 c8 k8
  have b_law_equal := F_law_equal.binds (ps := ["_law_one", "_law_other"]) fun _ _ _ _ _ _ us hl => match us, hl with | [_, _], _ => rfl
  have m_law_equal := PySem.W.mg_of X G a8
  have F_neighbours_of := fun_mk (st := s_neighbours_of) l9 c9 k9
  have b_neighbours_of := F_neighbours_of.binds (ps := ["tree", "vertex"]) fun _ _ _ _ _ _ us hl => match us, hl with | [_, _], _ => rfl
  have m_neighbours_of := PySem.W.mg_of X G a9
  have F_branch_of := fun_mk (st := s_branch_of) l10 c10 k10
  have b_branch_of := F_branch_of.binds (ps := ["tree", "vertex", "away"]) fun _ _ _ _ _ _ us hl => match us, hl with | [_, _, _], _ => rfl
  have m_branch_of := PySem.W.mg_of X G a10
  have F_law_side := fun_mk (st := s_law_side) l11 c11 k11
  have b_law_side := F_law_side.binds (ps := ["_law_tree_here", "_law_vertex", "_law_away"]) fun _ _ _ _ _ _ us hl => match us, hl with | [_, _, _], _ => rfl
  have m_law_side := PySem.W.mg_of X G a11
  have F_law := fun_mk (st := s_law) l12 c12 k12
  have b_law := F_law.binds (ps := ["_law_script"]) fun _ _ _ _ _ _ us hl => match us, hl with | [_], _ => rfl
  have m_law := PySem.W.mg_of X G a12
  have bt : Bt mg := ⟨PySem.W.mg_none_of X G zlen, PySem.W.mg_none_of X G zlist, PySem.W.mg_none_of X G ztuple, PySem.W.mg_none_of X G zint, PySem.W.mg_none_of X G zbool, PySem.W.mg_none_of X G zstr, PySem.W.mg_none_of X G zrange, PySem.W.mg_none_of X G zmin, PySem.W.mg_none_of X G zmax, PySem.W.mg_none_of X G zsorted, PySem.W.mg_none_of X G zsum, PySem.W.mg_none_of X G zall, PySem.W.mg_none_of X G zzip, PySem.W.mg_none_of X G zenumerate, PySem.W.mg_none_of X G zisinstance, PySem.W.mg_none_of X G zrepr, PySem.W.mg_none_of X G zset⟩
  refine ⟨PySem.W.fnOf "law" "law" (defArgs s_law) (defBody s_law) (defScope s_law) .none kV12 dc12 pm12 an12 cd12 ct12, fun s v => .of_eq rfl, fun base _ _ => ?_⟩
  have c_law_draws : Cal l.prog w K mg base "_law_draws" ["_law_script"] _ _ := ⟨_, _, ok_law_draws bt F_law_draws, m_law_draws, F_law_draws.kp, b_law_draws⟩
  have c_law_next : Cal l.prog w K mg base "_law_next" ["_law_drawn", "_law_many"] _ _ := ⟨_, _, ok_law_next bt F_law_next, m_law_next, F_law_next.kp, b_law_next⟩
  have c_law_size : Cal l.prog w K mg base "_law_size" ["_law_drawn", "_law_great"] _ _ := ⟨_, _, ok_law_size bt c_law_next F_law_size, m_law_size, F_law_size.kp, b_law_size⟩
  have c_law_delay : Cal l.prog w K mg base "_law_delay" ["_law_drawn", "_law_great"] _ _ := ⟨_, _, ok_law_delay bt c_law_size F_law_delay, m_law_delay, F_law_delay.kp, b_law_delay⟩
  have c_law_parents : Cal l.prog w K mg base "_law_parents" ["_law_drawn", "_law_count"] _ _ := ⟨_, _, ok_law_parents bt c_law_next F_law_parents, m_law_parents, F_law_parents.kp, b_law_parents⟩
  have c_law_shuffled : Cal l.prog w K mg base "_law_shuffled" ["_law_drawn", "_law_count"] _ _ := ⟨_, _, ok_law_shuffled bt c_law_next F_law_shuffled, m_law_shuffled, F_law_shuffled.kp, b_law_shuffled⟩
  have c_law_made : Cal l.prog w K mg base "_law_made" ["_law_count", "_law_edges"] _ _ := ⟨_, _, ok_law_made bt F_law_made, m_law_made, F_law_made.kp, b_law_made⟩
  have c_law_tree : Cal l.prog w K mg base "_law_tree" ["_law_drawn", "_law_most"] _ _ := ⟨_, _, ok_law_tree bt c_law_next c_law_size c_law_delay c_law_parents c_law_shuffled c_law_made F_law_tree, m_law_tree, F_law_tree.kp, b_law_tree⟩
  have c_law_equal : Cal l.prog w K mg base "_law_equal" ["_law_one", "_law_other"] _ _ := ⟨_, _, ok_law_equal bt F_law_equal m_law_equal b_law_equal 2, m_law_equal, F_law_equal.kp, b_law_equal⟩
  have c_neighbours_of : Cal l.prog w K mg base "neighbours_of" ["tree", "vertex"] _ _ := ⟨_, _, ok_neighbours_of bt F_neighbours_of, m_neighbours_of, F_neighbours_of.kp, b_neighbours_of⟩
  have c_branch_of : Cal l.prog w K mg base "branch_of" ["tree", "vertex", "away"] _ _ := ⟨_, _, ok_branch_of bt c_neighbours_of F_branch_of m_branch_of b_branch_of 16, m_branch_of, F_branch_of.kp, b_branch_of⟩
  have c_law_side : Cal l.prog w K mg base "_law_side" ["_law_tree_here", "_law_vertex", "_law_away"] _ _ := ⟨_, _, ok_law_side bt F_law_side, m_law_side, F_law_side.kp, b_law_side⟩
  exact ok_law bt c_law_draws c_law_tree c_law_equal c_branch_of c_law_side F_law
end Tr
open PySem PySem.W PyProof.Rows
set_option maxHeartbeats 0 in
theorem PySem.Challenge.cw_tellrounds_k04_branches_of_vertices_holds : PySem.Challenge.rw_tellrounds_k04_branches_of_vertices.Holds := by
  w_on; o_law; k_head; (case hw => w_witness2)
  k_fill
  refine Tr.walkG (l := PySem.Challenge.rw_tellrounds_k04_branches_of_vertices) (n := 63) (k := 18) (x := "_law_script") (sp := fun K => Tr.sp_law K) rfl (by decide) rfl ⟨rfl, by decide, by decide⟩ (fun w h Y => PySem.W.kIn_of Y) ?F (fun _ _ a ns hl _ hS => ⟨a, ns, rfl, hS, hl, fun _ => rfl⟩)
  case F =>
    intro w mg fa h KX G hmg
    refine' Tr.all_mk KX G hmg ?a0 ?l0 ?c0 ?k0 ?a1 ?l1 ?c1 ?k1 ?a2 ?l2 ?c2 ?k2 ?a3 ?l3 ?c3 ?k3 ?a4 ?l4 ?c4 ?k4 ?a5 ?l5 ?c5 ?k5 ?a6 ?l6 ?c6 ?k6 ?a7 ?l7 ?c7 ?k7 ?a8 ?l8 ?c8 ?k8 ?a9 ?l9 ?c9 ?k9 ?a10 ?l10 ?c10 ?k10 ?a11 ?l11 ?c11 ?k11 ?a12 ?l12 ?c12 ?k12 ?zlen ?zlist ?ztuple ?zint ?zbool ?zstr ?zrange ?zmin ?zmax ?zsorted ?zsum ?zall ?zzip ?zenumerate ?zisinstance ?zrepr ?zset
    (case a0 => k_is)
    (case l0 => k_is)
    (case c0 => k_is)
    (case k0 => k_is)
    (case a1 => k_is)
    (case l1 => k_is)
    (case c1 => k_is)
    (case k1 => k_is)
    (case a2 => k_is)
    (case l2 => k_is)
    (case c2 => k_is)
    (case k2 => k_is)
    (case a3 => k_is)
    (case l3 => k_is)
    (case c3 => k_is)
    (case k3 => k_is)
    (case a4 => k_is)
    (case l4 => k_is)
    (case c4 => k_is)
    (case k4 => k_is)
    (case a5 => k_is)
    (case l5 => k_is)
    (case c5 => k_is)
    (case k5 => k_is)
    (case a6 => k_is)
    (case l6 => k_is)
    (case c6 => k_is)
    (case k6 => k_is)
    (case a7 => k_is)
    (case l7 => k_is)
    (case c7 => k_is)
    (case k7 => k_is)
    (case a8 => k_is)
    (case l8 => k_is)
    (case c8 => k_is)
    (case k8 => k_is)
    (case a9 => k_is)
    (case l9 => k_is)
    (case c9 => k_is)
    (case k9 => k_is)
    (case a10 => k_is)
    (case l10 => k_is)
    (case c10 => k_is)
    (case k10 => k_is)
    (case a11 => k_is)
    (case l11 => k_is)
    (case c11 => k_is)
    (case k11 => k_is)
    (case a12 => k_is)
    (case l12 => k_is)
    (case c12 => k_is)
    (case k12 => k_is)
    (case zlen => k_is)
    (case zlist => k_is)
    (case ztuple => k_is)
    (case zint => k_is)
    (case zbool => k_is)
    (case zstr => k_is)
    (case zrange => k_is)
    (case zmin => k_is)
    (case zmax => k_is)
    (case zsorted => k_is)
    (case zsum => k_is)
    (case zall => k_is)
    (case zzip => k_is)
    (case zenumerate => k_is)
    (case zisinstance => k_is)
    (case zrepr => k_is)
    (case zset => k_is)


#print axioms PySem.Challenge.cw_tellrounds_k04_branches_of_vertices_holds
