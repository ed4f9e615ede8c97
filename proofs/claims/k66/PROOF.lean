import PyProof.Rows.All
import Wide.All
import OpenK.AllK
import Wide.FinOn
import PyProof.ReprRoads
import HandS.More
import HandS.IsInst
import HandS.Zip
import HandS.RaiseMore
import KE.BitLaws
import HandS.ForMost
import HandS.Wide
import HandS.WideBits
import HandS.NoneIn
import HandS.Flow
import HandS.Lambda
import HandS.TupMul
import HandS.RevRange
import HandS.Defaults
import HandS.Conv
import HandS.Style
import HandS.TupAny
import HandS.Rev
import HandS.Star
import HandS.Dict
import PyProof.StrOps2
import HandS.Nested
import HandS.EndTab
import KE.KNestM
import PyProof.LongRange
import PyProof.StrLawsRepr
import HandS.Sort
import HandS.SortInts
import KE.KBits
import HandS.ExcInit
import HandS.ExcField
import HandS.ExcIs
import HandS.ExcOwn
import HandS.WordsExc
import KE.KExcIs
import HandS.SetFor
import HandS.Strs
import HandS.Property
import HandS.OwnEq
import HandS.SlotsOwn
import PyProof.Rows.PlainNe
import PyProof.EqKinds
import PyProof.NeKinds
import KE.GoesZip
import KE.GoesMore
import KE.GoesEnumKw
import PyProof.Rows.CallKwBuiltin
import HandS.FStr
import PyProof.ExcBaseAll.ValueError
import KE.KCallOwn
import PySem.Challenge.RW_wordsalike_k66_masks_of_two
set_option Elab.async false
set_option linter.all false
set_option maxRecDepth 100000
set_option maxHeartbeats 4000000
/-! promises of defs that are called where no repr is under way; repr of data -/
namespace Glay
open PySem PySem.Spec PyProof.Rows L2

/-- the promise of a def, for calls around which no repr goes on -/
structure GOk (P : Program) (w : World) (K : PySem.W.Frag) (mg : Str → Option Value) (base : Heap) (k : Nat) (f : Addr) (fd : FuncData) (ps : List Str) (sp : Sp) : Prop where
  many : ∀ {vs H Q E}, sp vs H Q E → vs.length = ps.length
  goes : ∀ {A : Around} {outer s H args us vs Q E}, Room k A → A.guards = some [] → Env0 P w K mg base A outer s H → BindsTo s fd args (ps.zip us) → Vals vs us → sp vs H Q E →
    codeAny (model P w) A (.call (.ref f) args) (CR CX0 outer P w H s Q E) s

section
variable {P : Program} {w : World} {K : PySem.W.Frag} {mg : Str → Option Value} {base : Heap} {k : Nat} {f : Addr} {fd : FuncData} {N ps : List Str} {sp : Sp}
theorem GOk.of (F : FnOk P w K mg base CX0 k f fd ps sp) : GOk P w K mg base k f fd ps sp :=
  ⟨fun h => F.len _ _ _ _ h, fun hr _ e b r h => F.run _ _ _ _ _ _ _ _ _ hr e b r h⟩
theorem GOk.up {j : Nat} (F : GOk P w K mg base j f fd ps sp) (h : j ≤ k) : GOk P w K mg base k f fd ps sp :=
  ⟨F.many, fun hr g => F.goes (hr.mono h) g⟩

/-- a def of the text keeps its promise: its body may ask for a repr -/
theorem okGc {x qual : Str} {st : Stmt} (F : Fun K x qual st f fd) (S : FnScope N ps (defScope st)) (many : ∀ {vs H Q E}, sp vs H Q E → vs.length = ps.length)
    (body : ∀ (cdv : Value) (_ : fd.code = cdv) (A : Around) (outer : List Env) (s : Shared) (H : Hp) (vs : List V) (Q : VK) (E : XK), A.guards = some [] → Room k (A.deeper (envOfC qual (defScope st) s.heap.objs.size f cdv)) → sp vs H Q E →
      ∃ t, PSs (cxOf CX0 P w K mg base N qual (defScope st) f cdv A outer s H E).nox (defBody st) t ∧ t { nx := fun _ H' => Q .non H', rt := Q } (start N vs) H) :
    GOk P w K mg base (k + 1) f fd ps sp := by
  obtain ⟨oc, od, kV, doc, pm, an, cdv, ct, osl, rfl, look, isCode⟩ := F.ex
  refine ⟨many, ?_⟩
  intro A outer s H args us vs Q E room quiet e0 bound rel want
  have inK : K.In s.heap := e0.mod.kin.keeps fun b o e => (e0.bs b o e).1
  have noLid : s.heap.NoLimit := e0.mod.nolimit.keeps fun b o e => (e0.bs b o e).1
  have places : ∀ y ∈ ps.zip us, (defScope st).names.lookup y.1 = some .local ∨ ((defScope st).names.lookup y.1 = some .cell ∧ ((cellsFrom (s.heap.objs.size + 1) (defScope st).names []).lookup y.1).isSome = true) := by
    rintro ⟨n, v⟩ hy
    cases S.par n (List.of_mem_zip hy).1 with
    | inl q => exact .inl q
    | inr q => exact .inr ⟨q, PySem.W.cellsFrom_some _ _ _ (.inl q)⟩
  refine codeAny_call_function room.depth (inK _ _ look) rfl S.co S.gen rfl (PySem.W.codeRec_of inK isCode) (bound _ _ _ _ ?_)
  refine wpAny_newFunctionEnv_cells S.kind places ?_
  intro env he s1 x
  subst he
  refine ⟨noLid.keeps x.toInCall.keep, codeAny_func ?_⟩
  obtain ⟨t, runs, reads⟩ := body cdv rfl A outer s H vs Q E quiet (room.deeper _) want
  have I := inv_start (CX := CX0) (cd := cdv) (f := f) (E := E) (qual := qual) S room.hd e0 (many want) rel x
  have back : ∀ {σ' : L2.St} {H' : Hp} {v : V} {u : Value} {s' : Shared}, Inv (cxOf CX0 P w K mg base N qual (defScope st) f cdv A outer s H E) [] σ' H' s' → RelV v u → Q v H' → CE outer P w H s Q u s' := by
    intro σ' H' v u s' J rv q
    exact ⟨v, H', J.os, J.bare, J.base, J.hok, rv, q⟩
  refine wpAny_mono (runs.nox.run [] s1 (start N vs) H _ I reads) ?_ fun _ _ h => h
  intro fl s' hs
  match fl, hs with
  | .ret u, ⟨v, σ', H', J, rv, q⟩ => exact back J rv q
  | .next, ⟨σ', H', J, q⟩ => exact back (v := .non) (u := .none) J rfl q
  | .brk, ⟨_, _, _, q⟩ => exact q.elim
  | .cont, ⟨_, _, _, q⟩ => exact q.elim
theorem okG {x qual : Str} {st : Stmt} (F : Fun K x qual st f fd) (S : FnScope N ps (defScope st)) (many : ∀ {vs H Q E}, sp vs H Q E → vs.length = ps.length)
    (body : ∀ (cdv : Value) (A : Around) (outer : List Env) (s : Shared) (H : Hp) (vs : List V) (Q : VK) (E : XK), A.guards = some [] → Room k (A.deeper (envOfC qual (defScope st) s.heap.objs.size f cdv)) → sp vs H Q E →
      ∃ t, PSs (cxOf CX0 P w K mg base N qual (defScope st) f cdv A outer s H E).nox (defBody st) t ∧ t { nx := fun _ H' => Q .non H', rt := Q } (start N vs) H) :
    GOk P w K mg base (k + 1) f fd ps sp := okGc F S many fun cdv _ => body cdv
end

section
variable {X : Cx} {k : Nat} {f : Addr} {fd : FuncData} {ps : List Str} {sp : Sp} {dvs : List V} {ds : List Value} {x : Str} {p pos : Pos} {e : Expr} {es : List Expr} {t : TA}
/-- f(e, ..) of such a def -/
theorem pe_callG (F : GOk X.prog X.w X.K X.mg X.base k f fd ps sp) (hr : Room k X.A) (hq : X.A.guards = some []) (hg : Gl X x) (hm : X.mg x = some (.ref f)) (hk : PySem.W.keepIn X.K (.ref f) = true)
    (hb : Binds X.K fd ps ds) (hd : Vals dvs ds) (ha : PA X (e :: es) t) (hdb : (x == ("__debug__" : Str)) = false := by decide)
    (he : starEach (e :: es) X.env = (false, eval e X.env) :: starEach es X.env := by rfl) (hpl : (backTo pos (starEach es X.env)).any (·.1) = false := by rfl) :
    PE X (.Call (.Name x p) (e :: es) [] pos) (tCall sp dvs E0 t) := by
  constructor
  intro pins s σ H Q I h
  refine wpAny_Call_Name_kw (ld_glob I hg hm ?_ hdb)
  refine PySem.W.callWith_K (h₀ := X.base) I.ok.mod.kin hk (thn (ha.run pos pins s σ H _ I h) ?_) he hpl
  rintro us s1 ⟨vs, H1, I1, r, q⟩
  refine ⟨I1.kIn, ?_⟩
  have r2 := r.append hd
  have hl : (us ++ ds).length = ps.length := r2.length.symm.trans (F.many q)
  refine wpAny_call (codeAny_mono (F.goes hr hq I1.env0 (hb s1 us I1.kIn hl) r2 q) ?_)
  intro fin s' hf
  match fin, hf with
  | .error _, hf => exact hf.elim
  | .ok (.ret u), hf => exact I1.after hf
end

section
variable {X : Cx}
/-- repr of data that is reached by a reference -/
def rRepr (K : PySem.W.Frag) : List V → Hp → VK → Prop := fun xs H Q => ∃ a d, xs = [V.ref a] ∧ Dp K H (.ref a) d ∧ d.showable = true ∧ d.hasDict = false ∧ d.depth ≤ 90 ∧ d.shown.length ≤ sizeLine ∧ Q (.str d.shown) H
theorem call_reprG (hq : X.A.guards = some []) (hu : X.A.units + 100 < cLine) : CallR X (.builtin "repr") (rRepr X.K) := by
  intro pins s σ H xs us Q I r h
  obtain ⟨a, d, rfl, hd, sh, nd, dd, sz, q⟩ := h
  obtain ⟨u, rfl, ru⟩ := vals1 r
  obtain ⟨as, rd⟩ := Dp.reads I d _ u hd ru
  cases ru
  refine repr_of_reads' rd sh (fun z => by rw [nd] at z; cases z) hq (by omega) (fun _ _ e => e) (fun h' u tk keep => ?_) sz
  exact ⟨.str _, H, I.kept keep, ⟨_, rfl⟩, q⟩
end

/-! ### the end of a law's row -/
section
variable {P : Program} {w : World} {K : PySem.W.Frag}
theorem goesLaw {mg mb : Str → Option Value} {k : Nat} {fa a : Addr} {fd : FuncData} {x : Str} {sp : Sp} {z : Shared} {vs : List Value} {ns : List Int}
    (inK : K.In z.heap) (names : z.heap.Ns mainGlobals mg) (blt : z.heap.Ns builtinsNs mb) (boot : ∀ x : Str, x ≠ "__name__" → mb x = bootBuiltins x) (noLid : z.heap.NoLimit) (gens : z.gens = #[])
    (script : z.heap.get? a = some { cls := .type "list", data := .seq vs.toArray }) (whole : IntsAre vs ns) (few : ns.length ≤ sizeLine) (room : Room k callerA)
    (F : ∀ base : Heap, K.In base → base.Ns mainGlobals mg → GOk P w K mg base k fa fd [x] sp) (bound : ∀ (s : Shared) (u : Value), BindsTo s fd ⟨[u], []⟩ [(x, u)])
    (want : ∀ H : Hp, Only H → SqL K H a (ns.map V.int) → sp [.ref a] H (fun v _ => v = .bl true) fun _ _ _ => False) :
    codeAny (model P w) callerA (.call (.ref fa) ⟨[.ref a], []⟩) (fun r s' => r = .ok (.ret (.bool true)) ∧ OldK z.heap s'.heap ∧ s'.os = z.os ∧ AllBare s'.gens) z := by
  have rel := vals_ints whole
  have go : ∀ H : Hp, Only H → SqL K H a (ns.map V.int) → HOk P w H z.heap → (∀ b, H b ≠ none → b = a) → (H a ≠ none → K.lookup a = none) →
      codeAny (model P w) callerA (.call (.ref fa) ⟨[.ref a], []⟩) (fun r s' => r = .ok (.ret (.bool true)) ∧ OldK z.heap s'.heap ∧ s'.os = z.os ∧ AllBare s'.gens) z := by
    intro H only seq hok alone out
    have untracked : ∀ {b : Addr}, b ≠ a → H b = none := fun {b} n => by
      cases q : H b with
      | none => rfl
      | some u => exact (n (alone b (by rw [q]; exact Option.some_ne_none u))).elim
    have keptNs : ∀ {b : Addr} {m : Str → Option Value}, z.heap.Ns b m → (hidT z.heap H).Ns b m := by
      rintro b m ⟨o, es, ep, e, d, r⟩
      refine ⟨o, es, ep, hidT_get e (untracked ?_), d, r⟩
      rintro rfl
      have same := script.symm.trans e
      cases same
      cases d
    have keptK : K.In (hidT z.heap H) := fun b o e => by
      refine hidT_get (inK b o e) ?_
      by_cases hb : b = a
      · subst hb
        cases q : H b with
        | none => rfl
        | some u =>
          have no := out (by rw [q]; exact Option.some_ne_none u)
          rw [e] at no
          cases no
      · exact untracked hb
    have md : Mod K mg (hidT z.heap H) := ⟨keptK, keptNs names, ⟨mb, keptNs blt, boot⟩, let ⟨mc, h1, h2⟩ := noLid; ⟨mc, keptNs h1, h2⟩⟩
    have e0 : Env0 P w K mg (hidT z.heap H) callerA [] z H :=
      ⟨rfl, md, fun _ _ e => of_hidT e, Nat.le_of_eq (hidT_size _ _), trivial, fun _ hb => (List.not_mem_nil hb).elim, hok, .of_eq gens⟩
    refine codeAny_mono ((F _ keptK (keptNs names)).goes (args := ⟨[.ref a], []⟩) (us := [.ref a]) (vs := [.ref a]) room rfl e0 (bound z (.ref a)) (.cons rfl .nil) (want H only seq)) ?_
    intro r s' h
    match r, h with
    | .error _, h => exact h.elim
    | .ok (.ret u), ⟨v, H', os, bare, un, hok', rv, q⟩ =>
      have q' : v = .bl true := q
      subst q'
      have ru : u = Value.bool true := rv
      subst ru
      refine ⟨rfl, OldK.of_keep fun b o e => ?_, os, bare⟩
      cases hb : H b with
      | none => exact un.keep b o e hb List.not_mem_nil List.not_mem_nil
      | some u =>
        rcases only b with z0 | ⟨ob, xs, z0⟩
        · rw [hb] at z0
          cases z0
        · have e1 := (hok b _ z0).1
          have e2 := (hok' b _ (un.frzs b ob _ z0)).1
          rw [e] at e1
          cases e1
          exact e2
  cases hk : K.lookup a with
  | some o =>
    have e := inK a o hk
    rw [script] at e
    cases e
    have sz : vs.toArray.size ≤ sizeLine := by
      rw [List.size_toArray, whole.length]
      exact few
    refine go (fun _ => none) (fun _ => .inl rfl) (.inr ⟨_, vs.toArray, _, hk, rfl, rfl, rfl, sz, by simpa using rel⟩) (fun b u q => nomatch q) (fun b q => (q rfl).elim) fun q => (q rfl).elim
  | none =>
    let H : Hp := fun b => if b = a then some (.frz { cls := .type "list", data := .seq vs.toArray } (.lst (ns.map V.int))) else none
    have at1 : H a = some (.frz { cls := .type "list", data := .seq vs.toArray } (.lst (ns.map V.int))) := if_pos rfl
    have off : ∀ {b : Addr}, b ≠ a → H b = none := fun n => if_neg n
    refine go H (fun b => ?_) (.inl (.inr ⟨_, at1⟩)) (fun b u q => ?_) (fun b q => ?_) fun _ => hk
    · by_cases hb : b = a
      · subst hb
        exact .inr ⟨_, _, at1⟩
      · exact .inl (off hb)
    · by_cases hb : b = a
      · subst hb
        have q2 := at1.symm.trans q
        cases q2
        refine ⟨script, ?_, vs, _, rel, script⟩
        rw [List.length_map]
        exact few
      · have q2 := (off hb).symm.trans q
        cases q2
    · by_cases hb : b = a
      · exact hb
      · exact (q (off hb)).elim
end
/-- the goal that k_head leaves, from such a promise of the law -/
theorem walkG {l : PySem.W.OpenLaw} {n k : Nat} {q : Program} {loose : List Str} {XP : (Str → Option Value) → Heap → Prop} {YP : World → Heap → Prop} {d : DefRec} {K : Params → PySem.W.Frag} {sp : World → Sp} {x : Str}
    (hn : l.most = some n) (hn2 : n ≤ sizeLine) (hdf : d.params.defaults = []) (room : Room k callerA) (hY : ∀ (w : World) (h : Heap), YP w h → (K w.params).In h)
    (F : ∀ (w : World) (mg : Str → Option Value) (fa : Addr) (h : Heap), (K w.params).In h → h.Ns mainGlobals mg → mg d.name = some (.ref fa) →
      ∃ fd : FuncData, (∀ (s : Shared) (u : Value), BindsTo s fd ⟨[u], []⟩ [(x, u)]) ∧ ∀ base : Heap, (K w.params).In base → base.Ns mainGlobals mg → GOk l.prog w (K w.params) mg base k fa fd [x] (sp w))
    (want : ∀ (w : World) (H : Hp) (a : Addr) (ns : List Int), ns.length ≤ n → Only H → SqL (K w.params) H a (ns.map V.int) → sp w [.ref a] H (fun v _ => v = .bl true) fun _ _ _ => False) :
    PySem.W.WalkO q loose XP YP l.row.toRowW d [] (fun f vs => PySem.call f vs) := by
  refine Att.attach_call hn hdf ?_
  intro w s₀ s₁ mg mb fa o pm cd doc a vs ns G Y ho hd hcd hmg hobj hints hlen hg
  have inK := hY w _ Y
  obtain ⟨fd, hb, hF⟩ := F w mg fa _ inK G.T.g hmg
  exact goesLaw inK G.T.g G.T.b G.T.builtins G.T.nolimit hg hobj hints (Nat.le_trans hlen hn2) room hF hb fun H hO hS => want w H a ns hlen hO hS
end Glay

set_option Elab.async false
set_option linter.all false
set_option maxRecDepth 100000
set_option maxHeartbeats 4000000
/-! ### what a def of the text is; calls; readings step by step -/
namespace Lw
open PySem PySem.Spec PyProof.Rows L2 Glay
/-- a def of the top, called by its name -/
structure Df (K : PySem.W.Frag) (mg : Str → Option Value) (x : Str) (st : Stmt) (ps : List Str) (f : Addr) (fd : FuncData) : Prop where
  fn : Fun K x x st f fd
  place : mg x = some (.ref f)
  bs : Binds K fd ps []
section
variable {X : Cx} {k : Nat} {f : Addr} {fd : FuncData} {st : Stmt} {ps : List Str} {sp : Sp} {x : Str} {p pos : Pos} {e : Expr} {es : List Expr} {t : TA}
theorem callF (D : Df X.K X.mg x st ps f fd) (G : FnOk X.prog X.w X.K X.mg X.base CX0 k f fd ps sp) (hr : Room k X.A) (hg : Gl X x) (ha : PA X (e :: es) t)
    (hdb : (x == ("__debug__" : Str)) = false := by decide) (he : starEach (e :: es) X.env = (false, eval e X.env) :: starEach es X.env := by rfl) (hpl : (backTo pos (starEach es X.env)).any (·.1) = false := by rfl) :
    PE X (.Call (.Name x p) (e :: es) [] pos) (tCall sp [] E0 t) := pe_call G hr hg D.place D.fn.kp D.bs .nil pass0 ha hdb he hpl
theorem callG (D : Df X.K X.mg x st ps f fd) (G : GOk X.prog X.w X.K X.mg X.base k f fd ps sp) (hr : Room k X.A) (hq : X.A.guards = some []) (hg : Gl X x) (ha : PA X (e :: es) t)
    (hdb : (x == ("__debug__" : Str)) = false := by decide) (he : starEach (e :: es) X.env = (false, eval e X.env) :: starEach es X.env := by rfl) (hpl : (backTo pos (starEach es X.env)).any (·.1) = false := by rfl) :
    PE X (.Call (.Name x p) (e :: es) [] pos) (tCall sp [] E0 t) := pe_callG G hr hq hg D.place D.fn.kp D.bs .nil ha hdb he hpl
/-- len of a list or a tuple -/
def rLen (K : PySem.W.Frag) : List V → Hp → VK → Prop := fun xs H Q => ∃ p ys, xs = [.ref p] ∧ (SqL K H p ys ∨ SqT K H p ys) ∧ Q (.int ys.length) H
theorem len_seq : CallR X (.builtin "len") (rLen X.K) := call_len_seq
def rListOf (K : PySem.W.Frag) : List V → Hp → VK → Prop := fun xs H Q => ∃ p ys, xs = [.ref p] ∧ (SqL K H p ys ∨ SqT K H p ys) ∧ ∀ l, H l = none → Q (.ref l) (upd H l (.lst ys))
theorem list_of : CallR X (.type "list") (rListOf X.K) := call_list_of
def rTupOf (K : PySem.W.Frag) : List V → Hp → VK → Prop := fun xs H Q => ∃ p ys, xs = [.ref p] ∧ ((SqL K H p ys ∧ ∀ l, H l = none → Q (.ref l) (upd H l (.tup ys))) ∨ (SqT K H p ys ∧ Q (.ref p) H))
theorem tuple_of : CallR X (.type "tuple") (rTupOf X.K) := call_tuple_of
def rInt1 : List V → Hp → VK → Prop := fun xs H Q => (∃ i, xs = [.int i] ∧ Q (.int i) H) ∨ ∃ k, xs = [.bl k] ∧ Q (.int (if k then 1 else 0)) H
theorem int_1 : CallR X (.type "int") rInt1 := call_int1
def rAbs : List V → Hp → VK → Prop := fun xs H Q => ∃ i, xs = [.int i] ∧ Q (.int (if i < 0 then -i else i)) H
theorem abs_1 : CallR X (.builtin "abs") rAbs := call_abs
/-- powers of great numbers -/
def CPowW (i j : Int) : Prop := 0 ≤ j ∧ (Builtin.Int.intBits i : Int) * j ≤ 2 ^ 27
theorem op_powW : OpR X (binaryOp .Pow) (rI CPowW fun i j => .int (i ^ j.toNat)) := opI fun _ _ _ _ _ _ _ hc q => pow_int hc.1 hc.2 q
/-- a number and all ones of so many bits -/
def rAndM : R2 := fun x y H Q => ∃ (i : Int) (k : Nat), x = .int i ∧ y = .int (2 ^ k - 1) ∧ Q (.int (i % 2 ^ k)) H
theorem op_andM' : OpR X (binaryOp .BitAnd) rAndM := op_andM
/-- repr of a number -/
def rRepI : List V → Hp → VK → Prop := fun xs H Q => ∃ i : Int, xs = [.int i] ∧ i.natAbs.log2 < 1920 ∧ Q (.str (toString i)) H
/-- numbers below a power of two -/
def Bd (B : Nat) (n : Int) : Prop := n.natAbs < 2 ^ B
theorem Bd.mono {A B : Nat} {n : Int} (h : Bd A n) (l : A ≤ B) : Bd B n := Nat.lt_of_lt_of_le h (Nat.pow_le_pow_right (by decide) l)
theorem Bd.add {B : Nat} {i j : Int} (h : Bd B i) (h' : Bd B j) : Bd (B + 1) (i + j) := by
  unfold Bd at *
  rw [Nat.pow_succ]
  omega
theorem Bd.sub {B : Nat} {i j : Int} (h : Bd B i) (h' : Bd B j) : Bd (B + 1) (i - j) := by
  unfold Bd at *
  rw [Nat.pow_succ]
  omega
theorem Bd.neg {B : Nat} {i : Int} (h : Bd B i) : Bd B (-i) := by
  unfold Bd at *
  omega
theorem Bd.mul {A B : Nat} {i j : Int} (h : Bd A i) (h' : Bd B j) : Bd (A + B) (i * j) := wide_lt h h'
theorem Bd.of {B : Nat} {i : Int} (h0 : 0 ≤ i) (h : i < 2 ^ B) : Bd B i := by
  unfold Bd
  have : ((i.natAbs : Nat) : Int) = i := Int.natAbs_of_nonneg h0
  have q : ((i.natAbs : Nat) : Int) < ((2 ^ B : Nat) : Int) := by
    rw [this, Int.natCast_pow]
    exact h
  exact Int.ofNat_lt.mp q
theorem Bd.le {B : Nat} {i j : Int} (h : Bd B j) (h0 : 0 ≤ i) (h1 : i ≤ j) : Bd B i := wide_le h0 h1 h
theorem Bd.mulOk {A B : Nat} {i j : Int} (h : Bd A i) (h' : Bd B j) (l : 0 < A ∧ 0 < B ∧ A + B ≤ 1000000) : CMulW i j := wide_mul h h' l.1 l.2.1 l.2.2
theorem roomU {k : Nat} {A : Around} (r : Room k A) : A.units + 100 < cLine := by have := r.un; omega
end
/-- a new object at p -/
structure New (H : Hp) (p : Addr) (o : HO) (H' : Hp) : Prop where
  free : H p = none
  here : H' p = some o
  same : Same H H'
theorem same_upd {H : Hp} {p : Addr} {o : HO} (h : H p = none) : Same H (upd H p o) := fun b x e => by
  rw [upd_ne (ne_of_none e h)]
  exact e
theorem New.of {H : Hp} {p : Addr} {o : HO} (h : H p = none) : New H p o (upd H p o) := ⟨h, upd_same, same_upd h⟩
def kLst (Q : VK) : List V → Hp → Prop := fun xs H => xs.length ≤ sizeLine ∧ ∀ p, H p = none → Q (.ref p) (upd H p (.lst xs))
def kPar (i j : Nat) (D : Ends) (σ : L2.St) : List V → Hp → Prop := fun vs H => ∃ v w, vs = [v, w] ∧ D.nx ((σ.set i (some v)).set j (some w)) H
def kFor (g : TG) (tb : TS) (D : Ends) (σ0 : L2.St) (J : It) (H1 : Hp) : Prop := ∃ W : Nat → Nat → L2.St → Hp → Prop, (∃ m, W 0 m σ0 H1) ∧ ∀ i m σ H, W i m σ H →
  (J.stop i H ∧ D.nx σ H) ∨ (J.go i H ∧ ∃ N : L2.St → Hp → Prop, (∀ σ' H', N σ' H' → ∃ m', m' < m ∧ W (i + 1) m' σ' H') ∧ ∀ x H', J.yld i H x H' → g x σ H' fun σ2 H2 => tb { D with nx := N, ct := N, bk := D.nx } σ2 H2)
def kItl (K : PySem.W.Frag) (R : It → Hp → Prop) : VK := fun x H => ∃ a, x = .ref a ∧ (∃ xs, SqL K H a xs) ∧ R (Itl K a) H
def kItr (R : It → Hp → Prop) : List V → Hp → Prop := fun vs H => ∃ j : Int, vs = [.int j] ∧ -(2 ^ 62) ≤ j ∧ j < 2 ^ 62 ∧ R (Itr 0 j.toNat) H
def kTupl (Q : VK) : List V → Hp → Prop := fun xs H => xs.length ≤ sizeLine ∧ ∀ p, H p = none → Q (.ref p) (upd H p (.tup xs))
section
variable {σ : L2.St} {H : Hp} {Q : VK} {v x y : V} {i j : Int} {n : Nat} {ta tb te : TE} {D : Ends} {r : R2} {P : Bool → Prop}
theorem rd_var (h : σ[n]? = some (some v)) (q : Q v H) : tVar n σ H Q := ⟨v, h, q⟩
theorem rd_c (q : Q v H) : tC v σ H Q := q
theorem rd_op (q : ta σ H fun x H1 => tb σ H1 fun y H2 => r x y H2 Q) : tOp r ta tb σ H Q := q
theorem rd_un {r : V → Hp → VK → Prop} (q : ta σ H fun x H1 => r x H1 Q) : tUn r ta σ H Q := q
theorem rd_U {g : Int → Int} (q : Q (.int (g i)) H) : rU (fun i => .int (g i)) (.int i) H Q := ⟨i, rfl, q⟩
theorem rd_I0 {g : Int → Int → V} (q : Q (g i j) H) : rI0 g (.int i) (.int j) H Q := ⟨i, j, rfl, rfl, q⟩
theorem rd_I {C : Int → Int → Prop} {g : Int → Int → V} (c : C i j) (q : Q (g i j) H) : rI C g (.int i) (.int j) H Q := ⟨i, j, rfl, rfl, c, q⟩
theorem rd_call {sp : Sp} {dvs : List V} {E : XK} {t : TA} (q : t σ H fun vs H1 => sp (vs ++ dvs) H1 Q E) : tCall sp dvs E t σ H Q := q
theorem rd_cb {c : List V → Hp → VK → Prop} {t : TA} (q : t σ H fun vs H1 => c vs H1 Q) : tCB c t σ H Q := q
theorem rd_nil {Q : List V → Hp → Prop} (q : Q [] H) : tNil σ H Q := q
theorem rd_cons {tr : TA} {Q : List V → Hp → Prop} (q : ta σ H fun x H1 => tr σ H1 fun xs H2 => Q (x :: xs) H2) : tCons ta tr σ H Q := q
theorem rd_seq {t u : TS} (q : t { D with nx := u D } σ H) : tSeq t u D σ H := q
theorem rd_next (q : D.nx σ H) : tNext D σ H := q
theorem rd_asg {g : TG} (q : te σ H fun x H1 => g x σ H1 D.nx) : tAsg te g D σ H := q
theorem rd_par {i j : Nat} {t : TA} (q : t σ H (kPar i j D σ)) : tPar i j t D σ H := q
theorem rd_par2 {i j : Nat} (q : D.nx ((σ.set i (some v)).set j (some x)) H) : kPar i j D σ [v, x] H := ⟨v, x, rfl, q⟩
theorem rd_name {Q : L2.St → Hp → Prop} (q : Q (σ.set n (some v)) H) : gName n v σ H Q := q
theorem rd_ret (q : te σ H D.rt) : tRet te D σ H := q
theorem rd_ifs {c : TT} {t u : TS} (q : c σ H fun b H1 => if b = true then t D σ H1 else u D σ H1) : tIfS c t u D σ H := q
theorem rd_if {c : TT} (q : c σ H fun b H1 => if b = true then ta σ H1 Q else tb σ H1 Q) : tIf c ta tb σ H Q := q
theorem rd_test {Q : Bool → Hp → Prop} (q : te σ H fun x H1 => ∃ k, x = .bl k ∧ Q k H1) : tTest te σ H Q := q
theorem rd_B {Q : Bool → Hp → Prop} (q : te σ H fun x H1 => ∃ k, x = .bl k ∧ Q k H1) : tB te σ H Q := q
theorem rd_not {c : TT} {Q : Bool → Hp → Prop} (q : c σ H fun b H1 => Q (!b) H1) : tNot c σ H Q := q
theorem rd_and {c d : TT} {Q : Bool → Hp → Prop} (q : c σ H fun b H1 => if b = true then d σ H1 Q else Q false H1) : tAnd c d σ H Q := q
theorem rd_or {c d : TT} {Q : Bool → Hp → Prop} (q : c σ H fun b H1 => if b = true then Q true H1 else d σ H1 Q) : tOr c d σ H Q := q
theorem rd_andV (q : ta σ H fun x H1 => ∃ c, x = .bl c ∧ if c = true then tb σ H1 Q else Q (.bl false) H1) : tAndV ta tb σ H Q := q
theorem rd_orV (q : ta σ H fun x H1 => ∃ c, x = .bl c ∧ if c = true then Q (.bl true) H1 else tb σ H1 Q) : tOrV ta tb σ H Q := q
theorem rd_notV (q : ta σ H fun x H1 => ∃ c, x = .bl c ∧ Q (.bl (!c)) H1) : tNotV ta σ H Q := q
theorem rd_chain {r' : R2} {tc : TE} (q : ta σ H fun x H1 => tb σ H1 fun y H2 => r x y H2 fun z H3 => ∃ k, z = .bl k ∧ (if k = true then tc σ H3 fun w' H4 => r' y w' H4 Q else Q (.bl false) H3)) : tChain r r' ta tb tc σ H Q := q
theorem rd_k {b : Bool} (q : P b) : ∃ k, V.bl b = .bl k ∧ P k := ⟨b, rfl, q⟩
theorem rd_eq (s : scal x y = true) (q : Q (.bl (decide (x = y))) H) : rEq x y H Q := ⟨s, q⟩
theorem rd_ne (s : scal x y = true) (q : Q (.bl (!decide (x = y))) H) : rNe x y H Q := ⟨s, q⟩
theorem rd_dec {c A B : Prop} [Decidable c] (h1 : c → A) (h2 : ¬ c → B) : if decide c = true then A else B := by
  by_cases h : c
  · rw [decide_eq_true h, if_pos rfl]
    exact h1 h
  · rw [decide_eq_false h, if_neg (by decide)]
    exact h2 h
theorem rd_yes {c A B : Prop} [Decidable c] (h : c) (q : A) : if decide c = true then A else B := rd_dec (fun _ => q) fun n => (n h).elim
theorem rd_no {c A B : Prop} [Decidable c] (h : ¬ c) (q : B) : if decide c = true then A else B := rd_dec (fun y => (h y).elim) fun _ => q
theorem rd_yesN {c A B : Prop} [Decidable c] (h : ¬ c) (q : A) : if (!decide c) = true then A else B := by
  rw [decide_eq_false h]
  exact q
theorem rd_noN {c A B : Prop} [Decidable c] (h : c) (q : B) : if (!decide c) = true then A else B := by
  rw [decide_eq_true h]
  exact q
theorem rd_nt {A B : Prop} (q : B) : if (!true) = true then A else B := q
theorem rd_nf {A B : Prop} (q : A) : if (!false) = true then A else B := q
theorem rd_t {A B : Prop} (q : A) : if true = true then A else B := q
theorem rd_f {A B : Prop} (q : B) : if false = true then A else B := by
  rw [if_neg (by decide)]
  exact q
theorem rd_lst {t : TA} (q : t σ H (kLst Q)) : tLst t σ H Q := q
theorem rd_unl {K : PySem.W.Frag} {g : TGs} {a : Addr} {xs : List V} {Q : L2.St → Hp → Prop} (h : SqL K H a xs) (e : xs.length = n) (q : g xs σ H Q) : gUnl K n g (.ref a) σ H Q := ⟨a, xs, rfl, h, e, q⟩
theorem rd_andM {k : Nat} (e : j = 2 ^ k - 1) (q : Q (.int (i % 2 ^ k)) H) : rAndM (.int i) (.int j) H Q := ⟨i, k, rfl, by rw [e], q⟩
theorem rd_gcons {g : TG} {u : TGs} {xs : List V} {Q : L2.St → Hp → Prop} (q : g v σ H fun σ' H' => u xs σ' H' Q) : gCons g u (v :: xs) σ H Q := ⟨v, xs, rfl, q⟩
theorem rd_gnil {Q : L2.St → Hp → Prop} (q : Q σ H) : gNil [] σ H Q := ⟨rfl, q⟩
theorem rd_sub {t : TSet} {Q : L2.St → Hp → Prop} (q : ta σ H fun o H1 => tb σ H1 fun i H2 => t o i v H2 fun H3 => Q σ H3) : gSub ta tb t v σ H Q := q
theorem rd_set {p : Addr} {xs : List V} {m : Nat} {Q : Hp → Prop} (h : H p = some (.lst xs)) (e : ixN xs.length i = some m) (q : Q (upd H p (.lst (xs.set m v)))) : rSetL (.ref p) (.int i) v H Q := ⟨p, xs, i, m, rfl, rfl, h, e, q⟩
theorem rd_ixL {K : PySem.W.Frag} {p : Addr} {xs : List V} (h : SqL K H p xs) (e : atI xs i = some v) (q : Q v H) : rIxL K (.ref p) (.int i) H Q := ⟨p, xs, i, v, rfl, rfl, h, e, q⟩
theorem rd_len {K : PySem.W.Frag} {p : Addr} {xs : List V} (h : SqL K H p xs) (q : Q (.int (xs.length : Int)) H) : rLen K [.ref p] H Q := ⟨p, xs, rfl, .inl h, q⟩
theorem ix_in {m : Nat} (h0 : 0 ≤ i) (h1 : i < m) : ixN m i = some i.toNat := by
  unfold ixN
  rw [if_pos h0, if_pos h1]
theorem at_ints {ns : List Int} (h0 : 0 ≤ i) (h1 : i < ns.length) : ∃ z, ns[i.toNat]? = some z ∧ z ∈ ns ∧ atI (ns.map V.int) i = some (.int z) := by
  have hj : i.toNat < ns.length := by omega
  refine ⟨ns[i.toNat], List.getElem?_eq_getElem hj, List.getElem_mem hj, ?_⟩
  unfold atI
  rw [List.length_map, ix_in h0 h1]
  show (ns.map V.int)[i.toNat]? = _
  rw [List.getElem?_map, List.getElem?_eq_getElem hj]
  rfl
theorem rd_listL {K : PySem.W.Frag} {p : Addr} {xs : List V} (h : SqL K H p xs) (q : ∀ l H', New H l (.lst xs) H' → Q (.ref l) H') : rListOf K [.ref p] H Q := ⟨p, xs, rfl, .inl h, fun l n => q l _ (.of n)⟩
theorem rd_tupL {K : PySem.W.Frag} {p : Addr} {xs : List V} (h : SqL K H p xs) (q : ∀ l H', New H l (.tup xs) H' → Q (.ref l) H') : rTupOf K [.ref p] H Q := ⟨p, xs, rfl, .inl ⟨h, fun l n => q l _ (.of n)⟩⟩
theorem rd_intI (q : Q (.int i) H) : rInt1 [.int i] H Q := .inl ⟨i, rfl, q⟩
theorem rd_intB {b : Bool} (q : Q (.int (if b then 1 else 0)) H) : rInt1 [.bl b] H Q := .inr ⟨b, rfl, q⟩
theorem rd_abs (q : Q (.int (if i < 0 then -i else i)) H) : rAbs [.int i] H Q := ⟨i, rfl, q⟩
theorem rd_sl {c : V → Option Int → Option Int → Hp → VK → Prop} {tl th : TO} (q : te σ H fun x H1 => tl σ H1 fun l H2 => th σ H2 fun u H3 => c x l u H3 Q) : tSl c te tl th σ H Q := q
theorem rd_nopart {Q : Option Int → Hp → Prop} (q : Q none H) : tNoPart σ H Q := q
theorem rd_part {Q : Option Int → Hp → Prop} (q : te σ H fun x H1 => ∃ i, x = .int i ∧ Q (some i) H1) : tPart te σ H Q := q
theorem rd_pi {P : Int → Prop} (q : P i) : ∃ j, V.int i = .int j ∧ P j := ⟨i, rfl, q⟩
theorem rd_slL {K : PySem.W.Frag} {a : Addr} {xs : List V} {lo hi : Option Int} (h : SqL K H a xs) (q : ∀ p H', New H p (.lst (cutV xs lo hi)) H' → Q (.ref p) H') : rSlL K (.ref a) lo hi H Q := ⟨a, xs, rfl, h, fun p n => q p _ (.of n)⟩
theorem rd_cat {a b : Addr} {xs zs : List V} (h1 : H a = some (.lst xs)) (h2 : H b = some (.lst zs)) (s : xs.length + zs.length ≤ 1000) (q : ∀ p H', New H p (.lst (xs ++ zs)) H' → Q (.ref p) H') : rCat (.ref a) (.ref b) H Q :=
  ⟨a, b, xs, zs, rfl, rfl, h1, h2, Nat.le_of_lt (small1000 s), fun p n => q p _ (.of n)⟩
theorem rd_rep {a : Addr} {xs : List V} (h1 : H a = some (.lst xs)) (h0 : 0 ≤ i) (hi : i ≤ 1000) (s : xs.length * i.toNat ≤ 1000) (q : ∀ p H', New H p (.lst (List.replicate i.toNat xs).flatten) H' → Q (.ref p) H') : rRep (.ref a) (.int i) H Q :=
  ⟨a, i, xs, rfl, rfl, h1, by omega, by omega, Nat.le_of_lt (small1000 s), fun p n => q p _ (.of n)⟩
theorem rd_new {xs : List V} (s : xs.length ≤ 1000) (q : ∀ p H', New H p (.lst xs) H' → Q (.ref p) H') : kLst Q xs H := ⟨Nat.le_of_lt (small1000 s), fun p n => q p _ (.of n)⟩
theorem rd_newT {xs : List V} (s : xs.length ≤ 1000) (q : ∀ p H', New H p (.tup xs) H' → Q (.ref p) H') : kTupl Q xs H := ⟨Nat.le_of_lt (small1000 s), fun p n => q p _ (.of n)⟩
theorem rd_tup {t : TA} (q : t σ H (kTupl Q)) : tTup t σ H Q := q
theorem rd_for {wi : TI} {g : TG} {tb : TS} (q : wi σ H (kFor g tb D σ)) : tFor wi g tb D σ H := q
theorem rd_ilist {K : PySem.W.Frag} {R : It → Hp → Prop} (q : ta σ H (kItl K R)) : iList K ta σ H R := q
theorem rd_irng {t : TA} {R : It → Hp → Prop} (q : t σ H (kItr R)) : iRng1 t σ H R := q
theorem rd_forL {K : PySem.W.Frag} {a : Addr} {xs : List V} {g : TG} {tb : TS} (hs : SqL K H a xs) (Pv : Nat → L2.St → Hp → Prop) (h0 : Pv 0 σ H) (hl : ∀ i σ H, i ≤ xs.length → Pv i σ H → SqL K H a xs)
    (turn : ∀ i x σ H, xs[i]? = some x → Pv i σ H → g x σ H fun σ2 H2 => tb { D with nx := Pv (i + 1), ct := Pv (i + 1), bk := D.nx } σ2 H2) (hd : ∀ σ H, Pv xs.length σ H → D.nx σ H) :
    kItl K (kFor g tb D σ) (.ref a) H := ⟨a, rfl, ⟨xs, hs⟩, for_list (K := K) (a := a) (xs := xs) Pv h0 hl turn hd⟩
theorem rd_forR {m : Nat} {g : TG} {tb : TS} (hm : m ≤ 1000000) (Pv : Nat → L2.St → Hp → Prop) (h0 : Pv 0 σ H)
    (turn : ∀ i σ H, i < m → Pv i σ H → g (.int (0 + (i : Int))) σ H fun σ2 H2 => tb { D with nx := Pv (i + 1), ct := Pv (i + 1), bk := D.nx } σ2 H2) (hd : ∀ σ H, Pv m σ H → D.nx σ H) :
    kItr (kFor g tb D σ) [.int (m : Int)] H := ⟨(m : Int), rfl, by omega, by omega, by
      rw [Int.toNat_natCast]
      exact for_range (lo := 0) (n := m) Pv h0 turn hd⟩
end
/-! ### written dicts, isinstance, comprehensions with tests -/
section
variable {X : Cx}
/-- z in d, d a dict of the top with written texts as keys -/
def KHas (K : PySem.W.Frag) (w : World) (p : Addr) (z : Str) (b : Bool) : Prop := ∃ es n r, K.lookup p = some ⟨.type "dict", none, .dict es n, #[]⟩ ∧ PySem.W.KeysLit w.params es.toList ∧ (p == sysModules) = false ∧ PySem.W.nsIn K p z = some r ∧ r.isSome = b
def rInD (K : PySem.W.Frag) (w : World) : R2 := fun x y H Q => ∃ z p b, x = .str z ∧ y = .ref p ∧ KHas K w p z b ∧ Q (.bl b) H
theorem op_inD : OpR X (compareOp .In) (rInD X.K X.w) := by
  intro pins s σ H x y v u Q I rx ry h
  obtain ⟨z, p, b, rfl, rfl, ⟨es, n, r, hl, hk, lo, e, hb⟩, q⟩ := h
  obtain ⟨t, rfl⟩ := rx
  cases ry
  refine wpAny_in_of (strKind_is X.prog X.w z t) lo (PySem.W.mapOf_K I.kIn hl hk) ?_
  rw [PySem.W.find_K hl e, hb]
  exact ⟨.bl b, H, I.tok _, rfl, q⟩
end
section
variable {X : Cx} {K : PySem.W.Frag}
theorem zip_k {e1 e2 : Expr} {ta : TA} {p pos tpos : Pos} {elts : List Expr} {kk : Nat} (e : X.K = K) (hg : Gl X "zip") (hm : X.mg "zip" = none) (ha : PA X [e1, e2] ta)
    (hs : starEach [e1, e2] X.env = (false, eval e1 X.env) :: starEach [e2] X.env := by rfl) (hpl : (backTo pos (starEach [e2] X.env)).any (·.1) = false := by rfl) :
    PI X (.Tuple elts kk tpos) (.Call (.Name "zip" p) [e1, e2] [] pos) (RZ.iZipA K ta) := by subst e; exact RZ.pi_zipA hg hm ha hs hpl
theorem pgt_k {es : List Expr} {k : Nat} {t : TGs} {n : Nat} {pos : Pos} (e : X.K = K) (hc : X.calm = true) (h : PGs X es t)
    (hn : (assignEach es X.env).length = n := by rfl) (hst : (assignEach es X.env).findIdx? (·.1) = none := by rfl) : PG X (.Tuple es k pos) (gTup K n t) := by subst e; exact pg_tup hc h hn hst
theorem sorted_k (e : X.K = K) : CallR X (.builtin "sorted") (rSorted K) := by subst e; exact cr_sorted
theorem repr_i : CallR X (.builtin "repr") rRepI := SkE.call_repr_int
theorem isi_k (e : X.K = K) : CallR X (.builtin "isinstance") (rIsi K) := by subst e; exact call_isi
theorem len_k (e : X.K = K) : CallR X (.builtin "len") (rLen K) := by subst e; exact len_seq
theorem list_k (e : X.K = K) : CallR X (.type "list") (rListOf K) := by subst e; exact list_of
theorem tuple_k (e : X.K = K) : CallR X (.type "tuple") (rTupOf K) := by subst e; exact tuple_of
theorem ixl_k (e : X.K = K) : IxR X (rIxL K) := by subst e; exact ix_list
theorem ixt_k (e : X.K = K) : IxR X (rIxT K) := by subst e; exact ix_tup
theorem ins_k (e : X.K = K) : OpR X (compareOp .In) (rIn K false) := by subst e; exact op_in_seq
theorem sll_k (e : X.K = K) : SlR X (rSlL K) := by subst e; exact sl_list
theorem slt_k (e : X.K = K) : SlR X (rSlT K) := by subst e; exact sl_tup
theorem sum_k (hc : X.calm = true) (e : X.K = K) : CallR X (.builtin "sum") (rSum K) := by subst e; exact cr_sum hc
theorem eqd_k (e : X.K = K) (hu : X.A.units + 64 < cLine) : OpR X (compareOp .Eq) (rEqD K) := by subst e; exact op_eqD hu
theorem ned_k (e : X.K = K) (hu : X.A.units + 64 < cLine) : OpR X (compareOp .NotEq) (rNeD K) := by subst e; exact op_neD hu
theorem repr_k (e : X.K = K) (hq : X.A.guards = some []) (hu : X.A.units + 100 < cLine) : CallR X (.builtin "repr") (rRepr K) := by subst e; exact call_reprG hq hu
theorem inD_k {w : World} (e : X.K = K) (ew : X.w = w) : OpR X (compareOp .In) (rInD K w) := by subst e; subst ew; exact op_inD
theorem ixd_k {w : World} (e : X.K = K) (ew : X.w = w) : IxR X (rIxD K w) := by subst e; subst ew; exact ix_kdict
end
def rMx2 : List V → Hp → VK → Prop := fun xs H Q => ∃ i j, xs = [.int i, .int j] ∧ Q (.int (if j > i then j else i)) H
def rMn2 : List V → Hp → VK → Prop := fun xs H Q => ∃ i j, xs = [.int i, .int j] ∧ Q (.int (if j < i then j else i)) H
theorem max_2 {X : Cx} (hc : X.calm = true) : CallR X (.builtin "max") rMx2 := call_max2 hc
theorem min_2 {X : Cx} (hc : X.calm = true) : CallR X (.builtin "min") rMn2 := call_min2 hc
theorem at_head {α : Type} {x : α} {xs : List α} : atI (x :: xs) 0 = some x := atI_nat (j := 0) rfl
def kLc (g : TG) (tt : TT) (te : TE) (vs : List Nat) (σ : L2.St) (Q : VK) (J : It) (H1 : Hp) : Prop := ∀ D, H1 D = none → ∃ W : Nat → Nat → Hp → Prop, (∃ m, W 0 m (upd H1 D (.lst []))) ∧ ∀ i m H, W i m H →
  (J.stop i H ∧ Q (.ref D) H) ∨ (J.go i H ∧ ∃ Nx : Hp → Prop, (∀ H', Nx H' → ∃ m', m' < m ∧ W (i + 1) m' H') ∧ ∀ x H', J.yld i H x H' → g x (wipe σ vs) H' fun σ2 H2 => wipe σ2 vs = wipe σ vs ∧ tt σ2 H2 fun b H3 =>
    if b = true then te σ2 H3 fun y H4 => ∃ acc, H4 D = some (.lst acc) ∧ acc.length < sizeLine ∧ Nx (upd H4 D (.lst (acc ++ [y]))) else Nx H3)
def kZip (K : PySem.W.Frag) (R : It → Hp → Prop) : List V → Hp → Prop := fun vs H1 => ∃ a b xs ys, vs = [.ref a, .ref b] ∧ ((SqL K H1 a xs ∧ SqL K H1 b ys ∧ R (Itz K a b) H1) ∨ (SqT K H1 a xs ∧ SqT K H1 b ys ∧ R (RZ.ItzT K a b) H1))
def kItt (K : PySem.W.Frag) (R : It → Hp → Prop) : VK := fun x H => ∃ a, x = .ref a ∧ (∃ xs, SqT K H a xs) ∧ R (Itt K a) H
def rTupIx (K : PySem.W.Frag) : R2 := rIxT K
section
variable {σ : L2.St} {H : Hp} {Q : VK} {v x y : V} {i j : Int} {n : Nat} {ta tb te : TE} {D : Ends} {K : PySem.W.Frag}
theorem rd_lc {wi : TI} {g : TG} {tt : TT} {vs : List Nat} (q : wi σ H (kLc g tt te vs σ Q)) : tLc wi g tt te vs σ H Q := q
theorem rd_itup {R : It → Hp → Prop} (q : ta σ H (kItt K R)) : iTup K ta σ H R := q
/-- [e for x in xs], xs a local, what is made of each item told by f -/
theorem rd_lcF {α : Type} {K : PySem.W.Frag} {emb f : α → V} {zs : List α} {a : Addr} {g : TG} {vs : List Nat} (hs : SqL K H a (zs.map emb)) (hz : zs.length ≤ 1000)
    (turn : ∀ (z : α) (H1 : Hp) (R : VK), z ∈ zs → Same H H1 → (∀ H3, Same H1 H3 → R (f z) H3) → g (emb z) (wipe σ vs) H1 fun σ2 H2 => wipe σ2 vs = wipe σ vs ∧ te σ2 H2 R)
    (q : ∀ D H', New H D (.lst (zs.map f)) H' → Q (.ref D) H') : kItl K (kLc g tYes te vs σ Q) (.ref a) H := by
  refine ⟨a, rfl, ⟨_, hs⟩, fun D nD => ?_⟩
  have lz : (zs.map emb).length = zs.length := List.length_map ..
  refine lc_list (K := K) (a := a) (xs := zs.map emb) (fun i H1 => H1 D = some (.lst ((zs.take i).map f)) ∧ Same H H1) ⟨upd_same, same_upd nD⟩ (fun i H1 _ h => h.2.seq hs) (fun i x H1 hx h => ?_) (fun H1 h => ?_)
  · obtain ⟨hD, sm⟩ := h
    rw [List.getElem?_map] at hx
    cases hz2 : zs[i]? with
    | none =>
      rw [hz2] at hx
      cases hx
    | some z =>
      rw [hz2] at hx
      cases hx
      have hi : i < zs.length := (List.getElem?_eq_some_iff.mp hz2).1
      refine turn z H1 _ (List.mem_of_getElem? hz2) sm fun H3 s3 => ?_
      refine ⟨_, s3 _ _ hD, ?_, ?_, ?_⟩
      · rw [List.length_map, List.length_take]
        exact small1000 (by omega)
      · rw [upd_same, List.take_add_one, hz2, List.map_append]
        rfl
      · intro b o hb
        rw [upd_ne (ne_of_none hb nD)]
        exact s3 _ _ (sm _ _ hb)
  · obtain ⟨hD, sm⟩ := h
    rw [lz, List.take_length] at hD
    exact q D H1 ⟨nD, hD, sm⟩
/-- [e for x in range(m)], where what is made keeps an invariant of the caller's -/
theorem rd_lcR {m : Nat} {g : TG} {vs : List Nat} (I : Nat → Hp → Prop) (S : V → Prop) (hm : m ≤ 1000)
    (start : ∀ D H1, New H D (.lst []) H1 → I 0 H1) (keep : ∀ D i H1 xs, H D = none → I i H1 → H1 D ≠ none → I i (upd H1 D (.lst xs)))
    (turn : ∀ (D : Addr) (i : Nat) (H1 : Hp) (ys : List V) (R : VK), H D = none → i < m → I i H1 → H1 D = some (.lst ys) → (∀ y H3, S y → I (i + 1) H3 → H3 D = some (.lst ys) → R y H3) →
      g (.int (0 + (i : Int))) (wipe σ vs) H1 fun σ2 H2 => wipe σ2 vs = wipe σ vs ∧ te σ2 H2 R)
    (q : ∀ D H' ys, H D = none → H' D = some (.lst ys) → ys.length = m → (∀ y ∈ ys, S y) → I m H' → Q (.ref D) H') : kItr (kLc g tYes te vs σ Q) [.int (m : Int)] H := by
  refine ⟨(m : Int), rfl, by omega, by omega, fun D nD => ?_⟩
  rw [Int.toNat_natCast]
  refine lc_range (lo := 0) (n := m) (fun i H1 => I i H1 ∧ ∃ ys, H1 D = some (.lst ys) ∧ ys.length = i ∧ ∀ y ∈ ys, S y) ⟨start D _ (.of nD), [], upd_same, rfl, fun y h => nomatch h⟩ (fun i H1 hi h => ?_) (fun H1 h => ?_)
  · obtain ⟨hI, ys, hD, hl, hS⟩ := h
    refine turn D i H1 ys _ nD hi hI hD fun y H3 sy i3 d3 => ?_
    refine ⟨ys, d3, small1000 (by omega), keep D (i + 1) H3 _ nD i3 (by rw [d3]; exact Option.some_ne_none _), ys ++ [y], upd_same, ?_, ?_⟩
    · rw [List.length_append, hl]
      rfl
    · intro z hz
      rcases List.mem_append.mp hz with h | h
      · exact hS z h
      · rw [List.mem_singleton.mp h]
        exact sy
  · obtain ⟨hI, ys, hD, hl, hS⟩ := h
    exact q D H1 ys nD hD hl hS hI
theorem rd_tyes {Q : Bool → Hp → Prop} (q : Q true H) : tYes σ H Q := q
theorem rd_forT {a : Addr} {xs : List V} {g : TG} {tb : TS} (hs : SqT K H a xs) (Pv : Nat → L2.St → Hp → Prop) (h0 : Pv 0 σ H) (hl : ∀ i σ H, i ≤ xs.length → Pv i σ H → SqT K H a xs)
    (turn : ∀ i x σ H, xs[i]? = some x → Pv i σ H → g x σ H fun σ2 H2 => tb { D with nx := Pv (i + 1), ct := Pv (i + 1), bk := D.nx } σ2 H2) (hd : ∀ σ H, Pv xs.length σ H → D.nx σ H) :
    kItt K (kFor g tb D σ) (.ref a) H := ⟨a, rfl, ⟨xs, hs⟩, for_tup (K := K) (a := a) (xs := xs) Pv h0 hl turn hd⟩
/-- a comprehension over a tuple: J i acc says what holds when i items are taken and acc is made -/
theorem rd_lcT {a : Addr} {xs : List V} {g : TG} {tt : TT} {vs : List Nat} (few : xs.length ≤ 1000) (J : Nat → List V → Hp → Prop) (held : ∀ i acc H1, J i acc H1 → SqT K H1 a xs) (hs : SqT K H a xs)
    (start : ∀ D H1, New H D (.lst []) H1 → J 0 [] H1) (keep : ∀ D i acc H1 u, H D = none → J i acc H1 → J i acc (upd H1 D u))
    (turn : ∀ (D : Addr) (i : Nat) (x : V) (H1 : Hp) (acc : List V) (R : VK) (N : Hp → Prop), H D = none → xs[i]? = some x → J i acc H1 → H1 D = some (.lst acc) →
      (∀ y H3, J (i + 1) (acc ++ [y]) H3 → H3 D = some (.lst acc) → R y H3) → (∀ H3, J (i + 1) acc H3 → H3 D = some (.lst acc) → N H3) →
      g x (wipe σ vs) H1 fun σ2 H2 => wipe σ2 vs = wipe σ vs ∧ tt σ2 H2 fun b H3 => if b = true then te σ2 H3 R else N H3)
    (q : ∀ D H' acc, H D = none → H' D = some (.lst acc) → J xs.length acc H' → Q (.ref D) H') : kItt K (kLc g tt te vs σ Q) (.ref a) H := by
  refine ⟨a, rfl, ⟨xs, hs⟩, fun D nD => ?_⟩
  refine lc_tup (K := K) (a := a) (xs := xs) (fun i H1 => ∃ acc, H1 D = some (.lst acc) ∧ acc.length ≤ i ∧ J i acc H1) ⟨[], upd_same, Nat.le_refl _, start D _ (.of nD)⟩ (fun i H1 _ h => ?_) (fun i x H1 hx h => ?_) (fun H1 h => ?_)
  · obtain ⟨acc, _, _, hJ⟩ := h
    exact held i acc H1 hJ
  · obtain ⟨acc, hD, hl, hJ⟩ := h
    have hi : i < xs.length := (List.getElem?_eq_some_iff.mp hx).1
    refine turn D i x H1 acc _ _ nD hx hJ hD (fun y H3 hJ3 hD3 => ?_) (fun H3 hJ3 hD3 => ?_)
    · refine ⟨acc, hD3, small1000 (by omega), acc ++ [y], upd_same, ?_, keep D _ _ _ _ nD hJ3⟩
      rw [List.length_append]
      show acc.length + 1 ≤ i + 1
      omega
    · exact ⟨acc, hD3, by omega, hJ3⟩
  · obtain ⟨acc, hD, hl, hJ⟩ := h
    exact q D H1 acc nD hD hJ
/-- the same over a list -/
theorem rd_lcL {a : Addr} {xs : List V} {g : TG} {tt : TT} {vs : List Nat} (few : xs.length ≤ 1000) (J : Nat → List V → Hp → Prop) (held : ∀ i acc H1, J i acc H1 → SqL K H1 a xs) (hs : SqL K H a xs)
    (start : ∀ D H1, New H D (.lst []) H1 → J 0 [] H1) (keep : ∀ D i acc H1 u, H D = none → J i acc H1 → J i acc (upd H1 D u))
    (turn : ∀ (D : Addr) (i : Nat) (x : V) (H1 : Hp) (acc : List V) (R : VK) (N : Hp → Prop), H D = none → xs[i]? = some x → J i acc H1 → H1 D = some (.lst acc) →
      (∀ y H3, J (i + 1) (acc ++ [y]) H3 → H3 D = some (.lst acc) → R y H3) → (∀ H3, J (i + 1) acc H3 → H3 D = some (.lst acc) → N H3) →
      g x (wipe σ vs) H1 fun σ2 H2 => wipe σ2 vs = wipe σ vs ∧ tt σ2 H2 fun b H3 => if b = true then te σ2 H3 R else N H3)
    (q : ∀ D H' acc, H D = none → H' D = some (.lst acc) → J xs.length acc H' → Q (.ref D) H') : kItl K (kLc g tt te vs σ Q) (.ref a) H := by
  refine ⟨a, rfl, ⟨xs, hs⟩, fun D nD => ?_⟩
  refine lc_list (K := K) (a := a) (xs := xs) (fun i H1 => ∃ acc, H1 D = some (.lst acc) ∧ acc.length ≤ i ∧ J i acc H1) ⟨[], upd_same, Nat.le_refl _, start D _ (.of nD)⟩ (fun i H1 _ h => ?_) (fun i x H1 hx h => ?_) (fun H1 h => ?_)
  · obtain ⟨acc, _, _, hJ⟩ := h
    exact held i acc H1 hJ
  · obtain ⟨acc, hD, hl, hJ⟩ := h
    have hi : i < xs.length := (List.getElem?_eq_some_iff.mp hx).1
    refine turn D i x H1 acc _ _ nD hx hJ hD (fun y H3 hJ3 hD3 => ?_) (fun H3 hJ3 hD3 => ?_)
    · refine ⟨acc, hD3, small1000 (by omega), acc ++ [y], upd_same, ?_, keep D _ _ _ _ nD hJ3⟩
      rw [List.length_append]
      show acc.length + 1 ≤ i + 1
      omega
    · exact ⟨acc, hD3, by omega, hJ3⟩
  · obtain ⟨acc, hD, hl, hJ⟩ := h
    exact q D H1 acc nD hD hJ
/-- the same over range(m) -/
theorem rd_lcN {m : Nat} {g : TG} {tt : TT} {vs : List Nat} (few : m ≤ 1000) (J : Nat → List V → Hp → Prop)
    (start : ∀ D H1, New H D (.lst []) H1 → J 0 [] H1) (keep : ∀ D i acc H1 u, H D = none → J i acc H1 → J i acc (upd H1 D u))
    (turn : ∀ (D : Addr) (i : Nat) (H1 : Hp) (acc : List V) (R : VK) (N : Hp → Prop), H D = none → i < m → J i acc H1 → H1 D = some (.lst acc) →
      (∀ y H3, J (i + 1) (acc ++ [y]) H3 → H3 D = some (.lst acc) → R y H3) → (∀ H3, J (i + 1) acc H3 → H3 D = some (.lst acc) → N H3) →
      g (.int (0 + (i : Int))) (wipe σ vs) H1 fun σ2 H2 => wipe σ2 vs = wipe σ vs ∧ tt σ2 H2 fun b H3 => if b = true then te σ2 H3 R else N H3)
    (q : ∀ D H' acc, H D = none → H' D = some (.lst acc) → J m acc H' → Q (.ref D) H') : kItr (kLc g tt te vs σ Q) [.int (m : Int)] H := by
  refine ⟨(m : Int), rfl, by omega, by omega, fun D nD => ?_⟩
  rw [Int.toNat_natCast]
  refine lc_range (lo := 0) (n := m) (fun i H1 => ∃ acc, H1 D = some (.lst acc) ∧ acc.length ≤ i ∧ J i acc H1) ⟨[], upd_same, Nat.le_refl _, start D _ (.of nD)⟩ (fun i H1 hi h => ?_) (fun H1 h => ?_)
  · obtain ⟨acc, hD, hl, hJ⟩ := h
    refine turn D i H1 acc _ _ nD hi hJ hD (fun y H3 hJ3 hD3 => ?_) (fun H3 hJ3 hD3 => ?_)
    · refine ⟨acc, hD3, small1000 (by omega), acc ++ [y], upd_same, ?_, keep D _ _ _ _ nD hJ3⟩
      rw [List.length_append]
      show acc.length + 1 ≤ i + 1
      omega
    · exact ⟨acc, hD3, by omega, hJ3⟩
  · obtain ⟨acc, hD, hl, hJ⟩ := h
    exact q D H1 acc nD hD hJ
theorem rd_gtup {a : Addr} {xs : List V} {g : TGs} {Q : L2.St → Hp → Prop} (h : SqT K H a xs) (e : xs.length = n) (q : g xs σ H Q) : gTup K n g (.ref a) σ H Q := ⟨a, xs, rfl, h, e, q⟩
theorem rd_izip {t : TA} {R : It → Hp → Prop} (q : t σ H (kZip K R)) : RZ.iZipA K t σ H R := q
/-- a comprehension over zip of two tuples -/
theorem rd_lcZ {a b : Addr} {xs ys : List V} {g : TG} {tt : TT} {vs : List Nat} (hl : xs.length = ys.length) (few : xs.length ≤ 1000) (J : Nat → List V → Hp → Prop) (held : ∀ i acc H1, J i acc H1 → SqT K H1 a xs ∧ SqT K H1 b ys) (h1 : SqT K H a xs) (h2 : SqT K H b ys)
    (start : ∀ D H1, New H D (.lst []) H1 → J 0 [] H1) (keep : ∀ D i acc H1 u, H D = none → J i acc H1 → J i acc (upd H1 D u)) (keep2 : ∀ D i acc H1 u, H1 D = none → J i acc H1 → J i acc (upd H1 D u))
    (turn : ∀ (D : Addr) (i : Nat) (x y : V) (p : Addr) (H1 : Hp) (acc : List V) (R : VK) (N : Hp → Prop), H D = none → xs[i]? = some x → ys[i]? = some y → J i acc H1 → H1 D = some (.lst acc) → H1 p = some (.tup [x, y]) →
      (∀ z H3, J (i + 1) (acc ++ [z]) H3 → H3 D = some (.lst acc) → R z H3) → (∀ H3, J (i + 1) acc H3 → H3 D = some (.lst acc) → N H3) →
      g (.ref p) (wipe σ vs) H1 fun σ2 H2 => wipe σ2 vs = wipe σ vs ∧ tt σ2 H2 fun b H3 => if b = true then te σ2 H3 R else N H3)
    (q : ∀ D H' acc, H D = none → H' D = some (.lst acc) → J xs.length acc H' → Q (.ref D) H') : kZip K (kLc g tt te vs σ Q) [.ref a, .ref b] H := by
  refine ⟨a, b, xs, ys, rfl, .inr ⟨h1, h2, fun D nD => ?_⟩⟩
  refine ⟨fun i m H1 => m = xs.length - i ∧ i ≤ xs.length ∧ ∃ acc, H1 D = some (.lst acc) ∧ acc.length ≤ i ∧ J i acc H1, ⟨xs.length, rfl, Nat.zero_le _, [], upd_same, Nat.le_refl _, start D _ (.of nD)⟩, ?_⟩
  rintro i m H1 ⟨rfl, hi, acc, hD, hacc, hJ⟩
  obtain ⟨s1, s2⟩ := held i acc H1 hJ
  by_cases lt : i < xs.length
  · have lt2 : i < ys.length := by omega
    refine .inr ⟨⟨xs, ys, xs[i], ys[i], s1, s2, List.getElem?_eq_getElem lt, List.getElem?_eq_getElem lt2⟩, fun H' => ∃ acc, H' D = some (.lst acc) ∧ acc.length ≤ i + 1 ∧ J (i + 1) acc H', fun H' h => ⟨xs.length - (i + 1), by omega, rfl, lt, h⟩, ?_⟩
    rintro x H' ⟨T, x1, y1, rfl, nT, rfl, e1, e2⟩
    have DT : D ≠ T := ne_of_none hD nT
    refine turn D i x1 y1 T _ acc _ _ nD (e1 _ s1) (e2 _ s2) (keep2 T i acc H1 _ nT hJ) (by rw [upd_ne DT]; exact hD) upd_same (fun z H3 hJ3 hD3 => ?_) (fun H3 hJ3 hD3 => ?_)
    · refine ⟨acc, hD3, small1000 (by omega), acc ++ [z], upd_same, ?_, keep D _ _ _ _ nD hJ3⟩
      rw [List.length_append]
      show acc.length + 1 ≤ i + 1
      omega
    · exact ⟨acc, hD3, by omega, hJ3⟩
  · have e : i = xs.length := by omega
    subst e
    exact .inl ⟨⟨xs, ys, s1, s2, .inl (Nat.le_refl _)⟩, q D H1 acc nD hD hJ⟩
theorem rd_sorted2 {p : Addr} {x y : Int} (h : SqL K H p [.int x, .int y]) (q : ∀ (a b : Int) (l : Addr) (H' : Hp), a ≤ b → (a = x ∧ b = y ∨ a = y ∧ b = x) → New H l (.lst [.int a, .int b]) H' → Q (.ref l) H') : rSorted K [.ref p] H Q := by
  refine ⟨p, [x, y], rfl, h, by show 2 < 64; decide, fun ns l perm ord nl => ?_⟩
  match ns, perm.length_eq, perm, ord with
  | [a, b], _, perm, ord =>
    have hab : a ≤ b := by
      cases ord with
      | cons h _ => exact h b (List.mem_singleton.mpr rfl)
    have ha : a ∈ [x, y] := perm.subset List.mem_cons_self
    refine q a b l _ hab ?_ (.of nl)
    simp only [List.mem_cons, List.not_mem_nil, or_false] at ha
    rcases ha with rfl | rfl
    · exact .inl ⟨rfl, List.mem_singleton.mp ((List.Perm.cons_inv perm).subset List.mem_cons_self)⟩
    · exact .inr ⟨rfl, List.mem_singleton.mp ((List.Perm.cons_inv (perm.trans (List.Perm.swap ..))).subset List.mem_cons_self)⟩
theorem rd_repI (h : i.natAbs.log2 < 1920) (q : Q (.str (toString i)) H) : rRepI [.int i] H Q := ⟨i, rfl, h, q⟩
theorem rd_max2 (q : Q (.int (if j > i then j else i)) H) : rMx2 [.int i, .int j] H Q := ⟨i, j, rfl, q⟩
theorem rd_min2 (q : Q (.int (if j < i then j else i)) H) : rMn2 [.int i, .int j] H Q := ⟨i, j, rfl, q⟩
theorem rd_brT {b : Bool} {A B : Prop} (h : b = true) (q : A) : if b = true then A else B := by rw [if_pos h]; exact q
theorem rd_brF {b : Bool} {A B : Prop} (h : b = false) (q : B) : if b = true then A else B := by rw [if_neg (by rw [h]; decide)]; exact q
theorem rd_ixT {p : Addr} {xs : List V} (h : SqT K H p xs) (e : atI xs i = some v) (q : Q v H) : rIxT K (.ref p) (.int i) H Q := ⟨p, xs, i, v, rfl, rfl, h, e, q⟩
theorem rd_ixD {w : World} {p : Addr} {z : Str} (h : KDct K w p z v) (q : Q v H) : rIxD K w (.ref p) (.str z) H Q := ⟨p, z, v, rfl, rfl, h, q⟩
theorem rd_inD {w : World} {p : Addr} {z : Str} {b : Bool} (h : KHas K w p z b) (q : Q (.bl b) H) : rInD K w (.str z) (.ref p) H Q := ⟨z, p, b, rfl, rfl, h, q⟩
theorem rd_slT {a : Addr} {xs : List V} {lo hi : Option Int} (h : SqT K H a xs) (part : HT.sIx xs.length 0 lo ≠ 0) (q : ∀ p H', New H p (.tup (cutV xs lo hi)) H' → Q (.ref p) H') : rSlT K (.ref a) lo hi H Q :=
  ⟨a, xs, rfl, h, fun z => part z.1, fun p n => q p _ (.of n)⟩
theorem rd_sum {p : Addr} {ns : List Int} (h : SqL K H p (ns.map V.int)) (q : Q (.int ns.sum) H) : rSum K [.ref p] H Q := ⟨p, ns, rfl, h, q⟩
theorem rd_isiT {p : Addr} {xs : List V} (h : H p = some (.tup xs)) (q : Q (.bl true) H) : rIsi K [.ref p, .ty "tuple"] H Q :=
  ⟨_, _, _, _, true, rfl, .ty _, .base (.tup h), kit_ty (by decide +kernel), q⟩
theorem rd_isiI (q : Q (.bl false) H) : rIsi K [.int i, .ty "tuple"] H Q :=
  ⟨_, _, _, _, false, rfl, .ty _, .base (.int i), kit_ty (by decide +kernel), q⟩
theorem rd_in {neg : Bool} {p : Addr} {xs : List V} (h : SqT K H p xs) (hx : flatV x = true) (ha : xs.all flatV = true) (q : Q (.bl (if neg then !inV x xs else inV x xs)) H) : rIn K neg x (.ref p) H Q :=
  ⟨p, xs, rfl, .inr h, hx, ha, q⟩
end
/-! ### data: repr and == -/
mutual
def cost : PyData → Nat
  | .none => 8
  | .bool _ => 8
  | .int _ => 1925
  | .str x => (reprText x).length
  | .list xs => costAll xs + 3
  | .tuple xs => costAll xs + 3
  | .dict _ => 0
def costAll : List PyData → Nat
  | [] => 0
  | x :: xs => cost x + 2 + costAll xs
end
mutual
theorem shown_cost : ∀ d : PyData, d.showable = true → d.hasDict = false → d.shown.length ≤ cost d
  | .none, _, _ => by
    show (PyData.shown .none).length ≤ 8
    decide
  | .bool b, _, _ => by
    show (PyData.shown (.bool b)).length ≤ 8
    cases b <;> decide
  | .int i, h, _ => by
    have h' : i.natAbs.log2 < 1920 := by simpa [PyData.showable] using h
    have := int_text_len_1921 h'
    show (PyData.shown (.int i)).length ≤ 1925
    simp only [PyData.shown]
    show (PySem.Str.ofString (toString i)).length ≤ 1925
    omega
  | .str x, _, _ => by
    simp only [PyData.shown, cost]
    exact Nat.le_refl _
  | .list xs, h, nd => by
    have a := shownAll_cost xs (by simpa [PyData.showable] using h) (by simpa [PyData.hasDict] using nd)
    have b := listText_len_le (PyData.shownAll xs)
    have c := PyData.shownAll_length xs
    simp only [PyData.shown, cost]
    omega
  | .tuple xs, h, nd => by
    have a := shownAll_cost xs (by simpa [PyData.showable] using h) (by simpa [PyData.hasDict] using nd)
    have b := tupleText_len_le (PyData.shownAll xs)
    have c := PyData.shownAll_length xs
    simp only [PyData.shown, cost]
    omega
  | .dict _, _, nd => by
    simp [PyData.hasDict] at nd
theorem shownAll_cost : ∀ xs : List PyData, PyData.showableAll xs = true → PyData.hasDictAll xs = false → ((PyData.shownAll xs).map (·.length)).sum + 2 * xs.length ≤ costAll xs
  | [], _, _ => by
    simp [PyData.shownAll, costAll]
  | x :: xs, h, nd => by
    have h' : x.showable = true ∧ PyData.showableAll xs = true := by simpa [PyData.showableAll] using h
    have n' : x.hasDict = false ∧ PyData.hasDictAll xs = false := by simpa [PyData.hasDictAll] using nd
    have a := shown_cost x h'.1 n'.1
    have b := shownAll_cost xs h'.2 n'.2
    simp only [PyData.shownAll, costAll, List.map_cons, List.sum_cons, List.length_cons]
    omega
end
/-- a datum that may be shown and compared -/
structure Shows (d : PyData) : Prop where
  show_ : d.showable = true
  flat : d.hasDict = false
  deep : d.depth ≤ 60
  small : cost d ≤ 4000000
  lay : d.canLay0 = true
theorem Shows.shaped {d : PyData} (h : Shows d) : SeqAt.shaped d = true := by
  unfold SeqAt.shaped
  rw [h.lay, decide_eq_true (Nat.le_trans h.deep (by decide))]
  rfl
theorem Shows.size {d : PyData} (h : Shows d) : d.shown.length ≤ sizeLine := Nat.le_trans (shown_cost d h.show_ h.flat) (Nat.le_trans h.small (by rw [sizeLine_eq]; decide))
section
variable {K : PySem.W.Frag} {H : Hp} {Q : VK}
theorem rd_repr {p : Addr} {d : PyData} (h : Dp K H (.ref p) d) (s : Shows d) (q : Q (.str d.shown) H) : rRepr K [.ref p] H Q := ⟨p, d, rfl, h, s.show_, s.flat, Nat.le_trans s.deep (by decide), s.size, q⟩
theorem rd_eqSame {x y : V} {d : PyData} (h1 : Dp K H x d) (h2 : Dp K H y d) (s : Shows d) (q : Q (.bl true) H) : rEqD K x y H Q := by
  refine ⟨d, d, h1, h2, s.shaped, s.shaped, ?_⟩
  rw [SeqAt.eqv_refl d s.lay]
  exact q
theorem rd_neSame {x y : V} {d : PyData} (h1 : Dp K H x d) (h2 : Dp K H y d) (s : Shows d) (q : Q (.bl false) H) : rNeD K x y H Q := by
  refine ⟨d, d, h1, h2, s.shaped, s.shaped, ?_⟩
  rw [SeqAt.eqv_refl d s.lay]
  exact q
theorem dp_ints : ∀ ns : List Int, DpAll K H (ns.map V.int) (ns.map PyData.int)
  | [] => .nil
  | n :: ns => .cons (.int n) (dp_ints ns)
theorem shows_ints {ns : List Int} (few : ns.length ≤ 1000) (h : ∀ n ∈ ns, n.natAbs.log2 < 1920) : Shows (.list (ns.map PyData.int)) := by
  have a : PyData.showableAll (ns.map PyData.int) = true ∧ PyData.hasDictAll (ns.map PyData.int) = false ∧ PyData.depthAll (ns.map PyData.int) = 0 ∧ costAll (ns.map PyData.int) = 1927 * ns.length ∧ PyData.canLayAll0 (ns.map PyData.int) = true := by
    clear few
    induction ns with
    | nil => simp [PyData.showableAll, PyData.hasDictAll, PyData.depthAll, costAll, PyData.canLayAll0]
    | cons n ns ih =>
      obtain ⟨a, b, c, d, e⟩ := ih fun m hm => h m (List.mem_cons_of_mem _ hm)
      have hn := h n List.mem_cons_self
      refine ⟨?_, ?_, ?_, ?_, ?_⟩
      · simp only [List.map_cons, PyData.showableAll, PyData.showable, a, decide_eq_true hn, Bool.and_self]
      · simp only [List.map_cons, PyData.hasDictAll, PyData.hasDict, b, Bool.or_self]
      · simp only [List.map_cons, PyData.depthAll, PyData.depth, c, Nat.max_self]
      · simp only [List.map_cons, costAll, cost, d, List.length_cons]
        omega
      · simp only [List.map_cons, PyData.canLayAll0, PyData.canLay0, e, Bool.and_self]
  obtain ⟨a, b, c, d, e⟩ := a
  refine ⟨?_, ?_, ?_, ?_, ?_⟩
  · simpa only [PyData.showable] using a
  · simpa only [PyData.hasDict] using b
  · simp only [PyData.depth, c]
    decide
  · simp only [cost, d]
    omega
  · simpa only [PyData.canLay0] using e
end

end Lw

set_option Elab.async false
set_option linter.all false
set_option maxRecDepth 100000
set_option maxHeartbeats 4000000
/-! data: what is known of the slots of a def, of values under way, and of the heap, told by data alone -/
namespace Dl
open PySem PySem.Spec PyProof.Rows L2 Glay Lw

/-! ### data that a value stands for -/
/-- the data of an instance: its class, its attributes -/
def isObj : List (PyData × PyData) → Bool
  | (.none, .int _) :: _ => true
  | _ => false
/-- what isinstance says of a class's instances -/
structure OC (K : PySem.W.Frag) (C : Addr) : Prop where
  cl : Cls K C
  ha : PySem.W.findIn K (.ref C) "__class__" = some (some (.builtin "object.__class__"))
  hn : PySem.W.specialIn K (.builtin "object.__class__") "__get__" = some (some (.builtin "getset_descriptor.__get__"))
  ht : PySem.W.takesIn K (.builtin "object.__class__") = some true
  hm : PySem.W.mroIn K C (.type "object") = some true
  no : ∀ m, m ∈ (["tuple", "list", "int", "bool", "str"] : List String) → PySem.W.kitOne K (.ref C) (.type m) = some false
mutual
inductive Dq (K : PySem.W.Frag) (H : Hp) : V → PyData → Prop
  | non : Dq K H .non .none
  | bl (b : Bool) : Dq K H (.bl b) (.bool b)
  | int (i : Int) : Dq K H (.int i) (.int i)
  | str (x : Str) : Dq K H (.str x) (.str x)
  | lst {a : Addr} {xs : List V} {ds : List PyData} : H a = some (.lst xs) → DqAll K H xs ds → Dq K H (.ref a) (.list ds)
  | tup {a : Addr} {xs : List V} {ds : List PyData} : SqT K H a xs → DqAll K H xs ds → Dq K H (.ref a) (.tuple ds)
  | dct {a : Addr} {kvs : List (L2.Key × V)} {ps : List (PyData × PyData)} : H a = some (.dK kvs) → DqKv K H kvs ps → Dq K H (.ref a) (.dict ps)
  | obj {a C dx : Addr} {us : List (Str × V)} {ps : List (PyData × PyData)} : OC K C → H a = some (.ins C dx us) → DqFs K H us ps → Dq K H (.ref a) (.dict ((.none, .int (C : Int)) :: ps))
inductive DqKv (K : PySem.W.Frag) (H : Hp) : List (L2.Key × V) → List (PyData × PyData) → Prop
  | nil : DqKv K H [] []
  | int {i : Int} {v : V} {kvs : List (L2.Key × V)} {d : PyData} {ps : List (PyData × PyData)} : Dq K H v d → DqKv K H kvs ps → DqKv K H ((.inl i, v) :: kvs) ((.int i, d) :: ps)
  | str {z : Str} {v : V} {kvs : List (L2.Key × V)} {d : PyData} {ps : List (PyData × PyData)} : Dq K H v d → DqKv K H kvs ps → DqKv K H ((.inr z, v) :: kvs) ((.str z, d) :: ps)
inductive DqFs (K : PySem.W.Frag) (H : Hp) : List (Str × V) → List (PyData × PyData) → Prop
  | nil : DqFs K H [] []
  | cons {f : Str} {v : V} {us : List (Str × V)} {d : PyData} {ps : List (PyData × PyData)} : Dq K H v d → DqFs K H us ps → DqFs K H ((f, v) :: us) ((.str f, d) :: ps)
inductive DqAll (K : PySem.W.Frag) (H : Hp) : List V → List PyData → Prop
  | nil : DqAll K H [] []
  | cons {v : V} {vs : List V} {d : PyData} {ds : List PyData} : Dq K H v d → DqAll K H vs ds → DqAll K H (v :: vs) (d :: ds)
end
theorem sameT {K : PySem.W.Frag} {H H' : Hp} {a : Addr} {xs : List V} (e : Same H H') (h : SqT K H a xs) : SqT K H' a xs := by
  rcases h with (h | ⟨o, h⟩) | h
  · exact .inl (.inl (e _ _ h))
  · exact .inl (.inr ⟨o, e _ _ h⟩)
  · exact .inr h
mutual
theorem Dq.mono {K : PySem.W.Frag} {H H' : Hp} (e : Same H H') : ∀ {v : V} (d : PyData), Dq K H v d → Dq K H' v d
  | _, .none, h => by cases h; exact .non
  | _, .bool b, h => by cases h; exact .bl b
  | _, .int i, h => by cases h; exact .int i
  | _, .str x, h => by cases h; exact .str x
  | _, .list ds, h => by
    cases h with
    | lst h q => exact .lst (e _ _ h) (DqAll.mono e ds q)
  | _, .tuple ds, h => by
    cases h with
    | tup h q => exact .tup (sameT e h) (DqAll.mono e ds q)
  | _, .dict [], h => by
    cases h with
    | dct h z => exact .dct (e _ _ h) (DqKv.mono e [] z)
  | _, .dict ((k, d) :: ps), h => by
    cases h with
    | dct h z => exact .dct (e _ _ h) (DqKv.mono e ((k, d) :: ps) z)
    | obj O h q => exact .obj O (e _ _ h) (DqFs.mono e ps q)
theorem DqKv.mono {K : PySem.W.Frag} {H H' : Hp} (e : Same H H') : ∀ {kvs : List (L2.Key × V)} (ps : List (PyData × PyData)), DqKv K H kvs ps → DqKv K H' kvs ps
  | _, [], h => by cases h; exact .nil
  | _, (_, d) :: ps, h => by
    cases h with
    | int h q => exact .int (Dq.mono e d h) (DqKv.mono e ps q)
    | str h q => exact .str (Dq.mono e d h) (DqKv.mono e ps q)
theorem DqFs.mono {K : PySem.W.Frag} {H H' : Hp} (e : Same H H') : ∀ {us : List (Str × V)} (ps : List (PyData × PyData)), DqFs K H us ps → DqFs K H' us ps
  | _, [], h => by cases h; exact .nil
  | _, (_, d) :: ps, h => by
    cases h with
    | cons h q => exact .cons (Dq.mono e d h) (DqFs.mono e ps q)
theorem DqAll.mono {K : PySem.W.Frag} {H H' : Hp} (e : Same H H') : ∀ {vs : List V} (ds : List PyData), DqAll K H vs ds → DqAll K H' vs ds
  | _, [], h => by cases h; exact .nil
  | _, d :: ds, h => by
    cases h with
    | cons h q => exact .cons (Dq.mono e d h) (DqAll.mono e ds q)
end
mutual
theorem Dq.dp {K : PySem.W.Frag} {H : Hp} : ∀ {v : V} (d : PyData), d.canLay0 = true → Dq K H v d → Dp K H v d
  | _, .none, _, h => by cases h; exact .non
  | _, .bool b, _, h => by cases h; exact .bl b
  | _, .int i, _, h => by cases h; exact .int i
  | _, .str x, _, h => by cases h; exact .str x
  | _, .list ds, l, h => by
    cases h with
    | lst h q => exact .lst (SqL.of h) (DqAll.dp ds (by simpa only [PyData.canLay0] using l) q)
  | _, .tuple ds, l, h => by
    cases h with
    | tup h q => exact .tup h (DqAll.dp ds (by simpa only [PyData.canLay0] using l) q)
  | _, .dict _, l, h => by simp only [PyData.canLay0, Bool.false_eq_true] at l
theorem DqAll.dp {K : PySem.W.Frag} {H : Hp} : ∀ {vs : List V} (ds : List PyData), PyData.canLayAll0 ds = true → DqAll K H vs ds → DpAll K H vs ds
  | _, [], _, h => by cases h; exact .nil
  | _, d :: ds, l, h => by
    simp only [PyData.canLayAll0, Bool.and_eq_true] at l
    cases h with
    | cons h q => exact .cons (Dq.dp d l.1 h) (DqAll.dp ds l.2 q)
end
section
variable {K : PySem.W.Frag} {H : Hp}
theorem DqAll.len : ∀ {vs : List V} {ds : List PyData}, DqAll K H vs ds → vs.length = ds.length
  | _, _, .nil => rfl
  | _, _, .cons _ t => congrArg (· + 1) t.len
theorem DqAll.append : ∀ {vs ws : List V} {ds es : List PyData}, DqAll K H vs ds → DqAll K H ws es → DqAll K H (vs ++ ws) (ds ++ es)
  | _, _, _, _, .nil, s => s
  | _, _, _, _, .cons h t, s => .cons h (t.append s)
theorem DqAll.get : ∀ {vs : List V} {ds : List PyData} {i : Nat} {d : PyData}, DqAll K H vs ds → ds[i]? = some d → ∃ v, vs[i]? = some v ∧ Dq K H v d
  | _, _, _, _, .nil, e => by simp at e
  | _, _, 0, _, .cons h _, e => by
    simp at e
    subst e
    exact ⟨_, rfl, h⟩
  | _, _, i + 1, d, .cons _ t, e => by
    obtain ⟨v, h1, h2⟩ := DqAll.get (i := i) (d := d) t (by simpa using e)
    exact ⟨v, by simpa using h1, h2⟩
theorem DqAll.back : ∀ {vs : List V} {ds : List PyData} {i : Nat} {v : V}, DqAll K H vs ds → vs[i]? = some v → ∃ d, ds[i]? = some d ∧ Dq K H v d
  | _, _, _, _, .nil, e => by simp at e
  | _, _, 0, _, .cons h _, e => by
    simp at e
    subst e
    exact ⟨_, rfl, h⟩
  | _, _, i + 1, v, .cons _ t, e => by
    obtain ⟨d, h1, h2⟩ := DqAll.back (i := i) (v := v) t (by simpa using e)
    exact ⟨d, by simpa using h1, h2⟩
theorem DqAll.set {v : V} {d : PyData} (h : Dq K H v d) : ∀ {vs : List V} {ds : List PyData} (i : Nat), DqAll K H vs ds → DqAll K H (vs.set i v) (ds.set i d)
  | _, _, _, .nil => .nil
  | _, _, 0, .cons _ t => .cons h t
  | _, _, i + 1, .cons q t => .cons q (t.set h i)
theorem DqAll.take : ∀ {vs : List V} {ds : List PyData} (n : Nat), DqAll K H vs ds → DqAll K H (vs.take n) (ds.take n)
  | _, _, 0, _ => .nil
  | _, _, _ + 1, .nil => .nil
  | _, _, n + 1, .cons h t => .cons h (t.take n)
theorem DqAll.drop : ∀ {vs : List V} {ds : List PyData} (n : Nat), DqAll K H vs ds → DqAll K H (vs.drop n) (ds.drop n)
  | _, _, 0, h => h
  | _, _, _ + 1, .nil => .nil
  | _, _, n + 1, .cons _ t => t.drop n
theorem DqAll.ints : ∀ ns : List Int, DqAll K H (ns.map V.int) (ns.map PyData.int)
  | [] => .nil
  | n :: ns => .cons (.int n) (.ints ns)
theorem DqAll.ints_of : ∀ {vs : List V} {ns : List Int}, DqAll K H vs (ns.map PyData.int) → vs = ns.map V.int
  | _, [], h => by cases h; rfl
  | _, n :: ns, h => by
    cases h with
    | cons h t =>
      cases h
      rw [t.ints_of]
      rfl
theorem DqAll.bools_of : ∀ {vs : List V} {bs : List Bool}, DqAll K H vs (bs.map PyData.bool) → vs = bs.map V.bl
  | _, [], h => by cases h; rfl
  | _, n :: ns, h => by
    cases h with
    | cons h t =>
      cases h
      rw [t.bools_of]
      rfl
theorem DqAll.rep : ∀ {vs : List V} {ds : List PyData} (n : Nat), DqAll K H vs ds → DqAll K H (List.replicate n vs).flatten (List.replicate n ds).flatten
  | _, _, 0, _ => .nil
  | _, _, n + 1, h => by
    rw [List.replicate_succ, List.replicate_succ, List.flatten_cons, List.flatten_cons]
    exact h.append (h.rep n)
end

/-! ### what is known of a value -/
inductive Sl where
  | any
  | dat (d : PyData)
  /-- a list of one's own, that no other value reaches -/
  | own (p : Addr) (xs : List PyData)
  /-- the state of the draws -/
  | drw
  | raw (v : V)
  /-- a list, a tuple, by its very items -/
  | pin (us : List V)
  | pinT (us : List V)
  /-- a range -/
  | rg (lo hi : Int)
/-- where one stands: the state of the draws, what others hold, the heap at the def's beginning -/
structure Pa where
  dr : Option (Addr × Addr × Addr)
  O : Addr → Prop
  H0 : Hp
  /-- the tables of code objects, and the name that each one's objects bear -/
  tb : List (Addr × Str)
def Sl.has (p : Addr) : Sl → Nat
  | .own q _ => if q = p then 1 else 0
  | _ => 0
def cnt (p : Addr) : List Sl → Nat
  | [] => 0
  | s :: ss => s.has p + cnt p ss
theorem cnt_append {p : Addr} : ∀ xs ys : List Sl, cnt p (xs ++ ys) = cnt p xs + cnt p ys
  | [], ys => by simp [cnt]
  | x :: xs, ys => by
    simp only [List.cons_append, cnt, cnt_append xs ys]
    omega
theorem cnt_set {p : Addr} {s : Sl} : ∀ (xs : List Sl) (i : Nat), cnt p (xs.set i s) ≤ cnt p xs + s.has p
  | [], _ => by simp [cnt]
  | x :: xs, 0 => by
    simp only [List.set_cons_zero, cnt]
    omega
  | x :: xs, i + 1 => by
    have := cnt_set (p := p) (s := s) xs i
    simp only [List.set_cons_succ, cnt]
    omega
theorem cnt_at {p : Addr} : ∀ {xs : List Sl} {i : Nat} {s : Sl}, xs[i]? = some s → s.has p ≤ cnt p xs
  | [], _, _, e => by simp at e
  | x :: xs, 0, s, e => by
    simp at e
    subst e
    simp only [cnt]
    omega
  | x :: xs, i + 1, s, e => by
    have := cnt_at (p := p) (xs := xs) (i := i) (s := s) (by simpa using e)
    simp only [cnt]
    omega
theorem cnt_put {p : Addr} {s u : Sl} : ∀ {xs : List Sl} {i : Nat}, xs[i]? = some s → cnt p (xs.set i u) + s.has p = cnt p xs + u.has p
  | [], _, e => by simp at e
  | x :: xs, 0, e => by
    simp at e
    subst e
    simp only [List.set_cons_zero, cnt]
    omega
  | x :: xs, i + 1, e => by
    have := cnt_put (p := p) (s := s) (u := u) (xs := xs) (i := i) (by simpa using e)
    simp only [List.set_cons_succ, cnt]
    omega
theorem has_self {p : Addr} {xs : List PyData} : (Sl.own p xs).has p = 1 := if_pos rfl
theorem has_le {p : Addr} : ∀ {s : Sl}, s.has p ≤ 1
  | .own q _ => by
    show (if q = p then 1 else 0) ≤ 1
    split <;> omega
  | .any => Nat.zero_le _
  | .dat _ => Nat.zero_le _
  | .drw => Nat.zero_le _
  | .raw _ => Nat.zero_le _
  | .pin _ => Nat.zero_le _
  | .pinT _ => Nat.zero_le _
  | .rg _ _ => Nat.zero_le _
/-- what must not be reached by data -/
def Pr (G : Pa) (δ τ : List Sl) (b : Addr) : Prop := G.O b ∨ 0 < cnt b δ + cnt b τ
open Classical in
noncomputable def hid (O : Addr → Prop) (H : Hp) : Hp := fun b => if O b then none else H b
theorem hid_off {O : Addr → Prop} {H : Hp} {b : Addr} (h : ¬ O b) : hid O H b = H b := if_neg h
theorem hid_on {O : Addr → Prop} {H : Hp} {b : Addr} (h : O b) : hid O H b = none := if_pos h
theorem hid_le {O : Addr → Prop} {H : Hp} : Same (hid O H) H := fun b o e => by
  by_cases h : O b
  · rw [hid_on h] at e
    cases e
  · rwa [hid_off h] at e
theorem hid_mono {O O' : Addr → Prop} {H : Hp} (l : ∀ b, O' b → O b) : Same (hid O H) (hid O' H) := fun b o e => by
  by_cases h : O b
  · rw [hid_on h] at e
    cases e
  · rw [hid_off fun z => h (l b z)]
    rwa [hid_off h] at e
theorem hid_same {O : Addr → Prop} {H H' : Hp} (l : ∀ b o, ¬ O b → H b = some o → H' b = some o) : Same (hid O H) (hid O H') := fun b o e => by
  by_cases h : O b
  · rw [hid_on h] at e
    cases e
  · rw [hid_off h] at e ⊢
    exact l b o h e
def RV (K : PySem.W.Frag) (G : Pa) (O : Addr → Prop) (H : Hp) : Sl → V → Prop
  | .any, _ => True
  | .dat d, v => Dq K (hid O H) v d
  | .own p xs, v => v = .ref p ∧ ∃ us, H p = some (.lst us) ∧ DqAll K (hid O H) us xs
  | .drw, v => ∃ d r c, G.dr = some (d, r, c) ∧ v = .ref d
  | .raw u, v => v = u
  | .pin us, v => ∃ a, v = .ref a ∧ hid O H a = some (.lst us)
  | .pinT us, v => ∃ a, v = .ref a ∧ SqT K (hid O H) a us
  | .rg lo hi, v => ∃ a, v = .ref a ∧ hid O H a = some (.rng lo hi)
def RS (K : PySem.W.Frag) (G : Pa) (O : Addr → Prop) (H : Hp) (s : Sl) (o : Option V) : Prop := s = .any ∨ ∃ v, o = some v ∧ RV K G O H s v
def isDr (G : Pa) (b : Addr) : Prop := (∃ d r c, G.dr = some (d, r, c) ∧ (b = d ∨ b = r)) ∨ ∃ q, (b, q) ∈ G.tb
/-- all but the state of the draws is as it was -/
def Frm (G : Pa) (H H' : Hp) : Prop := ∀ b o, ¬ isDr G b → H b = some o → H' b = some o
theorem Frm.of {G : Pa} {H H' : Hp} (s : Same H H') : Frm G H H' := fun b o _ e => s b o e
theorem Frm.trans {G : Pa} {H H1 H2 : Hp} (a : Frm G H H1) (b : Frm G H1 H2) : Frm G H H2 := fun x o n e => b x o n (a x o n e)
/-- the state of the draws: the list at d, the rests at r, so many draws -/
def Dr (H : Hp) (d r c : Addr) (t : Int) : Prop := ∃ (cells rests : List Int), d ≠ r ∧ c ≠ d ∧ c ≠ r ∧ H d = some (.lst [.ref c, .int t, .ref r]) ∧ H c = some (.lst (cells.map V.int)) ∧
  H r = some (.lst (rests.map V.int)) ∧ rests.length = cells.length ∧ 0 < cells.length ∧ cells.length ≤ 63 ∧ 0 ≤ t
theorem Dr.same {H H' : Hp} {d r c : Addr} {t : Int} (D : Dr H d r c t) (s : Same H H') : Dr H' d r c t := by
  obtain ⟨cells, rests, h1, h2, h3, h4, h5, h6, h⟩ := D
  exact ⟨cells, rests, h1, h2, h3, s _ _ h4, s _ _ h5, s _ _ h6, h⟩
def TbOk (G : Pa) (H : Hp) : Prop := ∀ P q, (P, q) ∈ G.tb → G.O P ∧ LamX.TabS H P q
/-- only lists change -/
theorem TbOk.keep {G : Pa} {H H' : Hp} (T : TbOk G H) (k : ∀ b o, H b = some o → (∀ xs, o ≠ .lst xs) → H' b = some o) : TbOk G H' := fun P q m => by
  obtain ⟨o, ps, a1, a2, a3⟩ := T P q m
  refine ⟨o, ps, k _ _ a1 (fun xs z => by cases z), a2, fun pos cv hc => ?_⟩
  obtain ⟨c, b1, b2⟩ := a3 pos cv hc
  exact ⟨c, b1, k _ _ b2 fun xs z => by
    unfold LamX.CodeO at z
    cases z⟩
theorem TbOk.same {G : Pa} {H H' : Hp} (T : TbOk G H) (s : Same H H') : TbOk G H' := T.keep fun b o e _ => s b o e
def DrOk (G : Pa) (H : Hp) (t : Nat) : Prop := (∀ d r c, G.dr = some (d, r, c) → G.O d ∧ G.O r ∧ G.O c ∧ ∃ t' : Int, t' ≤ t ∧ Dr H d r c t') ∧ TbOk G H
theorem DrOk.dr {G : Pa} {H : Hp} {t : Nat} (D : DrOk G H t) {b : Addr} (h : isDr G b) : G.O b ∧ H b ≠ none := by
  rcases h with ⟨d, r, c, e, hb⟩ | ⟨q, m⟩
  rotate_left
  · obtain ⟨o, ps, a1, _⟩ := D.2 b q m
    exact ⟨o, by rw [a1]; exact Option.some_ne_none _⟩
  obtain ⟨od, o_r, oc, t', _, cells, rests, h1, h2, h3, h4, h5, h6, _⟩ := D.1 d r c e
  rcases hb with rfl | rfl
  · exact ⟨od, by rw [h4]; exact Option.some_ne_none _⟩
  · exact ⟨o_r, by rw [h6]; exact Option.some_ne_none _⟩
theorem DrOk.same {G : Pa} {H H' : Hp} {t t' : Nat} (D : DrOk G H t) (s : Same H H') (l : t ≤ t') : DrOk G H' t' := ⟨fun d r c e => by
  obtain ⟨od, o_r, oc, u, hu, h⟩ := D.1 d r c e
  exact ⟨od, o_r, oc, u, by omega, h.same s⟩, D.2.same s⟩
/-- the slots hold δ, the values under way τ -/
structure Rl (K : PySem.W.Frag) (G : Pa) (δ τ : List Sl) (t : Nat) (σ : L2.St) (vs : List V) (H : Hp) : Prop where
  sl : Paired (fun s o => RS K G (Pr G δ τ) H s o) δ σ
  tm : Paired (fun s v => RV K G (Pr G δ τ) H s v) τ vs
  nd : ∀ p, cnt p δ + cnt p τ ≤ 1
  off : ∀ p, 0 < cnt p δ + cnt p τ → ¬ G.O p
  new : ∀ p, 0 < cnt p δ + cnt p τ → G.H0 p = none
  live : ∀ b, G.O b → H b ≠ none
  old : Frm G G.H0 H
  dw : DrOk G H t
section
variable {α β : Type} {F : α → β → Prop}
theorem pget : ∀ {xs : List α} {ys : List β} {i : Nat} {x : α}, Paired F xs ys → xs[i]? = some x → ∃ y, ys[i]? = some y ∧ F x y
  | _, _, _, _, .nil, e => by simp at e
  | _, _, 0, _, .cons h _, e => by
    simp at e
    subst e
    exact ⟨_, rfl, h⟩
  | _, _, i + 1, x, .cons _ t, e => by
    obtain ⟨y, h1, h2⟩ := pget (i := i) (x := x) t (by simpa using e)
    exact ⟨y, by simpa using h1, h2⟩
theorem pset {x : α} {y : β} (h : F x y) : ∀ {xs : List α} {ys : List β} (i : Nat), Paired F xs ys → Paired F (xs.set i x) (ys.set i y)
  | _, _, _, .nil => .nil
  | _, _, 0, .cons _ t => .cons h t
  | _, _, i + 1, .cons q t => .cons q (pset h i t)
theorem pset1 {x : α} : ∀ {xs : List α} {ys : List β} (i : Nat), Paired F xs ys → (∀ y, ys[i]? = some y → F x y) → Paired F (xs.set i x) ys
  | _, _, _, .nil, _ => .nil
  | _, _, 0, .cons _ t, h => .cons (h _ rfl) t
  | _, _, i + 1, .cons q t, h => .cons q (pset1 i t fun y e => h y (by simpa using e))
theorem plen : ∀ {xs : List α} {ys : List β}, Paired F xs ys → xs.length = ys.length
  | _, _, .nil => rfl
  | _, _, .cons _ t => congrArg (· + 1) (plen t)
theorem papp : ∀ {xs xs' : List α} {ys ys' : List β}, Paired F xs ys → Paired F xs' ys' → Paired F (xs ++ xs') (ys ++ ys')
  | _, _, _, _, .nil, s => s
  | _, _, _, _, .cons h t, s => .cons h (papp t s)
theorem pmap {G : α → β → Prop} : ∀ {xs : List α} {ys : List β}, Paired F xs ys → (∀ (i : Nat) (a : α) (b : β), xs[i]? = some a → F a b → G a b) → Paired G xs ys
  | _, _, .nil, _ => .nil
  | _, _, .cons h t, f => .cons (f 0 _ _ rfl h) (pmap t fun i a b e q => f (i + 1) a b (by simpa using e) q)
theorem psplit : ∀ {xs xs' : List α} {zs : List β}, Paired F (xs ++ xs') zs → ∃ ys ys', zs = ys ++ ys' ∧ Paired F xs ys ∧ Paired F xs' ys'
  | [], _, zs, h => ⟨[], zs, rfl, .nil, h⟩
  | x :: xs, xs', _, .cons h t => by
    obtain ⟨ys, ys', rfl, a, b⟩ := psplit t
    exact ⟨_ :: ys, ys', rfl, .cons h a, b⟩
end
section
variable {K : PySem.W.Frag} {G : Pa} {δ τ : List Sl} {t : Nat} {σ : L2.St} {vs : List V} {H H' : Hp} {s : Sl} {v : V}
/-- from one heap and one set of what is hidden to another -/
theorem RV.to {O O' : Addr → Prop} (m : Same (hid O H) (hid O' H')) (own : ∀ p xs us, s = .own p xs → H p = some (.lst us) → H' p = some (.lst us)) (h : RV K G O H s v) : RV K G O' H' s v := by
  cases s with
  | any => trivial
  | dat d => exact Dq.mono m d h
  | own p xs =>
    obtain ⟨e, us, hp, q⟩ := h
    exact ⟨e, us, own p xs us rfl hp, q.mono m _⟩
  | drw => exact h
  | raw u => exact h
  | pin us =>
    obtain ⟨a, e, h⟩ := h
    exact ⟨a, e, m _ _ h⟩
  | pinT us =>
    obtain ⟨a, e, h⟩ := h
    exact ⟨a, e, sameT m h⟩
  | rg lo hi =>
    obtain ⟨a, e, h⟩ := h
    exact ⟨a, e, m _ _ h⟩
theorem RS.to {O O' : Addr → Prop} {o : Option V} (m : Same (hid O H) (hid O' H')) (own : ∀ p xs us, s = .own p xs → H p = some (.lst us) → H' p = some (.lst us)) (h : RS K G O H s o) : RS K G O' H' s o := by
  rcases h with h | ⟨v, e, h⟩
  · exact .inl h
  · exact .inr ⟨v, e, h.to m own⟩
theorem pos_at {xs : List Sl} {i : Nat} {p : Addr} {ys : List PyData} (e : xs[i]? = some (.own p ys)) : 0 < cnt p xs := by
  have := cnt_at (p := p) e
  rw [has_self] at this
  exact this
theorem Rl.step {t' : Nat} (R : Rl K G δ τ t σ vs H) (f : Frm G H H') (dw : DrOk G H' t') : Rl K G δ τ t' σ vs H' := by
  have nd : ∀ b, ¬ Pr G δ τ b → ¬ isDr G b := fun b h z => h (.inl (R.dw.dr z).1)
  have m : Same (hid (Pr G δ τ) H) (hid (Pr G δ τ) H') := hid_same fun b o h e => f b o (nd b h) e
  have ow : ∀ p us, 0 < cnt p δ + cnt p τ → H p = some (.lst us) → H' p = some (.lst us) := fun p us h e => f p _ (fun z => R.off p h (R.dw.dr z).1) e
  refine ⟨pmap R.sl fun i a b e h => h.to m fun p xs us z q => ?_, pmap R.tm fun i a b e h => h.to m fun p xs us z q => ?_, R.nd, R.off, R.new, fun b h => ?_, R.old.trans f, dw⟩
  · subst z
    exact ow p us (by have := pos_at e; omega) q
  · subst z
    exact ow p us (by have := pos_at e; omega) q
  · by_cases z : isDr G b
    · exact (dw.dr z).2
    · cases q : H b with
      | none => exact (R.live b h q).elim
      | some o =>
        rw [f b o z q]
        exact Option.some_ne_none _
theorem Rl.grow (R : Rl K G δ τ t σ vs H) (s : Same H H') : Rl K G δ τ t σ vs H' := R.step (Frm.of s) (R.dw.same s (Nat.le_refl _))
theorem Rl.more {t' : Nat} (R : Rl K G δ τ t σ vs H) (l : t ≤ t') : Rl K G δ τ t' σ vs H := R.step (Frm.of (Same.refl H)) (R.dw.same (Same.refl H) l)
/-- other slots, other values under way, of which fewer are one's own -/
theorem Rl.less {δ' τ' : List Sl} {σ' : L2.St} {ws : List V} (R : Rl K G δ τ t σ vs H) (le : ∀ p, cnt p δ' + cnt p τ' ≤ cnt p δ + cnt p τ)
    (sl : Same (hid (Pr G δ τ) H) (hid (Pr G δ' τ') H) → Paired (fun s o => RS K G (Pr G δ' τ') H s o) δ' σ') (tm : Same (hid (Pr G δ τ) H) (hid (Pr G δ' τ') H) → Paired (fun s v => RV K G (Pr G δ' τ') H s v) τ' ws) : Rl K G δ' τ' t σ' ws H := by
  have m : Same (hid (Pr G δ τ) H) (hid (Pr G δ' τ') H) := hid_mono fun b h => by
    rcases h with h | h
    · exact .inl h
    · exact .inr (Nat.lt_of_lt_of_le h (le b))
  exact ⟨sl m, tm m, fun p => Nat.le_trans (le p) (R.nd p), fun p h => R.off p (Nat.lt_of_lt_of_le h (le p)), fun p h => R.new p (Nat.lt_of_lt_of_le h (le p)), R.live, R.old, R.dw⟩
theorem sl_to {O O' : Addr → Prop} (m : Same (hid O H) (hid O' H)) {δ : List Sl} {σ : L2.St} (h : Paired (fun s o => RS K G O H s o) δ σ) : Paired (fun s o => RS K G O' H s o) δ σ := pmap h fun _ _ _ _ q => q.to m fun _ _ _ _ e => e
theorem tm_to {O O' : Addr → Prop} (m : Same (hid O H) (hid O' H)) {τ : List Sl} {vs : List V} (h : Paired (fun s v => RV K G O H s v) τ vs) : Paired (fun s v => RV K G O' H s v) τ vs := pmap h fun _ _ _ _ q => q.to m fun _ _ _ _ e => e
theorem Rl.head (R : Rl K G δ (s :: τ) t σ (v :: vs) H) : RV K G (Pr G δ (s :: τ)) H s v := by
  cases R.tm with
  | cons h _ => exact h
theorem Rl.ptail {O : Addr → Prop} (h : Paired (fun s v => RV K G O H s v) (s :: τ) (v :: vs)) : Paired (fun s v => RV K G O H s v) τ vs := by
  cases h with
  | cons _ t => exact t
theorem Rl.pop (R : Rl K G δ (s :: τ) t σ (v :: vs) H) : Rl K G δ τ t σ vs H :=
  R.less (fun p => by simp only [cnt]; omega) (fun m => sl_to m R.sl) fun m => tm_to m (Rl.ptail R.tm)
theorem Rl.push (R : Rl K G δ τ t σ vs H) (h : RV K G (Pr G δ τ) H s v) (no : ∀ p, s.has p = 0) : Rl K G δ (s :: τ) t σ (v :: vs) H :=
  R.less (fun p => by simp only [cnt, no p]; omega) (fun m => sl_to m R.sl) fun m => .cons (h.to m fun _ _ _ _ e => e) (tm_to m R.tm)
theorem Rl.dat {d : PyData} (R : Rl K G δ τ t σ vs H) (h : Dq K (hid (Pr G δ τ) H) v d) : Rl K G δ (.dat d :: τ) t σ (v :: vs) H := R.push (s := .dat d) h fun _ => rfl
/-- a value in the place of the last one -/
theorem Rl.swap {s' : Sl} {v' : V} (R : Rl K G δ (s :: τ) t σ (v :: vs) H) (h : RV K G (Pr G δ (s :: τ)) H s' v') (no : ∀ p, s'.has p ≤ s.has p) : Rl K G δ (s' :: τ) t σ (v' :: vs) H :=
  R.less (fun p => by have := no p; simp only [cnt]; omega) (fun m => sl_to m R.sl) fun m => .cons (h.to m fun _ _ _ _ e => e) (tm_to m (Rl.ptail R.tm))
/-- what a new address is -/
theorem Rl.newAt {p : Addr} (R : Rl K G δ τ t σ vs H) (n : H p = none) : ¬ Pr G δ τ p ∧ G.H0 p = none := by
  have a : ∀ (u : List Sl) (i : Nat) (ys : List PyData), u[i]? = some (.own p ys) → (Paired (fun s v => RV K G (Pr G δ τ) H s v) u vs → False) := fun u i ys e h => by
    obtain ⟨y, _, hy⟩ := pget h e
    obtain ⟨_, us, hu, _⟩ := hy
    rw [n] at hu
    cases hu
  have ex : ∀ u : List Sl, 0 < cnt p u → ∃ (i : Nat) (ys : List PyData), u[i]? = some (.own p ys) := fun u => by
    induction u with
    | nil => intro h; exact absurd h (by simp [cnt])
    | cons s u ih =>
      intro h
      by_cases z : 0 < s.has p
      · cases s with
        | own q ys =>
          have e : q = p := Decidable.byContradiction fun ne => by
            rw [show (Sl.own q ys).has p = 0 from if_neg ne] at z
            omega
          subst e
          exact ⟨0, ys, rfl⟩
        | any => exact absurd z (Nat.lt_irrefl 0)
        | dat _ => exact absurd z (Nat.lt_irrefl 0)
        | drw => exact absurd z (Nat.lt_irrefl 0)
        | raw _ => exact absurd z (Nat.lt_irrefl 0)
        | pin _ => exact absurd z (Nat.lt_irrefl 0)
        | pinT _ => exact absurd z (Nat.lt_irrefl 0)
        | rg _ _ => exact absurd z (Nat.lt_irrefl 0)
      · obtain ⟨i, ys, e⟩ := ih (by simp only [cnt] at h; omega)
        exact ⟨i + 1, ys, by simpa using e⟩
  refine ⟨fun h => ?_, ?_⟩
  · rcases h with h | h
    · exact R.live p h n
    · by_cases z : 0 < cnt p τ
      · obtain ⟨i, ys, e⟩ := ex τ z
        exact a τ i ys e R.tm
      · obtain ⟨i, ys, e⟩ := ex δ (by omega)
        obtain ⟨y, _, hy⟩ := pget R.sl e
        rcases hy with hy | ⟨v, _, hv⟩
        · cases hy
        · obtain ⟨_, us, hu, _⟩ := hv
          rw [n] at hu
          cases hu
  · cases q : G.H0 p with
    | none => rfl
    | some o =>
      by_cases z : isDr G p
      · exact ((R.dw.dr z).2 n).elim
      · rw [R.old p o z q] at n
        cases n
theorem Rl.tup {p : Addr} {us : List V} {ds : List PyData} (R : Rl K G δ τ t σ vs H) (n : H p = none) (h : DqAll K (hid (Pr G δ τ) H) us ds) : Rl K G δ (.dat (.tuple ds) :: τ) t σ (.ref p :: vs) (upd H p (.tup us)) := by
  have R' := R.grow (same_upd (o := .tup us) n)
  refine R'.dat (.tup (SqT.of ?_) (h.mono (hid_same fun b o _ e => same_upd n b o e) _))
  rw [hid_off (R.newAt n).1]
  exact upd_same
theorem Rl.lst {p : Addr} {us : List V} {ds : List PyData} (R : Rl K G δ τ t σ vs H) (n : H p = none) (h : DqAll K (hid (Pr G δ τ) H) us ds) : Rl K G δ (.own p ds :: τ) t σ (.ref p :: vs) (upd H p (.lst us)) := by
  have sm := same_upd (o := HO.lst us) n
  have N := R.newAt n
  have e : ∀ b, Pr G δ (.own p ds :: τ) b ↔ Pr G δ τ b ∨ b = p := fun b => by
    have : (Sl.own p ds).has b = if p = b then 1 else 0 := rfl
    unfold Pr
    simp only [cnt, this]
    by_cases z : p = b
    · subst z
      simp
      exact .inr (by omega)
    · have : b ≠ p := fun y => z y.symm
      simp [z, this]
  have m : Same (hid (Pr G δ τ) H) (hid (Pr G δ (.own p ds :: τ)) (upd H p (.lst us))) := fun b o h => by
    by_cases z : Pr G δ τ b
    · rw [hid_on z] at h
      cases h
    · rw [hid_off z] at h
      have ne : b ≠ p := ne_of_none h n
      rw [hid_off (fun y => ((e b).mp y).elim z ne), upd_ne ne]
      exact h
  have cn : ∀ b, cnt b δ + cnt b (.own p ds :: τ) = cnt b δ + cnt b τ + if p = b then 1 else 0 := fun b => by
    show cnt b δ + ((if p = b then 1 else 0) + cnt b τ) = _
    omega
  have zero : cnt p δ + cnt p τ = 0 := Decidable.byContradiction fun z => N.1 (.inr (by omega))
  refine ⟨pmap R.sl fun i a b q h => h.to m fun q xs ws _ hq => sm _ _ hq, .cons ⟨rfl, us, upd_same, h.mono m _⟩ (pmap R.tm fun i a b q h => h.to m fun q xs ws _ hq => sm _ _ hq), fun b => ?_, fun b h => ?_, fun b h => ?_, fun b h => ?_, R.old.trans (Frm.of sm), R.dw.same sm (Nat.le_refl _)⟩
  · rw [cn b]
    by_cases z : p = b
    · subst z
      rw [if_pos rfl, zero]
      exact Nat.le_refl _
    · rw [if_neg z]
      exact R.nd b
  · rw [cn b] at h
    by_cases z : p = b
    · subst z
      exact fun o => N.1 (.inl o)
    · rw [if_neg z] at h
      exact R.off b h
  · rw [cn b] at h
    by_cases z : p = b
    · subst z
      exact N.2
    · rw [if_neg z] at h
      exact R.new b h
  · cases q : H b with
    | none => exact (R.live b h q).elim
    | some o =>
      rw [sm b o q]
      exact Option.some_ne_none _
/-- a list of one's own becomes data -/
def Sl.soft : Sl → Sl
  | .own _ xs => .dat (.list xs)
  | s => s
theorem soft_has {p : Addr} : ∀ s : Sl, s.soft.has p = 0
  | .own _ _ => rfl
  | .any => rfl
  | .dat _ => rfl
  | .drw => rfl
  | .raw _ => rfl
  | .pin _ => rfl
  | .pinT _ => rfl
  | .rg _ _ => rfl
/-- the heap's part that becomes seen when a list is one's own no more -/
theorem soften {p : Addr} {xs : List PyData} {us : List V} {δ' τ' : List Sl} {D : Hp} (m : Same D (hid (Pr G δ' τ') H)) (z : ¬ Pr G δ' τ' p) (hp : H p = some (.lst us)) (h : DqAll K D us xs) : Dq K (hid (Pr G δ' τ') H) (.ref p) (.list xs) := by
  refine .lst ?_ (h.mono m _)
  rw [hid_off z]
  exact hp
theorem Rl.softTop (R : Rl K G δ (s :: τ) t σ (v :: vs) H) : Rl K G δ (s.soft :: τ) t σ (v :: vs) H := by
  cases s with
  | own p xs =>
    refine R.less (fun b => by simp only [cnt, soft_has]; omega) (fun m => sl_to m R.sl) fun m => .cons ?_ (tm_to m (Rl.ptail R.tm))
    obtain ⟨rfl, us, hp, q⟩ := R.head
    have c := R.nd p
    have o := R.off p
    simp only [cnt, has_self] at c o
    refine soften m (fun z => ?_) hp q
    rcases z with z | z
    · exact o (by omega) z
    · simp only [cnt, soft_has] at z
      omega
  | any => exact R
  | dat _ => exact R
  | drw => exact R
  | raw _ => exact R
  | pin _ => exact R
  | pinT _ => exact R
  | rg _ _ => exact R
theorem Rl.softAt {i : Nat} (R : Rl K G δ τ t σ vs H) (e : δ[i]? = some s) : Rl K G (δ.set i s.soft) τ t σ vs H := by
  have c0 : ∀ p, cnt p (δ.set i s.soft) + s.has p = cnt p δ + 0 := fun p => by rw [← soft_has (p := p) s]; exact cnt_put e
  refine R.less (fun p => by have := c0 p; omega) (fun m => ?_) fun m => tm_to m R.tm
  have q := sl_to m R.sl
  refine pset1 i q fun o ho => ?_
  obtain ⟨o', ho', h⟩ := pget R.sl e
  rw [ho] at ho'
  cases ho'
  rcases h with h | ⟨v, rfl, h⟩
  · subst h
    exact .inl rfl
  · refine .inr ⟨v, rfl, ?_⟩
    cases s with
    | own p xs =>
      obtain ⟨rfl, us, hp, q⟩ := h
      have c := R.nd p
      have c1 := c0 p
      have o := R.off p
      have := pos_at e
      simp only [has_self] at c1
      refine soften m (fun z => ?_) hp q
      rcases z with z | z
      · exact o (by omega) z
      · omega
    | any => trivial
    | dat _ => exact h.to (s := .dat _) m fun _ _ _ _ e => e
    | drw => exact h
    | raw _ => exact h
    | pin us => exact h.to (s := .pin us) m fun _ _ _ _ e => e
    | pinT us => exact h.to (s := .pinT us) m fun _ _ _ _ e => e
    | rg lo hi => exact h.to (s := .rg lo hi) m fun _ _ _ _ e => e
/-- a name's slot takes the value -/
theorem Rl.put (i : Nat) (R : Rl K G δ (s :: τ) t σ (v :: vs) H) : Rl K G (δ.set i s) τ t (σ.set i (some v)) vs H :=
  R.less (fun p => by have := cnt_set (p := p) (s := s) δ i; simp only [cnt]; omega) (fun m => pset (.inr ⟨v, rfl, R.head.to m fun _ _ _ _ e => e⟩) i (sl_to m R.sl)) fun m => tm_to m (Rl.ptail R.tm)
/-- a slot is forgotten -/
theorem Rl.forget (i : Nat) (R : Rl K G δ τ t σ vs H) : Rl K G (δ.set i .any) τ t σ vs H :=
  R.less (fun p => by have := cnt_set (p := p) (s := Sl.any) δ i; have : (Sl.any).has p = 0 := rfl; omega) (fun m => pset1 i (sl_to m R.sl) fun _ _ => .inl rfl) fun m => tm_to m R.tm
theorem Rl.blank (i : Nat) (R : Rl K G δ τ t σ vs H) : Rl K G (δ.set i .any) τ t (σ.set i none) vs H :=
  R.less (fun p => by have := cnt_set (p := p) (s := Sl.any) δ i; have : (Sl.any).has p = 0 := rfl; omega) (fun m => pset (.inl rfl) i (sl_to m R.sl)) fun m => tm_to m R.tm
/-- a list of one's own changes -/
theorem Rl.write {i : Nat} {p : Addr} {xs ys : List PyData} {ws : List V} (R : Rl K G δ τ t σ vs H) (e : δ[i]? = some (.own p xs)) (h : DqAll K (hid (Pr G δ τ) H) ws ys) : Rl K G (δ.set i (.own p ys)) τ t σ vs (upd H p (.lst ws)) := by
  have hp := pos_at e
  have e0 := e
  have np : ¬ G.O p := R.off p (by omega)
  have c1 : ∀ b, cnt b (δ.set i (.own p ys)) = cnt b δ := fun b => by
    have := cnt_put (p := b) (u := .own p ys) e
    have : (Sl.own p ys).has b = (Sl.own p xs).has b := rfl
    omega
  have one := R.nd p
  have pr : Pr G (δ.set i (.own p ys)) τ = Pr G δ τ := funext fun b => by unfold Pr; rw [c1 b]
  have m : Same (hid (Pr G δ τ) H) (hid (Pr G (δ.set i (.own p ys)) τ) (upd H p (.lst ws))) := by
    rw [pr]
    refine hid_same fun b o z hb => ?_
    rw [upd_ne fun y => z (.inr (by rw [y]; omega))]
    exact hb
  have keep : ∀ {q : Addr} {us : List V}, q ≠ p → H q = some (.lst us) → upd H p (.lst ws) q = some (.lst us) := fun n hq => by
    rw [upd_ne n]
    exact hq
  have ndr : ¬ isDr G p := fun z => np (R.dw.dr z).1
  refine ⟨?_, pmap R.tm fun j a b q h => h.to m fun q' zs us z hq => keep (fun y => ?_) hq, fun b => by rw [c1]; exact R.nd b, fun b => by rw [c1]; exact R.off b, fun b => by rw [c1]; exact R.new b, fun b hb => ?_, fun b o z hb => ?_, ⟨fun d r c hd => ?_, R.dw.2.keep fun b o e n => ?_⟩⟩
  · have far : ∀ {δ : List Sl} {σ : L2.St} {i : Nat}, δ[i]? = some (.own p xs) → cnt p δ ≤ 1 → Paired (fun s o => RS K G (Pr G (δ) τ) H s o) δ σ → True := fun _ _ _ => trivial
    have gen : ∀ (δ' : List Sl) (σ' : L2.St) (i' : Nat), Paired (fun s o => RS K G (Pr G δ τ) H s o) δ' σ' → δ'[i']? = some (.own p xs) → cnt p δ' ≤ 1 →
        Paired (fun s o => RS K G (Pr G (δ.set i (.own p ys)) τ) (upd H p (.lst ws)) s o) (δ'.set i' (.own p ys)) σ' := by
      intro δ' σ' i' hP
      induction hP generalizing i' with
      | nil => intro e; simp at e
      | @cons a b as bs hab hT ih =>
        intro e c
        cases i' with
        | zero =>
          simp at e
          subst e
          simp only [cnt, has_self] at c
          refine .cons ?_ (pmap hT fun j a b q h => h.to m fun q' zs us z hq => keep (fun y => ?_) hq)
          · rcases hab with hab | ⟨v, rfl, rfl, us, hu, _⟩
            · cases hab
            · exact .inr ⟨_, rfl, rfl, ws, upd_same, h.mono m _⟩
          · subst z
            subst y
            have := pos_at q
            omega
        | succ i' =>
          have e' : as[i']? = some (.own p xs) := by simpa using e
          have := pos_at e'
          simp only [cnt] at c
          refine .cons (hab.to m fun q' zs us z hq => keep (fun y => ?_) hq) (ih i' e' (by omega))
          subst z
          subst y
          rw [has_self] at c
          omega
    exact gen δ σ i R.sl e (by omega)
  · subst z
    subst y
    have := pos_at q
    omega
  · by_cases y : b = p
    · subst y
      exact (np hb).elim
    · rw [upd_ne y]
      exact R.live b hb
  · have n0 := R.new p (by omega)
    rw [upd_ne fun y => by rw [y, n0] at hb; cases hb]
    exact R.old b o z hb
  · obtain ⟨od, o_r, oc, u, hu, cells, rests, h1, h2, h3, h4, h5, h6, h7⟩ := R.dw.1 d r c hd
    have nn : ∀ {b : Addr}, G.O b → b ≠ p := fun hb y => np (by rw [← y]; exact hb)
    exact ⟨od, o_r, oc, u, hu, cells, rests, h1, h2, h3, by rw [upd_ne (nn od)]; exact h4, by rw [upd_ne (nn oc)]; exact h5, by rw [upd_ne (nn o_r)]; exact h6, h7⟩
  · have lp : ∃ us, H p = some (.lst us) := by
      obtain ⟨v, _, hv⟩ := pget R.sl e0
      rcases hv with hv | ⟨v', _, _, us, hu, _⟩
      · cases hv
      · exact ⟨us, hu⟩
    obtain ⟨us, hu⟩ := lp
    rw [upd_ne fun y => by
      rw [y, hu] at e
      exact n us (Option.some.inj e).symm]
    exact e
end
end Dl

set_option Elab.async false
set_option linter.all false
set_option maxRecDepth 100000
set_option maxHeartbeats 4000000
/-! readings told by data -/
namespace Dl
open PySem PySem.Spec PyProof.Rows L2 Glay Lw

/-! ### more about what is under way -/
section
variable {K : PySem.W.Frag} {G : Pa} {δ τ xs ys : List Sl} {t : Nat} {σ : L2.St} {us vs ws : List V} {H H' : Hp} {s x : Sl} {v : V}
theorem psplitL {α β : Type} {F : α → β → Prop} : ∀ {xs xs' : List α} {ys ys' : List β}, xs.length = ys.length → Paired F (xs ++ xs') (ys ++ ys') → Paired F xs ys ∧ Paired F xs' ys'
  | [], _, [], _, _, h => ⟨.nil, h⟩
  | [], _, _ :: _, _, l, _ => nomatch l
  | _ :: _, _, [], _, l, _ => nomatch l
  | _ :: _, _, _ :: _, _, l, .cons h t => by
    obtain ⟨a, b⟩ := psplitL (by simpa using l) t
    exact ⟨.cons h a, b⟩
theorem Rl.up1 (R : Rl K G δ (xs ++ s :: τ) t σ (us ++ v :: vs) H) (l : xs.length = us.length) : Rl K G δ (s :: (xs ++ τ)) t σ (v :: (us ++ vs)) H :=
  R.less (fun p => by simp only [cnt_append, cnt]; omega) (fun m => sl_to m R.sl) fun m => by
    obtain ⟨a, b⟩ := psplitL l (tm_to m R.tm)
    cases b with
    | cons h b => exact .cons h (papp a b)
theorem Rl.dn1 (R : Rl K G δ (s :: (xs ++ τ)) t σ (v :: (us ++ vs)) H) (l : xs.length = us.length) : Rl K G δ (xs ++ s :: τ) t σ (us ++ v :: vs) H :=
  R.less (fun p => by simp only [cnt_append, cnt]; omega) (fun m => sl_to m R.sl) fun m => by
    cases tm_to m R.tm with
    | cons h b =>
      obtain ⟨a, b⟩ := psplitL l b
      exact papp a (.cons h b)
theorem Rl.drop (R : Rl K G δ (xs ++ τ) t σ (us ++ vs) H) (l : xs.length = us.length) : Rl K G δ τ t σ vs H :=
  R.less (fun p => by simp only [cnt_append]; omega) (fun m => sl_to m R.sl) fun m => (psplitL l (tm_to m R.tm)).2
theorem Rl.mid (R : Rl K G δ (s :: (xs ++ τ)) t σ (v :: (us ++ vs)) H) (l : xs.length = us.length) : Rl K G δ (s :: τ) t σ (v :: vs) H :=
  R.less (fun p => by simp only [cnt_append, cnt]; omega) (fun m => sl_to m R.sl) fun m => by
    cases tm_to m R.tm with
    | cons h b => exact .cons h (psplitL l b).2
theorem Rl.softAll : ∀ {xs : List Sl} {us : List V} {τ : List Sl} {vs : List V}, Rl K G δ (xs ++ τ) t σ (us ++ vs) H → xs.length = us.length → Rl K G δ (xs.map Sl.soft ++ τ) t σ (us ++ vs) H
  | [], _, _, _, R, _ => R
  | _ :: _, [], _, _, _, l => nomatch l
  | s :: xs, v :: us, τ, vs, R, l => by
    have l' : xs.length = us.length := by simpa using l
    have R1 : Rl K G δ (s.soft :: (xs ++ τ)) t σ (v :: (us ++ vs)) H := Rl.softTop R
    have R2 := Rl.softAll (R1.dn1 l') l'
    exact R2.up1 (by rw [List.length_map]; exact l')
theorem cnt_soft {p : Addr} : ∀ xs : List Sl, cnt p (xs.map Sl.soft) = 0
  | [] => rfl
  | x :: xs => by
    have := cnt_soft (p := p) xs
    have := soft_has (p := p) x
    simp only [List.map_cons, cnt]
    omega
theorem Rl.pins (R : Rl K G δ (s :: τ) t σ (v :: vs) H) (h : RV K G (Pr G δ (s :: τ)) H x v) (no : ∀ p, x.has p = 0) : Rl K G δ (x :: s :: τ) t σ (v :: v :: vs) H := R.push h no
/-- the data a value stands for, also that of a list of one's own -/
def Sl.dv : Sl → Option PyData
  | .dat d => some d
  | .own _ xs => some (.list xs)
  | _ => none
theorem RV.full {O : Addr → Prop} {d : PyData} (h : RV K G O H s v) (e : s.dv = some d) : Dq K H v d := by
  cases s with
  | dat d' => cases e; exact Dq.mono hid_le d h
  | own p xs =>
    cases e
    obtain ⟨rfl, us, hp, q⟩ := h
    exact .lst hp (q.mono hid_le _)
  | any => cases e
  | drw => cases e
  | raw _ => cases e
  | pin _ => cases e
  | pinT _ => cases e
  | rg _ _ => cases e
/-- a list's items -/
theorem RV.items {O : Addr → Prop} {ds : List PyData} (h : RV K G O H s v) (e : s.dv = some (.list ds)) : ∃ p us, v = .ref p ∧ H p = some (.lst us) ∧ DqAll K (hid O H) us ds := by
  cases s with
  | dat d' =>
    cases e
    cases h with
    | lst hp q => exact ⟨_, _, rfl, hid_le _ _ hp, q⟩
  | own p xs =>
    cases e
    obtain ⟨rfl, us, hp, q⟩ := h
    exact ⟨_, _, rfl, hp, q⟩
  | any => cases e
  | drw => cases e
  | raw _ => cases e
  | pin _ => cases e
  | pinT _ => cases e
  | rg _ _ => cases e
theorem RV.itemsT {O : Addr → Prop} {ds : List PyData} (h : RV K G O H (.dat (.tuple ds)) v) : ∃ p us, v = .ref p ∧ SqT K H p us ∧ DqAll K (hid O H) us ds := by
  cases h with
  | tup hp q => exact ⟨_, _, rfl, sameT hid_le hp, q⟩
theorem RV.int {O : Addr → Prop} {i : Int} (h : RV K G O H (.dat (.int i)) v) : v = .int i := by
  cases h
  rfl
theorem RV.bool {O : Addr → Prop} {i : Bool} (h : RV K G O H (.dat (.bool i)) v) : v = .bl i := by
  cases h
  rfl
theorem RV.str {O : Addr → Prop} {i : Str} (h : RV K G O H (.dat (.str i)) v) : v = .str i := by
  cases h
  rfl
theorem Rl.h2 {y : Sl} {w : V} (R : Rl K G δ (y :: x :: τ) t σ (w :: v :: vs) H) : RV K G (Pr G δ (y :: x :: τ)) H x v := by
  cases R.tm with
  | cons _ b => cases b with
    | cons h _ => exact h
/-- scalars -/
inductive Sc : V → PyData → Prop
  | non : Sc .non .none
  | bl (b : Bool) : Sc (.bl b) (.bool b)
  | int (i : Int) : Sc (.int i) (.int i)
  | str (x : Str) : Sc (.str x) (.str x)
theorem Sc.dq {d : PyData} (h : Sc v d) : Dq K H v d := by
  cases h with
  | non => exact .non
  | bl b => exact .bl b
  | int i => exact .int i
  | str x => exact .str x
theorem Rl.sc {d : PyData} (R : Rl K G δ τ t σ vs H) (h : Sc v d) : Rl K G δ (.dat d :: τ) t σ (v :: vs) H := R.dat h.dq
end

/-! ### readings -/
abbrev RX := Sl → List Sl → Nat → Prop
structure DEnds where
  nx : List Sl → Nat → Prop
  rt : Sl → Nat → Prop
  bk : List Sl → Nat → Prop
  ct : List Sl → Nat → Prop
section
variable (K : PySem.W.Frag) (G : Pa)
def Den (te : TE) (δ τ : List Sl) (t : Nat) (R : RX) : Prop :=
  ∀ σ vs H Q, Rl K G δ τ t σ vs H → (∀ v H' x δ' t', R x δ' t' → Rl K G δ' (x :: τ) t' σ (v :: vs) H' → Q v H') → te σ H Q
def DenT (tt : TT) (δ τ : List Sl) (t : Nat) (R : Bool → List Sl → Nat → Prop) : Prop :=
  ∀ σ vs H Q, Rl K G δ τ t σ vs H → (∀ b H' δ' t', R b δ' t' → Rl K G δ' τ t' σ vs H' → Q b H') → tt σ H Q
def DenA (ta : TA) (δ τ : List Sl) (t : Nat) (R : List Sl → List Sl → Nat → Prop) : Prop :=
  ∀ σ vs H Q, Rl K G δ τ t σ vs H → (∀ us H' xs δ' t', R xs δ' t' → xs.length = us.length → Rl K G δ' (xs ++ τ) t' σ (us ++ vs) H' → Q us H') → ta σ H Q
def DenO (to : TO) (δ τ : List Sl) (t : Nat) (R : Option Int → List Sl → Nat → Prop) : Prop :=
  ∀ σ vs H Q, Rl K G δ τ t σ vs H → (∀ b H' δ' t', R b δ' t' → Rl K G δ' τ t' σ vs H' → Q b H') → to σ H Q
def Dop (r : R2) (x y : Sl) (δ τ : List Sl) (t : Nat) (R : RX) : Prop :=
  ∀ σ vs H u v Q, Rl K G δ (y :: x :: τ) t σ (v :: u :: vs) H → (∀ w H' z δ' t', R z δ' t' → Rl K G δ' (z :: τ) t' σ (w :: vs) H' → Q w H') → r u v H Q
def Dun (r : V → Hp → VK → Prop) (x : Sl) (δ τ : List Sl) (t : Nat) (R : RX) : Prop :=
  ∀ σ vs H u Q, Rl K G δ (x :: τ) t σ (u :: vs) H → (∀ w H' z δ' t', R z δ' t' → Rl K G δ' (z :: τ) t' σ (w :: vs) H' → Q w H') → r u H Q
def Dcb (r : List V → Hp → VK → Prop) (xs : List Sl) (δ τ : List Sl) (t : Nat) (R : RX) : Prop :=
  ∀ σ vs H us Q, xs.length = us.length → Rl K G δ (xs ++ τ) t σ (us ++ vs) H → (∀ w H' z δ' t', R z δ' t' → Rl K G δ' (z :: τ) t' σ (w :: vs) H' → Q w H') → r us H Q
def DG (g : TG) (ch : Nat → Prop) (x : Sl) (δ τ : List Sl) (t : Nat) (R : List Sl → Nat → Prop) : Prop :=
  ∀ σ vs H v Q, Rl K G δ (x :: τ) t σ (v :: vs) H → (∀ σ' H' δ' t', R δ' t' → Rl K G δ' τ t' σ' vs H' → (∀ own : List Nat, (∀ i, ch i → i ∈ own) → wipe σ' own = wipe σ own) → Q σ' H') → g v σ H Q
def DGs (g : TGs) (ch : Nat → Prop) (xs : List Sl) (δ τ : List Sl) (t : Nat) (R : List Sl → Nat → Prop) : Prop :=
  ∀ σ vs H us Q, xs.length = us.length → Rl K G δ (xs ++ τ) t σ (us ++ vs) H → (∀ σ' H' δ' t', R δ' t' → Rl K G δ' τ t' σ' vs H' → (∀ own : List Nat, (∀ i, ch i → i ∈ own) → wipe σ' own = wipe σ own) → Q σ' H') → g us σ H Q
def DS (ts : TS) (δ τ : List Sl) (t : Nat) (D : DEnds) : Prop :=
  ∀ σ vs H (E : Ends), Rl K G δ τ t σ vs H → (∀ σ' H' δ' t', D.nx δ' t' → Rl K G δ' τ t' σ' vs H' → E.nx σ' H') → (∀ v H' x δ' t' σ', D.rt x t' → Rl K G δ' (x :: τ) t' σ' (v :: vs) H' → E.rt v H') →
    (∀ σ' H' δ' t', D.bk δ' t' → Rl K G δ' τ t' σ' vs H' → E.bk σ' H') → (∀ σ' H' δ' t', D.ct δ' t' → Rl K G δ' τ t' σ' vs H' → E.ct σ' H') → ts E σ H
/-- what is walked: J yields the data of L, while pin stands -/
def Src (J : It) (pin : List Sl) (pv : List V) (L : List PyData) : Prop :=
  pin.length = pv.length ∧ (∀ p, cnt p pin = 0) ∧ ∀ i H δ τ τ0 t σ vs vs0, τ0.length = vs0.length → Rl K G δ (τ0 ++ (pin ++ τ)) t σ (vs0 ++ (pv ++ vs)) H →
    (i < L.length → J.go i H ∧ ∀ x H' d, L[i]? = some d → J.yld i H x H' → Rl K G δ (.dat d :: (τ0 ++ (pin ++ τ))) t σ (x :: (vs0 ++ (pv ++ vs))) H') ∧ (i = L.length → J.stop i H)
def DI (wi : TI) (δ τ : List Sl) (t : Nat) (R : List PyData → List Sl → Nat → Prop) : Prop :=
  ∀ σ vs H Q, Rl K G δ τ t σ vs H → (∀ J H' L pin pv δ' t', R L δ' t' → Src K G J pin pv L → Rl K G δ' (pin ++ τ) t' σ (pv ++ vs) H' → Q J H') → wi σ H Q
end
section
variable {K : PySem.W.Frag} {G : Pa} {δ τ : List Sl} {t : Nat} {R : RX} {te ta tb tc : TE}
/-! expressions -/
theorem rd_at {i : Nat} {s : Sl} {σ : L2.St} {vs : List V} {H : Hp} (R0 : Rl K G δ τ t σ vs H) (e : δ[i]? = some s) (ne : s ≠ .any) : ∃ v, σ[i]? = some (some v) ∧ RV K G (Pr G δ τ) H s v := by
  obtain ⟨o, ho, h⟩ := pget R0.sl e
  rcases h with h | ⟨v, rfl, h⟩
  · exact (ne h).elim
  · exact ⟨v, ho, h⟩
theorem den_dat {i : Nat} {d : PyData} (e : δ[i]? = some (.dat d)) (q : R (.dat d) δ t) : Den K G (tVar i) δ τ t R := by
  intro σ vs H Q R0 k
  obtain ⟨v, hv, h⟩ := rd_at R0 e (fun z => nomatch z)
  exact ⟨v, hv, k v H _ _ _ q (R0.dat h)⟩
theorem den_drw {i : Nat} (e : δ[i]? = some .drw) (q : R .drw δ t) : Den K G (tVar i) δ τ t R := by
  intro σ vs H Q R0 k
  obtain ⟨v, hv, h⟩ := rd_at R0 e (fun z => nomatch z)
  exact ⟨v, hv, k v H _ _ _ q (R0.push h fun _ => rfl)⟩
theorem den_raw {i : Nat} {u : V} (e : δ[i]? = some (.raw u)) (q : R (.raw u) δ t) : Den K G (tVar i) δ τ t R := by
  intro σ vs H Q R0 k
  obtain ⟨v, hv, h⟩ := rd_at R0 e (fun z => nomatch z)
  exact ⟨v, hv, k v H _ _ _ q (R0.push h fun _ => rfl)⟩
theorem den_own {i : Nat} {p : Addr} {xs : List PyData} (e : δ[i]? = some (.own p xs)) (q : R (.dat (.list xs)) (δ.set i (.dat (.list xs))) t) : Den K G (tVar i) δ τ t R := by
  intro σ vs H Q R0 k
  obtain ⟨v, hv, _⟩ := rd_at R0 e (fun z => nomatch z)
  have R1 := R0.softAt e
  have lt : i < δ.length := (List.getElem?_eq_some_iff.mp e).1
  obtain ⟨v', hv', h⟩ := rd_at R1 (i := i) (s := .dat (.list xs)) (by rw [List.getElem?_set_self lt]; rfl) (fun z => nomatch z)
  rw [hv] at hv'
  cases hv'
  exact ⟨v, hv, k v H _ _ _ q (R1.dat h)⟩
theorem den_int {n : Int} (q : R (.dat (.int n)) δ t) : Den K G (tC (.int n)) δ τ t R := fun σ vs H Q R0 k => k _ _ _ _ _ q (R0.sc (.int n))
theorem den_bl {n : Bool} (q : R (.dat (.bool n)) δ t) : Den K G (tC (.bl n)) δ τ t R := fun σ vs H Q R0 k => k _ _ _ _ _ q (R0.sc (.bl n))
theorem den_str {n : Str} (q : R (.dat (.str n)) δ t) : Den K G (tC (.str n)) δ τ t R := fun σ vs H Q R0 k => k _ _ _ _ _ q (R0.sc (.str n))
theorem den_non (q : R (.dat .none) δ t) : Den K G (tC .non) δ τ t R := fun σ vs H Q R0 k => k _ _ _ _ _ q (R0.sc .non)
theorem den_ty {n : String} (q : R (.raw (.ty n)) δ t) : Den K G (tC (.ty n)) δ τ t R := fun σ vs H Q R0 k => k _ _ _ _ _ q (R0.push (s := .raw (.ty n)) rfl fun _ => rfl)
theorem den_ref {a : Addr} (q : R (.raw (.ref a)) δ t) : Den K G (tC (.ref a)) δ τ t R := fun σ vs H Q R0 k => k _ _ _ _ _ q (R0.push (s := .raw (.ref a)) rfl fun _ => rfl)
theorem den_op {r : R2} (q : Den K G ta δ τ t fun x δ1 t1 => Den K G tb δ1 (x :: τ) t1 fun y δ2 t2 => Dop K G r x y δ2 τ t2 R) : Den K G (tOp r ta tb) δ τ t R := fun σ vs H Q R0 k =>
  q σ vs H _ R0 fun u H1 x δ1 t1 q1 R1 => q1 σ (u :: vs) H1 _ R1 fun v H2 y δ2 t2 q2 R2 => q2 σ vs H2 u v Q R2 k
theorem den_un {r : V → Hp → VK → Prop} (q : Den K G ta δ τ t fun x δ1 t1 => Dun K G r x δ1 τ t1 R) : Den K G (tUn r ta) δ τ t R := fun σ vs H Q R0 k =>
  q σ vs H _ R0 fun u H1 x δ1 t1 q1 R1 => q1 σ vs H1 u Q R1 k
theorem dop_I0 {g : Int → Int → V} {i j : Int} {d : PyData} (h : Sc (g i j) d) (q : R (.dat d) δ t) : Dop K G (rI0 g) (.dat (.int i)) (.dat (.int j)) δ τ t R := fun σ vs H u v Q R0 k =>
  ⟨i, j, R0.h2.int, R0.head.int, k _ _ _ _ _ q (R0.pop.pop.sc h)⟩
theorem dop_I {C : Int → Int → Prop} {g : Int → Int → V} {i j : Int} {d : PyData} (h : Sc (g i j) d) (c : C i j) (q : R (.dat d) δ t) : Dop K G (rI C g) (.dat (.int i)) (.dat (.int j)) δ τ t R := fun σ vs H u v Q R0 k =>
  ⟨i, j, R0.h2.int, R0.head.int, c, k _ _ _ _ _ q (R0.pop.pop.sc h)⟩
theorem dop_andM {i j : Int} {n : Nat} (e : j = 2 ^ n - 1) (q : R (.dat (.int (i % 2 ^ n))) δ t) : Dop K G rAndM (.dat (.int i)) (.dat (.int j)) δ τ t R := fun σ vs H u v Q R0 k =>
  ⟨i, n, R0.h2.int, by rw [← e]; exact R0.head.int, k _ _ _ _ _ q (R0.pop.pop.sc (.int _))⟩
theorem dun_U {g : Int → V} {i : Int} {d : PyData} (h : Sc (g i) d) (q : R (.dat d) δ t) : Dun K G (rU g) (.dat (.int i)) δ τ t R := fun σ vs H u Q R0 k =>
  ⟨i, R0.head.int, k _ _ _ _ _ q (R0.pop.sc h)⟩
/-- == of scalars -/
def sceq : PyData → PyData → Option Bool
  | .int i, .int j => some (decide (i = j))
  | .str i, .str j => some (decide (i = j))
  | .bool i, .bool j => some (decide (i = j))
  | .none, .none => some true
  | .none, .int _ => some false
  | .int _, .none => some false
  | .none, .str _ => some false
  | .str _, .none => some false
  | .none, .bool _ => some false
  | .bool _, .none => some false
  | .int _, .str _ => some false
  | .str _, .int _ => some false
  | .bool _, .str _ => some false
  | .str _, .bool _ => some false
  | _, _ => none
theorem sceq_ok {O : Addr → Prop} {H : Hp} {d e : PyData} {b : Bool} {u v : V} (h : sceq d e = some b) (hu : RV K G O H (.dat d) u) (hv : RV K G O H (.dat e) v) : scal u v = true ∧ decide (u = v) = b := by
  have w : ∀ {A B : Type} {x y : A} {f : A → B} [DecidableEq A] [DecidableEq B], (∀ x y, f x = f y → x = y) → decide (f x = f y) = decide (x = y) := fun {A B x y f _ _} inj => by
    by_cases h : x = y
    · subst h
      rw [decide_eq_true rfl, decide_eq_true rfl]
    · rw [decide_eq_false h, decide_eq_false fun z => h (inj _ _ z)]
  cases d <;> cases e <;> simp only [sceq] at h <;> cases h <;> cases hu <;> cases hv <;> refine ⟨rfl, ?_⟩ <;> first
    | exact w fun _ _ z => by injection z
    | rfl
theorem dop_eq {d e : PyData} {b : Bool} (h : sceq d e = some b) (q : R (.dat (.bool b)) δ t) : Dop K G rEq (.dat d) (.dat e) δ τ t R := fun σ vs H u v Q R0 k => by
  obtain ⟨h1, h2⟩ := sceq_ok h R0.h2 R0.head
  refine ⟨h1, k _ _ _ _ _ q (R0.pop.pop.sc ?_)⟩
  rw [h2]
  exact .bl b
theorem dop_ne {d e : PyData} {b : Bool} (h : sceq d e = some b) (q : R (.dat (.bool (!b))) δ t) : Dop K G rNe (.dat d) (.dat e) δ τ t R := fun σ vs H u v Q R0 k => by
  obtain ⟨h1, h2⟩ := sceq_ok h R0.h2 R0.head
  refine ⟨h1, k _ _ _ _ _ q (R0.pop.pop.sc ?_)⟩
  rw [h2]
  exact .bl _
theorem dop_eqD {x y : Sl} {d e : PyData} (hx : x.dv = some d) (hy : y.dv = some e) (sd : SeqAt.shaped d = true) (se : SeqAt.shaped e = true) (q : R (.dat (.bool (PyData.eqv d e))) δ t) : Dop K G (rEqD K) x y δ τ t R := fun σ vs H u v Q R0 k =>
  ⟨d, e, (R0.h2.full hx).dp _ (SeqAt.canLay_of_shaped sd), (R0.head.full hy).dp _ (SeqAt.canLay_of_shaped se), sd, se, k _ _ _ _ _ q (R0.pop.pop.sc (.bl _))⟩
theorem dop_neD {x y : Sl} {d e : PyData} (hx : x.dv = some d) (hy : y.dv = some e) (sd : SeqAt.shaped d = true) (se : SeqAt.shaped e = true) (q : R (.dat (.bool (!PyData.eqv d e))) δ t) : Dop K G (rNeD K) x y δ τ t R := fun σ vs H u v Q R0 k =>
  ⟨d, e, (R0.h2.full hx).dp _ (SeqAt.canLay_of_shaped sd), (R0.head.full hy).dp _ (SeqAt.canLay_of_shaped se), sd, se, k _ _ _ _ _ q (R0.pop.pop.sc (.bl _))⟩
def isNone : PyData → Bool
  | .none => true
  | _ => false
theorem isNone_ok {H : Hp} {d : PyData} {u : V} (h : Dq K H u d) : decide (u = .non) = isNone d := by
  cases h <;> rfl
theorem dop_isN {x : Sl} {d : PyData} (hx : x.dv = some d) (q : R (.dat (.bool (isNone d))) δ t) : Dop K G (fun x y H Q => y = .non ∧ Q (.bl (decide (x = .non))) H) x (.dat .none) δ τ t R := fun σ vs H u v Q R0 k => by
  refine ⟨?_, k _ _ _ _ _ q (R0.pop.pop.sc ?_)⟩
  · cases R0.head
    rfl
  · rw [isNone_ok (R0.h2.full hx)]
    exact .bl _
theorem dop_notN {x : Sl} {d : PyData} (hx : x.dv = some d) (q : R (.dat (.bool (!isNone d))) δ t) : Dop K G (fun x y H Q => y = .non ∧ Q (.bl (!decide (x = .non))) H) x (.dat .none) δ τ t R := fun σ vs H u v Q R0 k => by
  refine ⟨?_, k _ _ _ _ _ q (R0.pop.pop.sc ?_)⟩
  · cases R0.head
    rfl
  · rw [isNone_ok (R0.h2.full hx)]
    exact .bl _
theorem weak {x : Sl} {H : Hp} : Same (hid (Pr G δ (x :: τ)) H) (hid (Pr G δ τ) H) := hid_mono fun b h => by
  rcases h with h | h
  · exact .inl h
  · exact .inr (by simp only [cnt]; omega)
theorem weak2 {x y : Sl} {H : Hp} : Same (hid (Pr G δ (y :: x :: τ)) H) (hid (Pr G δ τ) H) := weak.trans weak
theorem at_get {H : Hp} {us : List V} {ds : List PyData} {j : Int} {d : PyData} (h : DqAll K H us ds) (e : atI ds j = some d) : ∃ v, atI us j = some v ∧ Dq K H v d := by
  unfold atI at e ⊢
  rw [h.len]
  cases q : ixN ds.length j with
  | none =>
    rw [q] at e
    cases e
  | some n =>
    rw [q] at e
    exact h.get e
theorem dop_ixL {x : Sl} {ds : List PyData} {j : Int} {d : PyData} (hx : x.dv = some (.list ds)) (e : atI ds j = some d) (q : R (.dat d) δ t) : Dop K G (rIxL K) x (.dat (.int j)) δ τ t R := fun σ vs H u v Q R0 k => by
  obtain ⟨p, us, rfl, hp, hq⟩ := R0.h2.items hx
  obtain ⟨w, hw, qw⟩ := at_get hq e
  refine ⟨p, us, j, w, rfl, R0.head.int, SqL.of hp, hw, k _ _ _ _ _ q (R0.pop.pop.dat (qw.mono (hid_mono fun b h => ?_) _))⟩
  rcases h with h | h
  · exact .inl h
  · exact .inr (by simp only [cnt]; omega)
theorem dop_ixT {ds : List PyData} {j : Int} {d : PyData} (e : atI ds j = some d) (q : R (.dat d) δ t) : Dop K G (rIxT K) (.dat (.tuple ds)) (.dat (.int j)) δ τ t R := fun σ vs H u v Q R0 k => by
  obtain ⟨p, us, rfl, hp, hq⟩ := R0.h2.itemsT
  obtain ⟨w, hw, qw⟩ := at_get hq e
  exact ⟨p, us, j, w, rfl, R0.head.int, hp, hw, k _ _ _ _ _ q (R0.pop.pop.dat (qw.mono weak2 _))⟩
theorem dop_ixS {z : Str} {j : Int} {c : Nat} (l : z.length ≤ sizeLine) (e : atI z.cps.toList j = some c) (q : R (.dat (.str ⟨#[c]⟩)) δ t) : Dop K G rIxS (.dat (.str z)) (.dat (.int j)) δ τ t R := fun σ vs H u v Q R0 k =>
  ⟨z, j, c, R0.h2.str, R0.head.int, l, e, k _ _ _ _ _ q (R0.pop.pop.sc (.str _))⟩
theorem dop_cat {x y : Sl} {ds es : List PyData} (hx : x.dv = some (.list ds)) (hy : y.dv = some (.list es)) (l : ds.length + es.length ≤ 1000000) (q : ∀ p, R (.own p (ds ++ es)) δ t) : Dop K G rCat x y δ τ t R := fun σ vs H u v Q R0 k => by
  obtain ⟨a, us, rfl, ha, qa⟩ := R0.h2.items hx
  obtain ⟨b, ws, rfl, hb, qb⟩ := R0.head.items hy
  have m : Same (hid (Pr G δ (y :: x :: τ)) H) (hid (Pr G δ τ) H) := hid_mono fun b h => by
    rcases h with h | h
    · exact .inl h
    · exact .inr (by simp only [cnt]; omega)
  refine ⟨a, b, us, ws, rfl, rfl, ha, hb, ?_, fun p n => k _ _ _ _ _ (q p) (R0.pop.pop.lst n ((qa.mono m _).append (qb.mono m _)))⟩
  rw [qa.len, qb.len, sizeLine_eq]
  omega
theorem dop_rep {x : Sl} {ds : List PyData} {i : Int} (hx : x.dv = some (.list ds)) (l : i ≤ 1000000 ∧ -1000000 ≤ i ∧ ds.length * i.toNat ≤ 1000000) (q : ∀ p, R (.own p (List.replicate i.toNat ds).flatten) δ t) : Dop K G rRep x (.dat (.int i)) δ τ t R := fun σ vs H u v Q R0 k => by
  obtain ⟨a, us, rfl, ha, qa⟩ := R0.h2.items hx
  have m : Same (hid (Pr G δ (.dat (.int i) :: x :: τ)) H) (hid (Pr G δ τ) H) := hid_mono fun b h => by
    rcases h with h | h
    · exact .inl h
    · exact .inr (by simp only [cnt]; omega)
  refine ⟨a, i, us, rfl, R0.head.int, ha, by omega, by omega, ?_, fun p n => k _ _ _ _ _ (q p) (R0.pop.pop.lst n ((qa.rep _).mono m _))⟩
  rw [qa.len, sizeLine_eq]
  omega
theorem dop_repT {ds : List PyData} {i : Int} (ne : ds ≠ []) (l : 2 ≤ i ∧ i ≤ 1000 ∧ ds.length ≤ 1000) (q : R (.dat (.tuple (List.replicate i.toNat ds).flatten)) δ t) : Dop K G (rRepT K) (.dat (.tuple ds)) (.dat (.int i)) δ τ t R := fun σ vs H u v Q R0 k => by
  obtain ⟨a, us, rfl, ha, qa⟩ := R0.h2.itemsT
  have e := qa.len
  refine ⟨a, i, us, rfl, R0.head.int, ha, fun z => ne ?_, l.1, l.2.1, by rw [e]; exact l.2.2, fun p n => k _ _ _ _ _ q (R0.pop.pop.tup n ((qa.rep _).mono weak2 _))⟩
  rw [z] at e
  exact List.eq_nil_of_length_eq_zero e.symm
theorem dop_catT {ds es : List PyData} (l : ds.length + es.length ≤ 1000000) (ne : ds ≠ []) (q : R (.dat (.tuple (ds ++ es))) δ t) : Dop K G (rCatT K) (.dat (.tuple ds)) (.dat (.tuple es)) δ τ t R := fun σ vs H u v Q R0 k => by
  obtain ⟨a, us, rfl, ha, qa⟩ := R0.h2.itemsT
  obtain ⟨b, ws, rfl, hb, qb⟩ := R0.head.itemsT
  have e := qa.len
  have e2 := qb.len
  refine ⟨a, b, us, ws, rfl, rfl, ha, hb, fun z => ne ?_, by rw [e, e2, sizeLine_eq]; omega, fun z => ?_, fun _ p n => k _ _ _ _ _ q (R0.pop.pop.tup n ((qa.append qb).mono weak2 _))⟩
  · rw [z] at e
    exact List.eq_nil_of_length_eq_zero e.symm
  · rw [z] at e2
    have e3 : es = [] := List.eq_nil_of_length_eq_zero e2.symm
    subst e3
    rw [List.append_nil] at q
    exact k _ _ _ _ _ q (R0.pop.pop.dat (Dq.mono weak2 _ R0.h2))
theorem den_not (q : Den K G ta δ τ t fun x δ1 t1 => ∃ b, x = .dat (.bool b) ∧ R (.dat (.bool (!b))) δ1 t1) : Den K G (tNotV ta) δ τ t R := fun σ vs H Q R0 k =>
  q σ vs H _ R0 fun u H1 x δ1 t1 ⟨b, e, q1⟩ R1 => by
    subst e
    exact ⟨b, R1.head.bool, k _ _ _ _ _ q1 (R1.pop.sc (.bl _))⟩
theorem den_and (q : Den K G ta δ τ t fun x δ1 t1 => ∃ b, x = .dat (.bool b) ∧ if b = true then Den K G tb δ1 τ t1 R else R (.dat (.bool false)) δ1 t1) : Den K G (tAndV ta tb) δ τ t R := fun σ vs H Q R0 k =>
  q σ vs H _ R0 fun u H1 x δ1 t1 ⟨b, e, q1⟩ R1 => by
    subst e
    refine ⟨b, R1.head.bool, ?_⟩
    cases b with
    | true =>
      rw [if_pos rfl] at q1 ⊢
      exact q1 σ vs H1 Q R1.pop k
    | false =>
      rw [if_neg Bool.false_ne_true] at q1 ⊢
      exact k _ _ _ _ _ q1 (R1.pop.sc (.bl _))
theorem den_or (q : Den K G ta δ τ t fun x δ1 t1 => ∃ b, x = .dat (.bool b) ∧ if b = true then R (.dat (.bool true)) δ1 t1 else Den K G tb δ1 τ t1 R) : Den K G (tOrV ta tb) δ τ t R := fun σ vs H Q R0 k =>
  q σ vs H _ R0 fun u H1 x δ1 t1 ⟨b, e, q1⟩ R1 => by
    subst e
    refine ⟨b, R1.head.bool, ?_⟩
    cases b with
    | true =>
      rw [if_pos rfl] at q1 ⊢
      exact k _ _ _ _ _ q1 (R1.pop.sc (.bl _))
    | false =>
      rw [if_neg Bool.false_ne_true] at q1 ⊢
      exact q1 σ vs H1 Q R1.pop k
theorem den_if {c : TT} (q : DenT K G c δ τ t fun b δ1 t1 => if b = true then Den K G ta δ1 τ t1 R else Den K G tb δ1 τ t1 R) : Den K G (tIf c ta tb) δ τ t R := fun σ vs H Q R0 k =>
  q σ vs H _ R0 fun b H1 δ1 t1 q1 R1 => by
    cases b with
    | true =>
      rw [if_pos rfl] at q1 ⊢
      exact q1 σ vs H1 Q R1 k
    | false =>
      rw [if_neg Bool.false_ne_true] at q1 ⊢
      exact q1 σ vs H1 Q R1 k
theorem den_chain {g g' : Int → Int → Bool} (q : Den K G ta δ τ t fun x δ1 t1 => Den K G tb δ1 (x :: τ) t1 fun y δ2 t2 => ∃ i j, x = .dat (.int i) ∧ y = .dat (.int j) ∧
    if g i j = true then Den K G tc δ2 τ t2 fun z δ3 t3 => ∃ k, z = .dat (.int k) ∧ R (.dat (.bool (g' j k))) δ3 t3 else R (.dat (.bool false)) δ2 t2) :
    Den K G (tChain (rI0 fun i j => .bl (g i j)) (rI0 fun i j => .bl (g' i j)) ta tb tc) δ τ t R := fun σ vs H Q R0 k =>
  q σ vs H _ R0 fun u H1 x δ1 t1 q1 R1 => q1 σ (u :: vs) H1 _ R1 fun v H2 y δ2 t2 ⟨i, j, ex, ey, q2⟩ R2 => by
    subst ex
    subst ey
    refine ⟨i, j, R2.h2.int, R2.head.int, g i j, rfl, ?_⟩
    cases h : g i j with
    | true =>
      rw [h, if_pos rfl] at q2
      rw [if_pos rfl]
      refine q2 σ vs H2 _ R2.pop.pop fun w H3 z δ3 t3 ⟨c, ez, q3⟩ R3 => ?_
      subst ez
      exact ⟨j, c, R2.head.int, R3.head.int, k _ _ _ _ _ q3 (R3.pop.sc (.bl _))⟩
    | false =>
      rw [h, if_neg Bool.false_ne_true] at q2
      rw [if_neg Bool.false_ne_true]
      exact k _ _ _ _ _ q2 (R2.pop.pop.sc (.bl _))
/-! arguments, displays -/
theorem dena_nil {Ra : List Sl → List Sl → Nat → Prop} (q : Ra [] δ t) : DenA K G tNil δ τ t Ra := fun σ vs H Q R0 k => k [] H [] _ _ q rfl R0
theorem dena_cons {Ra : List Sl → List Sl → Nat → Prop} {tr : TA} (q : Den K G ta δ τ t fun x δ1 t1 => DenA K G tr δ1 (x :: τ) t1 fun xs δ2 t2 => Ra (x :: xs) δ2 t2) : DenA K G (tCons ta tr) δ τ t Ra := fun σ vs H Q R0 k =>
  q σ vs H _ R0 fun u H1 x δ1 t1 q1 R1 => q1 σ (u :: vs) H1 _ R1 fun us H2 xs δ2 t2 q2 l R2 => k (u :: us) H2 (x :: xs) δ2 t2 q2 (congrArg (· + 1) l) (R2.up1 l)
def dvs : List Sl → Option (List PyData)
  | [] => some []
  | s :: ss => match s.dv, dvs ss with
    | some d, some ds => some (d :: ds)
    | _, _ => none
theorem soft_dv {s : Sl} {d : PyData} (e : s.dv = some d) : s.soft = .dat d := by
  cases s <;> cases e <;> rfl
theorem soft_dvs : ∀ {xs : List Sl} {ds : List PyData}, dvs xs = some ds → xs.map Sl.soft = ds.map Sl.dat
  | [], _, e => by
    cases e
    rfl
  | s :: ss, ds, e => by
    unfold dvs at e
    cases h1 : s.dv with
    | none => rw [h1] at e; cases e
    | some d =>
      cases h2 : dvs ss with
      | none => rw [h1, h2] at e; cases e
      | some es =>
        rw [h1, h2] at e
        cases e
        rw [List.map_cons, List.map_cons, soft_dv h1, soft_dvs h2]
theorem dats : ∀ {ds : List PyData} {us : List V} {O : Addr → Prop} {H : Hp}, Paired (fun s v => RV K G O H s v) (ds.map Sl.dat) us → DqAll K (hid O H) us ds
  | [], _, _, _, h => by
    cases h
    exact .nil
  | d :: ds, _, _, _, h => by
    cases h with
    | cons h t => exact .cons h (dats t)
theorem Rl.args {xs : List Sl} {ds : List PyData} {σ : L2.St} {us vs : List V} {H : Hp} (R0 : Rl K G δ (xs ++ τ) t σ (us ++ vs) H) (l : xs.length = us.length) (e : dvs xs = some ds) : Rl K G δ τ t σ vs H ∧ DqAll K (hid (Pr G δ τ) H) us ds := by
  have R1 := R0.softAll l
  rw [soft_dvs e] at R1
  have l1 : (ds.map Sl.dat).length = us.length := by
    rw [← soft_dvs e, List.length_map]
    exact l
  have pr : Pr G δ (ds.map Sl.dat ++ τ) = Pr G δ τ := funext fun b => by
    have : cnt b (ds.map Sl.dat) = 0 := by rw [← soft_dvs e]; exact cnt_soft xs
    unfold Pr
    rw [cnt_append, this, Nat.zero_add]
  refine ⟨R0.drop l, ?_⟩
  have := dats (psplitL l1 R1.tm).1
  rwa [pr] at this
theorem den_tup {tr : TA} (q : DenA K G tr δ τ t fun xs δ1 t1 => ∃ ds, dvs xs = some ds ∧ xs.length ≤ 1000 ∧ R (.dat (.tuple ds)) δ1 t1) : Den K G (tTup tr) δ τ t R := fun σ vs H Q R0 k =>
  q σ vs H _ R0 fun us H1 xs δ1 t1 ⟨ds, e, few, q1⟩ l R1 => by
    obtain ⟨R2, h⟩ := R1.args l e
    exact ⟨Nat.le_of_lt (small1000 (by rw [← l]; exact few)), fun p n => k _ _ _ _ _ q1 (R2.tup n h)⟩
theorem den_lst {tr : TA} (q : DenA K G tr δ τ t fun xs δ1 t1 => ∃ ds, dvs xs = some ds ∧ xs.length ≤ 1000 ∧ ∀ p, R (.own p ds) δ1 t1) : Den K G (tLst tr) δ τ t R := fun σ vs H Q R0 k =>
  q σ vs H _ R0 fun us H1 xs δ1 t1 ⟨ds, e, few, q1⟩ l R1 => by
    obtain ⟨R2, h⟩ := R1.args l e
    exact ⟨Nat.le_of_lt (small1000 (by rw [← l]; exact few)), fun p n => k _ _ _ _ _ (q1 p) (R2.lst n h)⟩
theorem den_cb {r : List V → Hp → VK → Prop} {tr : TA} (q : DenA K G tr δ τ t fun xs δ1 t1 => Dcb K G r xs δ1 τ t1 R) : Den K G (tCB r tr) δ τ t R := fun σ vs H Q R0 k =>
  q σ vs H _ R0 fun us H1 xs δ1 t1 q1 l R1 => q1 σ vs H1 us Q l R1 k
/-- a list becomes data, wanted or not -/
theorem one_arg {xs : List Sl} {x : Sl} {us : List V} (l : [x].length = us.length) : ∃ u, us = [u] := by
  match us, l with
  | [u], _ => exact ⟨u, rfl⟩
theorem two_args {x y : Sl} {us : List V} (l : [x, y].length = us.length) : ∃ u v, us = [u, v] := by
  match us, l with
  | [u, v], _ => exact ⟨u, v, rfl⟩
theorem dcb_len {x : Sl} {ds : List PyData} (hx : x.dv = some (.list ds)) (q : R (.dat (.int ds.length)) δ t) : Dcb K G (Lw.rLen K) [x] δ τ t R := fun σ vs H us Q l R0 k => by
  obtain ⟨u, rfl⟩ := one_arg (xs := []) l
  obtain ⟨p, ws, rfl, hp, hq⟩ := R0.head.items hx
  refine ⟨p, ws, rfl, .inl (SqL.of hp), k _ _ _ _ _ q (R0.pop.sc ?_)⟩
  rw [hq.len]
  exact .int _
theorem dcb_lenT {ds : List PyData} (q : R (.dat (.int ds.length)) δ t) : Dcb K G (Lw.rLen K) [.dat (.tuple ds)] δ τ t R := fun σ vs H us Q l R0 k => by
  obtain ⟨u, rfl⟩ := one_arg (xs := []) l
  obtain ⟨p, ws, rfl, hp, hq⟩ := RV.itemsT R0.head
  refine ⟨p, ws, rfl, .inr hp, k _ _ _ _ _ q (R0.pop.sc ?_)⟩
  rw [hq.len]
  exact .int _
theorem dcb_list {x : Sl} {ds : List PyData} (hx : x.dv = some (.list ds)) (q : ∀ p, R (.own p ds) δ t) : Dcb K G (rListOf K) [x] δ τ t R := fun σ vs H us Q l R0 k => by
  obtain ⟨u, rfl⟩ := one_arg (xs := []) l
  obtain ⟨p, ws, rfl, hp, hq⟩ := R0.head.items hx
  exact ⟨p, ws, rfl, .inl (SqL.of hp), fun a n => k _ _ _ _ _ (q a) (R0.pop.lst n (hq.mono weak _))⟩
theorem dcb_listT {ds : List PyData} (q : ∀ p, R (.own p ds) δ t) : Dcb K G (rListOf K) [.dat (.tuple ds)] δ τ t R := fun σ vs H us Q l R0 k => by
  obtain ⟨u, rfl⟩ := one_arg (xs := []) l
  obtain ⟨p, ws, rfl, hp, hq⟩ := RV.itemsT R0.head
  exact ⟨p, ws, rfl, .inr hp, fun a n => k _ _ _ _ _ (q a) (R0.pop.lst n (hq.mono weak _))⟩
theorem dcb_tup {x : Sl} {ds : List PyData} (hx : x.dv = some (.list ds)) (q : R (.dat (.tuple ds)) δ t) : Dcb K G (rTupOf K) [x] δ τ t R := fun σ vs H us Q l R0 k => by
  obtain ⟨u, rfl⟩ := one_arg (xs := []) l
  obtain ⟨p, ws, rfl, hp, hq⟩ := R0.head.items hx
  exact ⟨p, ws, rfl, .inl ⟨SqL.of hp, fun a n => k _ _ _ _ _ q (R0.pop.tup n (hq.mono weak _))⟩⟩
theorem dcb_int {i : Int} (q : R (.dat (.int i)) δ t) : Dcb K G rInt1 [.dat (.int i)] δ τ t R := fun σ vs H us Q l R0 k => by
  obtain ⟨u, rfl⟩ := one_arg (xs := []) l
  exact .inl ⟨i, by rw [RV.int R0.head], k _ _ _ _ _ q (R0.pop.sc (.int _))⟩
theorem dcb_intB {b : Bool} (q : R (.dat (.int (if b then 1 else 0))) δ t) : Dcb K G rInt1 [.dat (.bool b)] δ τ t R := fun σ vs H us Q l R0 k => by
  obtain ⟨u, rfl⟩ := one_arg (xs := []) l
  exact .inr ⟨b, by rw [RV.bool R0.head], k _ _ _ _ _ q (R0.pop.sc (.int _))⟩
theorem dcb_abs {i : Int} (q : R (.dat (.int (if i < 0 then -i else i))) δ t) : Dcb K G rAbs [.dat (.int i)] δ τ t R := fun σ vs H us Q l R0 k => by
  obtain ⟨u, rfl⟩ := one_arg (xs := []) l
  exact ⟨i, by rw [RV.int R0.head], k _ _ _ _ _ q (R0.pop.sc (.int _))⟩
theorem dcb_max2 {i j : Int} (q : R (.dat (.int (if j > i then j else i))) δ t) : Dcb K G rMx2 [.dat (.int i), .dat (.int j)] δ τ t R := fun σ vs H us Q l R0 k => by
  obtain ⟨u, v, rfl⟩ := two_args l
  exact ⟨i, j, by rw [RV.int R0.head, RV.int R0.h2], k _ _ _ _ _ q (R0.pop.pop.sc (.int _))⟩
theorem dcb_min2 {i j : Int} (q : R (.dat (.int (if j < i then j else i))) δ t) : Dcb K G rMn2 [.dat (.int i), .dat (.int j)] δ τ t R := fun σ vs H us Q l R0 k => by
  obtain ⟨u, v, rfl⟩ := two_args l
  exact ⟨i, j, by rw [RV.int R0.head, RV.int R0.h2], k _ _ _ _ _ q (R0.pop.pop.sc (.int _))⟩
theorem dcb_sum {x : Sl} {ns : List Int} (hx : x.dv = some (.list (ns.map .int))) (q : R (.dat (.int ns.sum)) δ t) : Dcb K G (rSum K) [x] δ τ t R := fun σ vs H us Q l R0 k => by
  obtain ⟨u, rfl⟩ := one_arg (xs := []) l
  obtain ⟨p, ws, rfl, hp, hq⟩ := R0.head.items hx
  rw [hq.ints_of] at hp
  exact ⟨p, ns, rfl, SqL.of hp, k _ _ _ _ _ q (R0.pop.sc (.int _))⟩
theorem dcb_max {x : Sl} {ns : List Int} (hx : x.dv = some (.list (ns.map .int))) (l0 : 0 < ns.length) (q : ∀ m, m ∈ ns → (∀ y, y ∈ ns → y ≤ m) → R (.dat (.int m)) δ t) : Dcb K G (rMax K) [x] δ τ t R := fun σ vs H us Q l R0 k => by
  obtain ⟨u, rfl⟩ := one_arg (xs := []) l
  obtain ⟨p, ws, rfl, hp, hq⟩ := R0.head.items hx
  rw [hq.ints_of] at hp
  exact ⟨p, ns, rfl, SqL.of hp, l0, fun m h1 h2 => k _ _ _ _ _ (q m h1 h2) (R0.pop.sc (.int _))⟩
theorem dcb_min {x : Sl} {ns : List Int} (hx : x.dv = some (.list (ns.map .int))) (l0 : 0 < ns.length) (q : ∀ m, m ∈ ns → (∀ y, y ∈ ns → m ≤ y) → R (.dat (.int m)) δ t) : Dcb K G (rMin K) [x] δ τ t R := fun σ vs H us Q l R0 k => by
  obtain ⟨u, rfl⟩ := one_arg (xs := []) l
  obtain ⟨p, ws, rfl, hp, hq⟩ := R0.head.items hx
  rw [hq.ints_of] at hp
  exact ⟨p, ns, rfl, SqL.of hp, l0, fun m h1 h2 => k _ _ _ _ _ (q m h1 h2) (R0.pop.sc (.int _))⟩
theorem dcb_all {x : Sl} {bs : List Bool} (hx : x.dv = some (.list (bs.map .bool))) (q : R (.dat (.bool (bs.all id))) δ t) : Dcb K G (rAll K) [x] δ τ t R := fun σ vs H us Q l R0 k => by
  obtain ⟨u, rfl⟩ := one_arg (xs := []) l
  obtain ⟨p, ws, rfl, hp, hq⟩ := R0.head.items hx
  rw [hq.bools_of] at hp
  exact ⟨p, bs, rfl, SqL.of hp, k _ _ _ _ _ q (R0.pop.sc (.bl _))⟩
theorem dcb_any {x : Sl} {bs : List Bool} (hx : x.dv = some (.list (bs.map .bool))) (q : R (.dat (.bool (bs.any id))) δ t) : Dcb K G (rAny K) [x] δ τ t R := fun σ vs H us Q l R0 k => by
  obtain ⟨u, rfl⟩ := one_arg (xs := []) l
  obtain ⟨p, ws, rfl, hp, hq⟩ := R0.head.items hx
  rw [hq.bools_of] at hp
  exact ⟨p, bs, rfl, SqL.of hp, k _ _ _ _ _ q (R0.pop.sc (.bl _))⟩
theorem dcb_repI {i : Int} (h : i.natAbs.log2 < 1920) (q : R (.dat (.str (PyData.shown (.int i)))) δ t) : Dcb K G rRepI [.dat (.int i)] δ τ t R := fun σ vs H us Q l R0 k => by
  obtain ⟨u, rfl⟩ := one_arg (xs := []) l
  exact ⟨i, by rw [RV.int R0.head], h, k _ _ _ _ _ q (R0.pop.sc (.str _))⟩
theorem dcb_repr {x : Sl} {d : PyData} (hx : x.dv = some d) (s : Shows d) (r : match d with | .list _ => True | .tuple _ => True | _ => False) (q : R (.dat (.str d.shown)) δ t) : Dcb K G (rRepr K) [x] δ τ t R := fun σ vs H us Q l R0 k => by
  obtain ⟨u, rfl⟩ := one_arg (xs := []) l
  have h := R0.head.full hx
  obtain ⟨a, rfl⟩ : ∃ a, u = .ref a := by
    cases h with
    | lst _ _ => exact ⟨_, rfl⟩
    | tup _ _ => exact ⟨_, rfl⟩
    | non => exact r.elim
    | bl _ => exact r.elim
    | int _ => exact r.elim
    | str _ => exact r.elim
    | dct _ _ => exact ⟨_, rfl⟩
    | obj _ _ _ => exact ⟨_, rfl⟩
  exact ⟨a, d, rfl, h.dp _ s.lay, s.show_, s.flat, Nat.le_trans s.deep (by decide), s.size, k _ _ _ _ _ q (R0.pop.sc (.str _))⟩
/-! slices -/
theorem deno_none {Ro : Option Int → List Sl → Nat → Prop} (q : Ro none δ t) : DenO K G tNoPart δ τ t Ro := fun σ vs H Q R0 k => k _ _ _ _ q R0
theorem deno_some {Ro : Option Int → List Sl → Nat → Prop} (q : Den K G te δ τ t fun x δ1 t1 => ∃ i, x = .dat (.int i) ∧ Ro (some i) δ1 t1) : DenO K G (tPart te) δ τ t Ro := fun σ vs H Q R0 k =>
  q σ vs H _ R0 fun u H1 x δ1 t1 ⟨i, e, q1⟩ R1 => by
    subst e
    exact ⟨i, R1.head.int, k _ _ _ _ q1 R1.pop⟩
def cutD (xs : List PyData) (lo hi : Option Int) : List PyData := (xs.drop (HT.sIx xs.length 0 lo)).take (HT.sIx xs.length xs.length hi - HT.sIx xs.length 0 lo)
theorem cut_ok {H : Hp} {us : List V} {ds : List PyData} (h : DqAll K H us ds) (lo hi : Option Int) : DqAll K H (cutV us lo hi) (cutD ds lo hi) := by
  unfold cutV cutD
  rw [h.len]
  exact (h.drop _).take _
def Dsl (K : PySem.W.Frag) (G : Pa) (r : V → Option Int → Option Int → Hp → VK → Prop) (x : Sl) (lo hi : Option Int) (δ τ : List Sl) (t : Nat) (R : RX) : Prop :=
  ∀ σ vs H u Q, Rl K G δ (x :: τ) t σ (u :: vs) H → (∀ w H' z δ' t', R z δ' t' → Rl K G δ' (z :: τ) t' σ (w :: vs) H' → Q w H') → r u lo hi H Q
theorem den_sl {r : V → Option Int → Option Int → Hp → VK → Prop} {tl th : TO} (q : Den K G te δ τ t fun x δ1 t1 => DenO K G tl δ1 (x :: τ) t1 fun lo δ2 t2 => DenO K G th δ2 (x :: τ) t2 fun hi δ3 t3 => Dsl K G r x lo hi δ3 τ t3 R) : Den K G (tSl r te tl th) δ τ t R := fun σ vs H Q R0 k =>
  q σ vs H _ R0 fun u H1 x δ1 t1 q1 R1 => q1 σ (u :: vs) H1 _ R1 fun lo H2 δ2 t2 q2 R2 => q2 σ (u :: vs) H2 _ R2 fun hi H3 δ3 t3 q3 R3 => q3 σ vs H3 u Q R3 k
theorem dsl_L {x : Sl} {ds : List PyData} {lo hi : Option Int} (hx : x.dv = some (.list ds)) (q : ∀ p, R (.own p (cutD ds lo hi)) δ t) : Dsl K G (rSlL K) x lo hi δ τ t R := fun σ vs H u Q R0 k => by
  obtain ⟨p, ws, rfl, hp, hq⟩ := R0.head.items hx
  exact ⟨p, ws, rfl, SqL.of hp, fun a n => k _ _ _ _ _ (q a) (R0.pop.lst n ((cut_ok hq lo hi).mono weak _))⟩
theorem dsl_T {ds : List PyData} {lo hi : Option Int} (part : ¬ (HT.sIx ds.length 0 lo = 0 ∧ HT.sIx ds.length ds.length hi = ds.length)) (q : R (.dat (.tuple (cutD ds lo hi))) δ t) : Dsl K G (rSlT K) (.dat (.tuple ds)) lo hi δ τ t R := fun σ vs H u Q R0 k => by
  obtain ⟨p, ws, rfl, hp, hq⟩ := RV.itemsT R0.head
  exact ⟨p, ws, rfl, hp, by rw [hq.len]; exact part, fun a n => k _ _ _ _ _ q (R0.pop.tup n ((cut_ok hq lo hi).mono weak _))⟩
/-! tests -/
variable {Rt : Bool → List Sl → Nat → Prop} {c d : TT}
theorem dent_test (q : Den K G te δ τ t fun x δ1 t1 => ∃ b, x = .dat (.bool b) ∧ Rt b δ1 t1) : DenT K G (tTest te) δ τ t Rt := fun σ vs H Q R0 k =>
  q σ vs H _ R0 fun u H1 x δ1 t1 ⟨b, e, q1⟩ R1 => by
    subst e
    exact ⟨b, R1.head.bool, k _ _ _ _ q1 R1.pop⟩
theorem dent_B (q : Den K G te δ τ t fun x δ1 t1 => ∃ b, x = .dat (.bool b) ∧ Rt b δ1 t1) : DenT K G (tB te) δ τ t Rt := fun σ vs H Q R0 k =>
  q σ vs H _ R0 fun u H1 x δ1 t1 ⟨b, e, q1⟩ R1 => by
    subst e
    exact ⟨b, R1.head.bool, k _ _ _ _ q1 R1.pop⟩
theorem dent_not (q : DenT K G c δ τ t fun b δ1 t1 => Rt (!b) δ1 t1) : DenT K G (tNot c) δ τ t Rt := fun σ vs H Q R0 k =>
  q σ vs H _ R0 fun b H1 δ1 t1 q1 R1 => k _ _ _ _ q1 R1
theorem dent_and (q : DenT K G c δ τ t fun b δ1 t1 => if b = true then DenT K G d δ1 τ t1 Rt else Rt false δ1 t1) : DenT K G (tAnd c d) δ τ t Rt := fun σ vs H Q R0 k =>
  q σ vs H _ R0 fun b H1 δ1 t1 q1 R1 => by
    cases b with
    | true =>
      rw [if_pos rfl] at q1 ⊢
      exact q1 σ vs H1 Q R1 k
    | false =>
      rw [if_neg Bool.false_ne_true] at q1 ⊢
      exact k _ _ _ _ q1 R1
theorem dent_or (q : DenT K G c δ τ t fun b δ1 t1 => if b = true then Rt true δ1 t1 else DenT K G d δ1 τ t1 Rt) : DenT K G (tOr c d) δ τ t Rt := fun σ vs H Q R0 k =>
  q σ vs H _ R0 fun b H1 δ1 t1 q1 R1 => by
    cases b with
    | true =>
      rw [if_pos rfl] at q1 ⊢
      exact k _ _ _ _ q1 R1
    | false =>
      rw [if_neg Bool.false_ne_true] at q1 ⊢
      exact q1 σ vs H1 Q R1 k
theorem dent_yes (q : Rt true δ t) : DenT K G tYes δ τ t Rt := fun σ vs H Q R0 k => k _ _ _ _ q R0
end
end Dl

set_option Elab.async false
set_option linter.all false
set_option maxRecDepth 100000
set_option maxHeartbeats 4000000
/-! statements, loops, comprehensions, promises of defs, told by data -/
namespace Dl
open PySem PySem.Spec PyProof.Rows L2 Glay Lw
section
variable {K : PySem.W.Frag} {G : Pa} {δ τ : List Sl} {t : Nat} {R : RX} {te ta tb tc : TE} {D : DEnds} {ts us : TS} {Rg : List Sl → Nat → Prop}
/-! targets -/
theorem wipe_in {i : Nat} : ∀ {own : List Nat} (σ : L2.St) (o : Option V), i ∈ own → wipe (σ.set i o) own = wipe σ own
  | [], _, _, h => nomatch h
  | j :: own, σ, o, h => by
    by_cases hj : i ∈ own
    · show (wipe (σ.set i o) own).set j none = (wipe σ own).set j none
      rw [wipe_in σ o hj]
    · have e : i = j := by
        rcases List.mem_cons.mp h with h | h
        · exact h
        · exact (hj h).elim
      subst e
      have out : ∀ (own : List Nat), i ∉ own → wipe (σ.set i o) own = (wipe σ own).set i o := fun own => by
        induction own with
        | nil => intro _; rfl
        | cons k own ih =>
          intro h
          have hk : k ≠ i := fun z => h (by rw [z]; exact List.mem_cons_self)
          show (wipe (σ.set i o) own).set k none = ((wipe σ own).set k none).set i o
          rw [ih fun z => h (List.mem_cons_of_mem _ z), List.set_comm _ _ hk]
      show (wipe (σ.set i o) own).set i none = (wipe σ own).set i none
      rw [out own hj, List.set_set]
theorem dg_any {i : Nat} {x : Sl} {ch : Nat → Prop} (c : ch i) (q : Rg (δ.set i x) t) : DG K G (gName i) ch x δ τ t Rg := fun σ vs H v Q R0 k =>
  k _ _ _ _ q (R0.put i) fun own h => wipe_in σ _ (h i c)
theorem dg_dat {i : Nat} {d : PyData} {ch : Nat → Prop} (c : ch i) (q : Rg (δ.set i (.dat d)) t) : DG K G (gName i) ch (.dat d) δ τ t Rg := dg_any c q
theorem dg_soft {i : Nat} {p : Addr} {xs : List PyData} {ch : Nat → Prop} (c : ch i) (q : Rg (δ.set i (.dat (.list xs))) t) : DG K G (gName i) ch (.own p xs) δ τ t Rg := fun σ vs H v Q R0 k =>
  k _ _ _ _ q (R0.softTop.put i) fun own h => wipe_in σ _ (h i c)
theorem dg_drw {i : Nat} {ch : Nat → Prop} (c : ch i) (q : Rg (δ.set i .drw) t) : DG K G (gName i) ch .drw δ τ t Rg := dg_any c q
theorem dg_raw {i : Nat} {u : V} {ch : Nat → Prop} (c : ch i) (q : Rg (δ.set i (.raw u)) t) : DG K G (gName i) ch (.raw u) δ τ t Rg := dg_any c q
/-- a name that holds a list of one's own -/
def gOwn (i : Nat) : TG := gName i
def tOwn (i : Nat) : TE := tVar i
theorem dg_own {i : Nat} {p : Addr} {xs : List PyData} {ch : Nat → Prop} (c : ch i) (q : Rg (δ.set i (.own p xs)) t) : DG K G (gOwn i) ch (.own p xs) δ τ t Rg := dg_any (i := i) c q
theorem dg_ownD {i : Nat} {d : PyData} {ch : Nat → Prop} (c : ch i) (q : Rg (δ.set i (.dat d)) t) : DG K G (gOwn i) ch (.dat d) δ τ t Rg := dg_any (i := i) c q
theorem dgs_nil {ch : Nat → Prop} (q : Rg δ t) : DGs K G gNil ch [] δ τ t Rg := fun σ vs H us Q l R0 k => by
  match us, l with
  | [], _ => exact ⟨rfl, k _ _ _ _ q R0 fun _ _ => rfl⟩
theorem dgs_cons {g : TG} {gs : TGs} {ch : Nat → Prop} {x : Sl} {xs : List Sl} (no : ∀ p, cnt p xs = 0) (q : DG K G g ch x δ (xs ++ τ) t fun δ1 t1 => DGs K G gs ch xs δ1 τ t1 Rg) : DGs K G (gCons g gs) ch (x :: xs) δ τ t Rg := fun σ vs H us Q l R0 k => by
  match us, l with
  | u :: us, l =>
    refine ⟨u, us, rfl, ?_⟩
    refine q σ (us ++ vs) H u _ R0 fun σ1 H1 δ1 t1 q1 R1 w1 => ?_
    refine q1 σ1 vs H1 us _ (by simpa using l) R1 fun σ2 H2 δ2 t2 q2 R2 w2 => ?_
    exact k _ _ _ _ q2 R2 fun own h => (w2 own h).trans (w1 own h)
theorem cnt_dats {p : Addr} : ∀ ds : List PyData, cnt p (ds.map Sl.dat) = 0
  | [] => rfl
  | d :: ds => by
    show 0 + cnt p (ds.map Sl.dat) = 0
    rw [cnt_dats ds]
/-- the items of a tuple as values under way -/
theorem Rl.spread {ds : List PyData} {σ : L2.St} {vs us : List V} {H : Hp} (R0 : Rl K G δ τ t σ vs H) (h : DqAll K (hid (Pr G δ τ) H) us ds) : Rl K G δ (ds.map Sl.dat ++ τ) t σ (us ++ vs) H := by
  refine R0.less (fun p => ?_) (fun m => sl_to m R0.sl) fun m => papp ?_ (tm_to m R0.tm)
  · rw [cnt_append, cnt_dats]
    omega
  · have go : ∀ {us : List V} {ds : List PyData}, DqAll K (hid (Pr G δ τ) H) us ds → ∀ {O : Addr → Prop}, Same (hid (Pr G δ τ) H) (hid O H) → Paired (fun s v => RV K G O H s v) (ds.map Sl.dat) us := fun {us} => by
      induction us with
      | nil => intro ds h O m; cases h; exact .nil
      | cons u us ih =>
        intro ds h O m
        cases h with
        | cons h t => exact .cons (h.mono m) (ih t m)
    exact go h m
theorem dg_tup {n : Nat} {gs : TGs} {ch : Nat → Prop} {ds : List PyData} (e : ds.length = n) (q : DGs K G gs ch (ds.map Sl.dat) δ τ t Rg) : DG K G (gTup K n gs) ch (.dat (.tuple ds)) δ τ t Rg := fun σ vs H v Q R0 k => by
  obtain ⟨p, us, rfl, hp, hq⟩ := RV.itemsT R0.head
  refine ⟨p, us, rfl, hp, by rw [hq.len]; exact e, ?_⟩
  exact q σ vs H us Q (by rw [List.length_map, hq.len]) (R0.pop.spread (hq.mono weak _)) k
theorem own_at {i : Nat} {p : Addr} {xs : List PyData} {σ : L2.St} {vs : List V} {H : Hp} (R0 : Rl K G δ τ t σ vs H) (e : δ[i]? = some (.own p xs)) : σ[i]? = some (some (.ref p)) ∧ ∃ us, H p = some (.lst us) ∧ DqAll K (hid (Pr G δ τ) H) us xs := by
  obtain ⟨v, hv, rfl, us, hp, hq⟩ := rd_at R0 e (fun z => nomatch z)
  exact ⟨hv, us, hp, hq⟩
theorem dg_sub {ch : Nat → Prop} {i : Nat} {ti : TE} {x : Sl} {d : PyData} {p : Addr} {xs0 : List PyData} (e : δ[i]? = some (.own p xs0)) (hx : x.dv = some d)
    (q : Den K G ti δ (x :: τ) t fun y δ1 t1 => ∃ (j : Int) (xs : List PyData) (n : Nat), y = .dat (.int j) ∧ δ1[i]? = some (.own p xs) ∧ ixN xs.length j = some n ∧ Rg (δ1.set i (.own p (xs.set n d))) t1) :
    DG K G (gSub (tOwn i) ti rSetL) ch x δ τ t Rg := fun σ vs H v Q R0 k => by
  refine ⟨.ref p, (own_at R0 e).1, q σ (v :: vs) H _ R0 fun u H1 y δ1 t1 ⟨j, xs, n, ey, e1, en, q1⟩ R1 => ?_⟩
  subst ey
  have R3 := R1.pop.softTop
  rw [soft_dv hx] at R3
  have R4 := R3.pop
  obtain ⟨_, us, hp, hq⟩ := own_at R4 e1
  refine ⟨p, us, j, n, rfl, R1.head.int, hp, by rw [hq.len]; exact en, ?_⟩
  exact k _ _ _ _ q1 (R4.write e1 (hq.set (Dq.mono weak _ R3.head) n)) fun _ _ => rfl
/-! statements -/
theorem ds_seq (q : DS K G ts δ τ t { D with nx := fun δ1 t1 => DS K G us δ1 τ t1 D }) : DS K G (tSeq ts us) δ τ t D := fun σ vs H E R0 k1 k2 k3 k4 =>
  q σ vs H { E with nx := us E } R0 (fun σ' H' δ' t' q1 R1 => q1 σ' vs H' E R1 k1 k2 k3 k4) k2 k3 k4
theorem ds_next (q : D.nx δ t) : DS K G tNext δ τ t D := fun σ vs H E R0 k1 _ _ _ => k1 _ _ _ _ q R0
theorem ds_break (q : D.bk δ t) : DS K G tBreak δ τ t D := fun σ vs H E R0 _ _ k3 _ => k3 _ _ _ _ q R0
theorem ds_cont (q : D.ct δ t) : DS K G tCont δ τ t D := fun σ vs H E R0 _ _ _ k4 => k4 _ _ _ _ q R0
theorem ds_asg {g : TG} (q : Den K G te δ τ t fun x δ1 t1 => DG K G g (fun _ => True) x δ1 τ t1 D.nx) : DS K G (tAsg te g) δ τ t D := fun σ vs H E R0 k1 _ _ _ =>
  q σ vs H _ R0 fun v H1 x δ1 t1 q1 R1 => q1 σ vs H1 v _ R1 fun σ' H' δ' t' q2 R2 _ => k1 _ _ _ _ q2 R2
theorem ds_ret (q : Den K G te δ τ t fun x _ t1 => D.rt x t1) : DS K G (tRet te) δ τ t D := fun σ vs H E R0 _ k2 _ _ =>
  q σ vs H _ R0 fun v H1 x δ1 t1 q1 R1 => k2 _ _ _ _ _ _ q1 R1
theorem ds_retN (q : D.rt (.dat .none) t) : DS K G tRetN δ τ t D := fun σ vs H E R0 _ k2 _ _ => k2 _ _ _ _ _ _ q (R0.sc .non)
theorem ds_drop (q : Den K G te δ τ t fun _ δ1 t1 => D.nx δ1 t1) : DS K G (tDrop te) δ τ t D := fun σ vs H E R0 k1 _ _ _ =>
  q σ vs H _ R0 fun v H1 x δ1 t1 q1 R1 => k1 _ _ _ _ q1 R1.pop
theorem ds_if {c : TT} (q : DenT K G c δ τ t fun b δ1 t1 => if b = true then DS K G ts δ1 τ t1 D else DS K G us δ1 τ t1 D) : DS K G (tIfS c ts us) δ τ t D := fun σ vs H E R0 k1 k2 k3 k4 =>
  q σ vs H _ R0 fun b H1 δ1 t1 q1 R1 => by
    cases b with
    | true =>
      rw [if_pos rfl] at q1 ⊢
      exact q1 σ vs H1 E R1 k1 k2 k3 k4
    | false =>
      rw [if_neg Bool.false_ne_true] at q1 ⊢
      exact q1 σ vs H1 E R1 k1 k2 k3 k4
theorem ds_app {i : Nat} {p : Addr} {xs0 : List PyData} (e : δ[i]? = some (.own p xs0)) (q : Den K G te δ τ t fun y δ1 t1 => ∃ d xs, y.dv = some d ∧ δ1[i]? = some (.own p xs) ∧ xs.length ≤ 1000000 ∧ D.nx (δ1.set i (.own p (xs ++ [d]))) t1) :
    DS K G (tDrop (tBM K "list" rAppend (tOwn i) (tCons te tNil))) δ τ t D := fun σ vs H E R0 k1 _ _ _ => by
  obtain ⟨hv, us0, hp0, _⟩ := own_at R0 e
  refine ⟨.ref p, hv, .inl ⟨rfl, _, SqL.of hp0⟩, q σ vs H _ R0 fun v H1 y δ1 t1 ⟨d, xs, hy, e1, few, q1⟩ R1 => ?_⟩
  have R3 := R1.softTop
  rw [soft_dv hy] at R3
  have R4 := R3.pop
  obtain ⟨_, us, hp, hq⟩ := own_at R4 e1
  refine ⟨p, us, v, rfl, rfl, hp, by rw [hq.len, sizeLine_eq]; omega, ?_⟩
  exact k1 _ _ _ _ q1 (R4.write e1 (hq.append (.cons (Dq.mono weak _ R3.head) .nil)))
theorem ds_ext {i : Nat} {p : Addr} {xs0 : List PyData} (e : δ[i]? = some (.own p xs0)) (q : Den K G te δ τ t fun y δ1 t1 => ∃ ds xs, y.dv = some (.list ds) ∧ δ1[i]? = some (.own p xs) ∧ xs.length + ds.length ≤ 1000000 ∧ D.nx (δ1.set i (.own p (xs ++ ds))) t1) :
    DS K G (tDrop (tBM K "list" rExtend (tOwn i) (tCons te tNil))) δ τ t D := fun σ vs H E R0 k1 _ _ _ => by
  obtain ⟨hv, us0, hp0, _⟩ := own_at R0 e
  refine ⟨.ref p, hv, .inl ⟨rfl, _, SqL.of hp0⟩, q σ vs H _ R0 fun v H1 y δ1 t1 ⟨ds, xs, hy, e1, few, q1⟩ R1 => ?_⟩
  have R3 := R1.softTop
  rw [soft_dv hy] at R3
  have R4 := R3.pop
  obtain ⟨_, us, hp, hq⟩ := own_at R4 e1
  obtain ⟨b, ws, rfl, hb, hw⟩ := RV.items R3.head rfl
  refine ⟨p, b, us, ws, rfl, rfl, hp, hb, by rw [hq.len, hw.len, sizeLine_eq]; omega, ?_⟩
  exact k1 _ _ _ _ q1 (R4.write e1 (hq.append (hw.mono weak _)))
theorem den_ixO {i : Nat} {p : Addr} {xs0 : List PyData} (e : δ[i]? = some (.own p xs0)) (q : Den K G te δ τ t fun y δ1 t1 => ∃ (j : Int) (xs : List PyData) (d : PyData), y = .dat (.int j) ∧ δ1[i]? = some (.own p xs) ∧ atI xs j = some d ∧ R (.dat d) δ1 t1) :
    Den K G (tOp (rIxL K) (tOwn i) te) δ τ t R := fun σ vs H Q R0 k => by
  refine ⟨.ref p, (own_at R0 e).1, q σ vs H _ R0 fun v H1 y δ1 t1 ⟨j, xs, d, ey, e1, ha, q1⟩ R1 => ?_⟩
  subst ey
  obtain ⟨_, us, hp, hq⟩ := own_at R1 e1
  obtain ⟨w, hw, qw⟩ := at_get hq ha
  exact ⟨p, us, j, w, rfl, R1.head.int, SqL.of hp, hw, k _ _ _ _ _ q1 (R1.pop.dat (qw.mono weak _))⟩
theorem den_lenO {i : Nat} {p : Addr} {xs : List PyData} (e : δ[i]? = some (.own p xs)) (q : R (.dat (.int xs.length)) δ t) : Den K G (tCB (Lw.rLen K) (tCons (tOwn i) tNil)) δ τ t R := fun σ vs H Q R0 k => by
  obtain ⟨hv, us, hp, hq⟩ := own_at R0 e
  refine ⟨.ref p, hv, p, us, rfl, .inl (SqL.of hp), k _ _ _ _ _ q (R0.sc ?_)⟩
  rw [hq.len]
  exact .int _
theorem den_ownF {i : Nat} {p : Addr} {xs : List PyData} (e : δ[i]? = some (.own p xs)) (q : R (.dat (.list xs)) (δ.set i (.dat (.list xs))) t) : Den K G (tOwn i) δ τ t R := den_own e q
theorem ds_par {i j : Nat} {tr : TA} (q : DenA K G tr δ τ t fun xs δ1 t1 => ∃ x y, xs = [x, y] ∧ D.nx ((δ1.set i x.soft).set j y.soft) t1) : DS K G (tPar i j tr) δ τ t D := fun σ vs H E R0 k1 _ _ _ =>
  q σ vs H _ R0 fun us H1 xs δ1 t1 ⟨x, y, e, q1⟩ l R1 => by
    subst e
    match us, l with
    | [u, v], l =>
      have R2 := R1.softAll l
      refine ⟨u, v, rfl, k1 _ _ _ _ q1 ?_⟩
      exact Rl.put j (Rl.put i R2)
theorem ds_augA {i : Nat} {a : Int} (e : δ[i]? = some (.dat (.int a))) (q : Den K G te δ τ t fun x δ1 t1 => ∃ b, x = .dat (.int b) ∧ D.nx (δ1.set i (.dat (.int (a + b)))) t1) : DS K G (tAug i te (ipI (· + ·))) δ τ t D := fun σ vs H E R0 k1 _ _ _ => by
  obtain ⟨v, hv, h⟩ := rd_at R0 e (fun z => nomatch z)
  have := RV.int h
  subst this
  refine ⟨_, hv, q σ vs H _ R0 fun u H1 x δ1 t1 ⟨b, ex, q1⟩ R1 => ?_⟩
  subst ex
  refine ⟨a, b, rfl, R1.head.int, k1 _ _ _ _ q1 ?_⟩
  exact Rl.put i (R1.pop.sc (v := .int (a + b)) (.int _))
/-! what is walked -/
theorem wrap {pin τ0 : List Sl} {pv vs0 : List V} {σ : L2.St} {vs : List V} {H : Hp} {d : PyData} {v : V} (R0 : Rl K G δ (τ0 ++ (pin ++ τ)) t σ (vs0 ++ (pv ++ vs)) H) (h : Dq K (hid (Pr G δ (τ0 ++ (pin ++ τ))) H) v d) :
    Rl K G δ (.dat d :: (τ0 ++ (pin ++ τ))) t σ (v :: (vs0 ++ (pv ++ vs))) H := R0.dat h
theorem Rl.nth {pin τ0 : List Sl} {pv vs0 : List V} {σ : L2.St} {vs : List V} {H : Hp} {s : Sl} {v : V} (R0 : Rl K G δ (τ0 ++ s :: τ) t σ (vs0 ++ v :: vs) H) (l : τ0.length = vs0.length) : RV K G (Pr G δ (τ0 ++ s :: τ)) H s v := by
  cases (psplitL l R0.tm).2 with
  | cons h _ => exact h
theorem src_list {a : Addr} {L : List PyData} : Src K G (Itl K a) [.dat (.list L)] [.ref a] L := by
  refine ⟨rfl, fun _ => rfl, fun i H δ τ τ0 t σ vs vs0 l0 R0 => ?_⟩
  obtain ⟨p, ws, ea, hw, hq⟩ := RV.items (R0.nth (pin := []) (pv := []) l0) rfl
  cases ea
  refine ⟨fun hi => ⟨?_, fun x H' d hd hy => ?_⟩, fun hi => ⟨ws, SqL.of hw, by rw [hq.len]; omega⟩⟩
  · obtain ⟨v, hv, _⟩ := hq.get (List.getElem?_eq_getElem hi)
    exact ⟨ws, v, SqL.of hw, hv⟩
  · obtain ⟨rfl, hx⟩ := hy
    obtain ⟨v, hv, qv⟩ := hq.get hd
    have := hx ws (SqL.of hw)
    rw [hv] at this
    cases this
    exact R0.dat qv
theorem src_tup {a : Addr} {L : List PyData} : Src K G (Itt K a) [.dat (.tuple L)] [.ref a] L := by
  refine ⟨rfl, fun _ => rfl, fun i H δ τ τ0 t σ vs vs0 l0 R0 => ?_⟩
  obtain ⟨p, ws, ea, hw, hq⟩ := RV.itemsT (R0.nth (pin := []) (pv := []) l0)
  cases ea
  refine ⟨fun hi => ⟨?_, fun x H' d hd hy => ?_⟩, fun hi => ⟨ws, hw, by rw [hq.len]; omega⟩⟩
  · obtain ⟨v, hv, _⟩ := hq.get (List.getElem?_eq_getElem hi)
    exact ⟨ws, v, hw, hv⟩
  · obtain ⟨rfl, hx⟩ := hy
    obtain ⟨v, hv, qv⟩ := hq.get hd
    have := hx ws hw
    rw [hv] at this
    cases this
    exact R0.dat qv
def rngL (lo : Int) (n : Nat) : List PyData := (List.range n).map fun i : Nat => PyData.int (lo + (i : Int))
theorem rngL_len {lo : Int} {n : Nat} : (rngL lo n).length = n := by simp [rngL]
theorem rngL_at {lo : Int} {n i : Nat} {d : PyData} (e : (rngL lo n)[i]? = some d) : i < n ∧ d = .int (lo + i) := by
  have h : i < n := by
    have := (List.getElem?_eq_some_iff.mp e).1
    rwa [rngL_len] at this
  refine ⟨h, ?_⟩
  unfold rngL at e
  rw [List.getElem?_map, List.getElem?_range h] at e
  exact (Option.some.inj e).symm
theorem src_rng {lo : Int} {n : Nat} : Src K G (Itr lo n) [] [] (rngL lo n) := by
  refine ⟨rfl, fun _ => rfl, fun i H δ τ τ0 t σ vs vs0 l0 R0 => ?_⟩
  rw [rngL_len]
  refine ⟨fun hi => ⟨hi, fun x H' d hd hy => ?_⟩, fun hi => Nat.le_of_eq hi.symm⟩
  obtain ⟨rfl, rfl⟩ := hy
  rw [(rngL_at hd).2]
  exact R0.sc (.int _)
def rngC (lo c : Int) (n : Nat) : List PyData := (List.range n).map fun i : Nat => PyData.int (lo + (i : Int) * c)
theorem rngC_len {lo c : Int} {n : Nat} : (rngC lo c n).length = n := by simp [rngC]
theorem rngC_at {lo c : Int} {n i : Nat} {d : PyData} (e : (rngC lo c n)[i]? = some d) : i < n ∧ d = .int (lo + i * c) := by
  have h : i < n := by
    have := (List.getElem?_eq_some_iff.mp e).1
    rwa [rngC_len] at this
  refine ⟨h, ?_⟩
  unfold rngC at e
  rw [List.getElem?_map, List.getElem?_range h] at e
  exact (Option.some.inj e).symm
theorem src_rngC {lo c : Int} {n : Nat} : Src K G (Itc lo c n) [] [] (rngC lo c n) := by
  refine ⟨rfl, fun _ => rfl, fun i H δ τ τ0 t σ vs vs0 l0 R0 => ?_⟩
  rw [rngC_len]
  refine ⟨fun hi => ⟨hi, fun x H' d hd hy => ?_⟩, fun hi => Nat.le_of_eq hi.symm⟩
  obtain ⟨rfl, rfl⟩ := hy
  rw [(rngC_at hd).2]
  exact R0.sc (.int _)
/-- pairs of the items of two lists of one length -/
def zipD (xs ys : List PyData) : List PyData := List.zipWith (fun x y => .tuple [x, y]) xs ys
theorem zipD_len {xs ys : List PyData} : (zipD xs ys).length = min xs.length ys.length := List.length_zipWith
theorem zipD_at {xs ys : List PyData} {i : Nat} {d : PyData} (e : (zipD xs ys)[i]? = some d) : ∃ x y, xs[i]? = some x ∧ ys[i]? = some y ∧ d = .tuple [x, y] := by
  unfold zipD at e
  rw [List.getElem?_zipWith] at e
  cases hx : xs[i]? with
  | none => rw [hx] at e; cases e
  | some x =>
    cases hy : ys[i]? with
    | none => rw [hx, hy] at e; cases e
    | some y =>
      rw [hx, hy] at e
      exact ⟨x, y, rfl, rfl, (Option.some.inj e).symm⟩
theorem src_zip {a b : Addr} {L M : List PyData} : Src K G (Itz K a b) [.dat (.list M), .dat (.list L)] [.ref b, .ref a] (zipD L M) := by
  refine ⟨rfl, fun _ => rfl, fun i H δ τ τ0 t σ vs vs0 l0 R0 => ?_⟩
  obtain ⟨p, ws, ea, hw, hq⟩ := RV.items (R0.nth (pin := []) (pv := []) l0) rfl
  cases ea
  have R1 : Rl K G δ ((τ0 ++ [.dat (.list M)]) ++ .dat (.list L) :: τ) t σ ((vs0 ++ [.ref b]) ++ .ref a :: vs) H := by
    rw [List.append_assoc, List.append_assoc]
    exact R0
  obtain ⟨p, us, ea, hu, hr⟩ := RV.items (R1.nth (pin := []) (pv := []) (by simp [l0])) rfl
  cases ea
  have ee : (τ0 ++ [.dat (.list M)]) ++ .dat (.list L) :: τ = τ0 ++ ([.dat (.list M), .dat (.list L)] ++ τ) := by rw [List.append_assoc]; rfl
  rw [ee] at hr
  rw [zipD_len]
  refine ⟨fun hi => ⟨?_, fun x H' d hd hy => ?_⟩, fun hi => ⟨us, ws, SqL.of hu, SqL.of hw, by rw [hq.len, hr.len]; omega⟩⟩
  · obtain ⟨v, hv, _⟩ := hq.get (List.getElem?_eq_getElem (show i < M.length by omega))
    obtain ⟨u, hu2, _⟩ := hr.get (List.getElem?_eq_getElem (show i < L.length by omega))
    exact ⟨us, ws, u, v, SqL.of hu, SqL.of hw, hu2, hv⟩
  · obtain ⟨T, x1, y1, rfl, nT, rfl, e1, e2⟩ := hy
    obtain ⟨x0, y0, hx0, hy0, rfl⟩ := zipD_at hd
    obtain ⟨u, hu2, qu⟩ := hr.get hx0
    obtain ⟨v, hv, qv⟩ := hq.get hy0
    have := e1 us (SqL.of hu)
    rw [hu2] at this
    cases this
    have := e2 ws (SqL.of hw)
    rw [hv] at this
    cases this
    exact R0.tup nT (.cons qu (.cons qv .nil))
theorem src_zipT {a b : Addr} {L M : List PyData} : Src K G (RZ.ItzT K a b) [.dat (.tuple M), .dat (.tuple L)] [.ref b, .ref a] (zipD L M) := by
  refine ⟨rfl, fun _ => rfl, fun i H δ τ τ0 t σ vs vs0 l0 R0 => ?_⟩
  obtain ⟨p, ws, ea, hw, hq⟩ := RV.itemsT (R0.nth (pin := []) (pv := []) l0)
  cases ea
  have R1 : Rl K G δ ((τ0 ++ [.dat (.tuple M)]) ++ .dat (.tuple L) :: τ) t σ ((vs0 ++ [.ref b]) ++ .ref a :: vs) H := by
    rw [List.append_assoc, List.append_assoc]
    exact R0
  obtain ⟨p, us, ea, hu, hr⟩ := RV.itemsT (R1.nth (pin := []) (pv := []) (by simp [l0]))
  cases ea
  have ee : (τ0 ++ [.dat (.tuple M)]) ++ .dat (.tuple L) :: τ = τ0 ++ ([.dat (.tuple M), .dat (.tuple L)] ++ τ) := by rw [List.append_assoc]; rfl
  rw [ee] at hr
  rw [zipD_len]
  refine ⟨fun hi => ⟨?_, fun x H' d hd hy => ?_⟩, fun hi => ⟨us, ws, hu, hw, by rw [hq.len, hr.len]; omega⟩⟩
  · obtain ⟨v, hv, _⟩ := hq.get (List.getElem?_eq_getElem (show i < M.length by omega))
    obtain ⟨u, hu2, _⟩ := hr.get (List.getElem?_eq_getElem (show i < L.length by omega))
    exact ⟨us, ws, u, v, hu, hw, hu2, hv⟩
  · obtain ⟨T, x1, y1, rfl, nT, rfl, e1, e2⟩ := hy
    obtain ⟨x0, y0, hx0, hy0, rfl⟩ := zipD_at hd
    obtain ⟨u, hu2, qu⟩ := hr.get hx0
    obtain ⟨v, hv, qv⟩ := hq.get hy0
    have := e1 us hu
    rw [hu2] at this
    cases this
    have := e2 ws hw
    rw [hv] at this
    cases this
    exact R0.tup nT (.cons qu (.cons qv .nil))
variable {Ri : List PyData → List Sl → Nat → Prop}
theorem di_list (q : Den K G te δ τ t fun x δ1 t1 => ∃ L, x.dv = some (.list L) ∧ Ri L δ1 t1) : DI K G (iList K te) δ τ t Ri := fun σ vs H Q R0 k =>
  q σ vs H _ R0 fun v H1 x δ1 t1 ⟨L, e, q1⟩ R1 => by
    have R2 := R1.softTop
    rw [soft_dv e] at R2
    obtain ⟨p, us, rfl, hp, hq⟩ := RV.items R2.head rfl
    exact ⟨p, rfl, ⟨us, SqL.of hp⟩, k _ _ _ _ _ _ _ q1 src_list R2⟩
theorem di_tup (q : Den K G te δ τ t fun x δ1 t1 => ∃ L, x = .dat (.tuple L) ∧ Ri L δ1 t1) : DI K G (iTup K te) δ τ t Ri := fun σ vs H Q R0 k =>
  q σ vs H _ R0 fun v H1 x δ1 t1 ⟨L, e, q1⟩ R1 => by
    subst e
    obtain ⟨p, us, rfl, hp, hq⟩ := RV.itemsT R1.head
    exact ⟨p, rfl, ⟨us, hp⟩, k _ _ _ _ _ _ _ q1 src_tup R1⟩
theorem di_rng1 {tr : TA} (q : DenA K G tr δ τ t fun xs δ1 t1 => ∃ j : Int, xs = [.dat (.int j)] ∧ -(2 ^ 62) ≤ j ∧ j < 2 ^ 62 ∧ Ri (rngL 0 j.toNat) δ1 t1) : DI K G (iRng1 tr) δ τ t Ri := fun σ vs H Q R0 k =>
  q σ vs H _ R0 fun us H1 xs δ1 t1 ⟨j, e, h1, h2, q1⟩ l R1 => by
    subst e
    obtain ⟨u, rfl⟩ := one_arg (xs := []) l
    have := RV.int R1.head
    subst this
    exact ⟨j, rfl, h1, h2, k _ _ _ _ _ _ _ q1 src_rng R1.pop⟩
theorem di_rng2 {tr : TA} (q : DenA K G tr δ τ t fun xs δ1 t1 => ∃ i j : Int, xs = [.dat (.int i), .dat (.int j)] ∧ (-(2 ^ 62) ≤ i ∧ i < 2 ^ 62 ∧ -(2 ^ 62) ≤ j ∧ j < 2 ^ 62) ∧ Ri (rngL i (j - i).toNat) δ1 t1) : DI K G (iRng2 tr) δ τ t Ri := fun σ vs H Q R0 k =>
  q σ vs H _ R0 fun us H1 xs δ1 t1 ⟨i, j, e, h1, q1⟩ l R1 => by
    subst e
    obtain ⟨u, v, rfl⟩ := two_args l
    have a := RV.int R1.head
    have b := RV.int R1.h2
    subst a
    subst b
    exact ⟨i, j, rfl, h1, k _ _ _ _ _ _ _ q1 src_rng R1.pop.pop⟩
theorem di_zip {tr : TA} (q : DenA K G tr δ τ t fun xs δ1 t1 => ∃ x y L M, xs = [x, y] ∧ (x.dv = some (.list L) ∧ y.dv = some (.list M) ∨ x = .dat (.tuple L) ∧ y = .dat (.tuple M)) ∧ Ri (zipD L M) δ1 t1) : DI K G (RZ.iZipA K tr) δ τ t Ri := fun σ vs H Q R0 k =>
  q σ vs H _ R0 fun us H1 xs δ1 t1 ⟨x, y, L, M, e, h, q1⟩ l R1 => by
    subst e
    obtain ⟨u, v, rfl⟩ := two_args l
    have R2 : Rl K G δ1 (x.soft :: y.soft :: τ) t1 σ (u :: v :: vs) H1 := R1.softAll l
    have R3 : Rl K G δ1 (y.soft :: x.soft :: τ) t1 σ (v :: u :: vs) H1 := R2.up1 (xs := [x.soft]) (us := [u]) rfl
    rcases h with ⟨hx, hy⟩ | ⟨rfl, rfl⟩
    · rw [soft_dv hx, soft_dv hy] at R3
      obtain ⟨p, ws, rfl, hp, _⟩ := RV.items R3.head rfl
      obtain ⟨p', ws', rfl, hp', _⟩ := RV.items R3.h2 rfl
      exact ⟨p', p, ws', ws, rfl, .inl ⟨SqL.of hp', SqL.of hp, k _ _ _ _ _ _ _ q1 src_zip R3⟩⟩
    · obtain ⟨p, ws, rfl, hp, _⟩ := RV.itemsT R3.head
      obtain ⟨p', ws', rfl, hp', _⟩ := RV.itemsT R3.h2
      exact ⟨p', p, ws', ws, rfl, .inr ⟨hp', hp, k _ _ _ _ _ _ _ q1 src_zipT R3⟩⟩
/-! loops -/
theorem Rl.mid2 {pin : List Sl} {pv : List V} {σ : L2.St} {vs : List V} {H : Hp} {s : Sl} {v : V} (R0 : Rl K G δ (s :: (pin ++ τ)) t σ (v :: (pv ++ vs)) H) (l : pin.length = pv.length) : Rl K G δ (s :: τ) t σ (v :: vs) H := R0.mid l
theorem ds_for {wi : TI} {g : TG} (q : DI K G wi δ τ t fun L δ1 t1 => ∃ I : Nat → List Sl → Nat → Prop, I 0 δ1 t1 ∧
      (∀ i d δ2 t2, L[i]? = some d → I i δ2 t2 → ∀ τ2, DG K G g (fun _ => True) (.dat d) δ2 τ2 t2 fun δ3 t3 => DS K G ts δ3 τ2 t3 { D with nx := I (i + 1), ct := I (i + 1), bk := D.nx }) ∧ ∀ δ2 t2, I L.length δ2 t2 → D.nx δ2 t2) :
    DS K G (tFor wi g ts) δ τ t D := fun σ vs H E R0 k1 k2 k3 k4 =>
  q σ vs H _ R0 fun J H1 L pin pv δ1 t1 ⟨I, h0, turn, done⟩ S R1 => by
    obtain ⟨l, no, src⟩ := S
    refine ⟨fun i m σ' H' => m = L.length - i ∧ i ≤ L.length ∧ ∃ δ2 t2, I i δ2 t2 ∧ Rl K G δ2 (pin ++ τ) t2 σ' (pv ++ vs) H', ⟨L.length, rfl, Nat.zero_le _, δ1, t1, h0, R1⟩, ?_⟩
    rintro i m σ' H' ⟨rfl, hi, δ2, t2, hI, R2⟩
    obtain ⟨go, stop⟩ := src i H' δ2 τ [] t2 σ' vs [] rfl R2
    by_cases lt : i < L.length
    · obtain ⟨g1, g2⟩ := go lt
      refine .inr ⟨g1, fun σ3 H3 => ∃ δ3 t3, I (i + 1) δ3 t3 ∧ Rl K G δ3 (pin ++ τ) t3 σ3 (pv ++ vs) H3, fun σ3 H3 ⟨δ3, t3, h3, R3⟩ => ⟨L.length - (i + 1), by omega, rfl, lt, δ3, t3, h3, R3⟩, fun x H3 hy => ?_⟩
      have R3 := g2 x H3 _ (List.getElem?_eq_getElem lt) hy
      refine turn i _ δ2 t2 (List.getElem?_eq_getElem lt) hI (pin ++ τ) σ' (pv ++ vs) H3 x _ R3 fun σ4 H4 δ4 t4 q4 R4 _ => ?_
      refine q4 σ4 (pv ++ vs) H4 _ R4 (fun σ5 H5 δ5 t5 h5 R5 => ⟨δ5, t5, h5, R5⟩) (fun v H5 x5 δ5 t5 σ5 h5 R5 => k2 _ _ _ _ _ _ h5 (R5.mid l)) (fun σ5 H5 δ5 t5 h5 R5 => k1 _ _ _ _ h5 (R5.drop l)) (fun σ5 H5 δ5 t5 h5 R5 => ⟨δ5, t5, h5, R5⟩)
    · have e : i = L.length := by omega
      subst e
      exact .inl ⟨stop rfl, k1 _ _ _ _ (done _ _ hI) (R2.drop l)⟩
theorem ds_while {c : TT} (I : Nat → List Sl → Nat → Prop) (m : Nat) (h0 : I m δ t)
    (turn : ∀ m δ1 t1, I m δ1 t1 → DenT K G c δ1 τ t1 fun b δ2 t2 => if b = true then DS K G ts δ2 τ t2 { D with nx := fun δ3 t3 => ∃ m', m' < m ∧ I m' δ3 t3, ct := fun δ3 t3 => ∃ m', m' < m ∧ I m' δ3 t3, bk := D.nx } else D.nx δ2 t2) :
    DS K G (tWhile c ts) δ τ t D := fun σ vs H E R0 k1 k2 k3 k4 => by
  refine ⟨fun m σ' H' => ∃ δ1 t1, I m δ1 t1 ∧ Rl K G δ1 τ t1 σ' vs H', ⟨m, δ, t, h0, R0⟩, ?_⟩
  rintro m σ1 H1 ⟨δ1, t1, hI, R1⟩
  refine turn m δ1 t1 hI σ1 vs H1 _ R1 fun b H2 δ2 t2 q2 R2 => ?_
  cases b with
  | true =>
    rw [if_pos rfl] at q2 ⊢
    refine ⟨fun σ3 H3 => ∃ m', m' < m ∧ ∃ δ3 t3, I m' δ3 t3 ∧ Rl K G δ3 τ t3 σ3 vs H3, fun σ3 H3 h => h, ?_⟩
    exact q2 σ1 vs H2 _ R2 (fun σ5 H5 δ5 t5 ⟨m', lt, h5⟩ R5 => ⟨m', lt, δ5, t5, h5, R5⟩) k2 k1 fun σ5 H5 δ5 t5 ⟨m', lt, h5⟩ R5 => ⟨m', lt, δ5, t5, h5, R5⟩
  | false =>
    rw [if_neg Bool.false_ne_true] at q2 ⊢
    exact k1 _ _ _ _ q2 R2
/-! comprehensions -/
def wipeD (δ : List Sl) : List Nat → List Sl
  | [] => δ
  | v :: vs => (wipeD δ vs).set v .any
theorem Rl.wipe {σ : L2.St} {vs : List V} {H : Hp} (R0 : Rl K G δ τ t σ vs H) : ∀ own : List Nat, Rl K G (wipeD δ own) τ t (L2.wipe σ own) vs H
  | [] => R0
  | v :: own => (R0.wipe own).blank v
theorem wipe_idem (σ : L2.St) : ∀ own own' : List Nat, (∀ i ∈ own, i ∈ own') → L2.wipe (L2.wipe σ own) own' = L2.wipe σ own'
  | [], _, _ => rfl
  | v :: own, own', h => by
    show L2.wipe ((L2.wipe σ own).set v none) own' = _
    rw [wipe_in _ _ (h v List.mem_cons_self)]
    exact wipe_idem σ own own' fun i hi => h i (List.mem_cons_of_mem _ hi)
theorem wipeD_at {i : Nat} {δ : List Sl} : ∀ {own : List Nat}, i ∈ own → ∀ {s : Sl}, (wipeD δ own)[i]? = some s → s = .any
  | v :: own, h, s, e => by
    unfold wipeD at e
    by_cases hv : v = i
    · subst hv
      rw [List.getElem?_set_self (by have := (List.getElem?_eq_some_iff.mp e).1; simpa using this)] at e
      exact (Option.some.inj e).symm
    · rw [List.getElem?_set_ne hv] at e
      rcases List.mem_cons.mp h with h | h
      · exact (hv h.symm).elim
      · exact wipeD_at h e
theorem wipe_off {i : Nat} {σ : L2.St} : ∀ {own : List Nat}, i ∉ own → (L2.wipe σ own)[i]? = σ[i]?
  | [], _ => rfl
  | v :: own, h => by
    show ((L2.wipe σ own).set v none)[i]? = _
    rw [List.getElem?_set_ne fun z => h (by rw [z]; exact List.mem_cons_self)]
    exact wipe_off fun z => h (List.mem_cons_of_mem _ z)
theorem pof {α β : Type} {F : α → β → Prop} : ∀ {xs : List α} {ys : List β}, xs.length = ys.length → (∀ (i : Nat) x y, xs[i]? = some x → ys[i]? = some y → F x y) → Paired F xs ys
  | [], [], _, _ => .nil
  | [], _ :: _, l, _ => nomatch l
  | _ :: _, [], l, _ => nomatch l
  | x :: xs, y :: ys, l, h => .cons (h 0 x y rfl rfl) (pof (by simpa using l) fun i a b e1 e2 => h (i + 1) a b (by simpa using e1) (by simpa using e2))
theorem Rl.unwipe {σ : L2.St} {vs : List V} {H : Hp} {own : List Nat} (R0 : Rl K G (wipeD δ own) τ t (L2.wipe σ own) vs H) : Rl K G (wipeD δ own) τ t σ vs H := by
  refine { R0 with sl := pof ?_ fun i s o es eo => ?_ }
  · rw [plen R0.sl, wipe_length]
  · by_cases hi : i ∈ own
    · exact .inl (wipeD_at hi es)
    · obtain ⟨o', eo', h⟩ := pget R0.sl es
      rw [wipe_off hi, eo] at eo'
      cases eo'
      exact h
/-- a list of one's own under way changes -/
theorem Rl.writeTop {p : Addr} {xs ys : List PyData} {ws : List V} {σ : L2.St} {vs : List V} {H : Hp} (R : Rl K G δ (.own p xs :: τ) t σ (.ref p :: vs) H) (h : DqAll K (hid (Pr G δ (.own p xs :: τ)) H) ws ys) : Rl K G δ (.own p ys :: τ) t σ (.ref p :: vs) (upd H p (.lst ws)) := by
  have one := R.nd p
  simp only [cnt, has_self] at one
  have np : ¬ G.O p := R.off p (by simp only [cnt, has_self]; omega)
  have n0 := R.new p (by simp only [cnt, has_self]; omega)
  have c1 : ∀ b, cnt b (.own p ys :: τ) = cnt b (.own p xs :: τ) := fun b => rfl
  have m : Same (hid (Pr G δ (.own p xs :: τ)) H) (hid (Pr G δ (.own p ys :: τ)) (upd H p (.lst ws))) := by
    have pr : Pr G δ (.own p ys :: τ) = Pr G δ (.own p xs :: τ) := rfl
    rw [pr]
    refine hid_same fun b o z hb => ?_
    rw [upd_ne fun y => z (.inr (by rw [y]; simp only [cnt, has_self]; omega))]
    exact hb
  have keep : ∀ {q : Addr} {us : List V}, q ≠ p → H q = some (.lst us) → upd H p (.lst ws) q = some (.lst us) := fun n hq => by
    rw [upd_ne n]
    exact hq
  refine ⟨pmap R.sl fun j a b q h => h.to m fun q' zs us z hq => keep (fun y => ?_) hq, ?_, R.nd, R.off, R.new, fun b hb => ?_, fun b o z hb => ?_, ⟨fun d r c hd => ?_, R.dw.2.keep fun b o e n => ?_⟩⟩
  · subst z
    subst y
    have := pos_at q
    omega
  · refine .cons ⟨rfl, ws, upd_same, h.mono m _⟩ (pmap (Rl.ptail R.tm) fun j a b q h => h.to m fun q' zs us z hq => keep (fun y => ?_) hq)
    subst z
    subst y
    have := pos_at q
    omega
  · by_cases y : b = p
    · subst y
      exact (np hb).elim
    · rw [upd_ne y]
      exact R.live b hb
  · rw [upd_ne fun y => by rw [y, n0] at hb; cases hb]
    exact R.old b o z hb
  · obtain ⟨od, o_r, oc, u, hu, cells, rests, h1, h2, h3, h4, h5, h6, h7⟩ := R.dw.1 d r c hd
    have nn : ∀ {b : Addr}, G.O b → b ≠ p := fun hb y => np (by rw [← y]; exact hb)
    exact ⟨od, o_r, oc, u, hu, cells, rests, h1, h2, h3, by rw [upd_ne (nn od)]; exact h4, by rw [upd_ne (nn oc)]; exact h5, by rw [upd_ne (nn o_r)]; exact h6, h7⟩
  · obtain ⟨_, us, hu, _⟩ := R.head
    rw [upd_ne fun y => by
      rw [y, hu] at e
      exact n us (Option.some.inj e).symm]
    exact e
theorem den_lc {wi : TI} {g : TG} {tt : TT} {own : List Nat}
    (q : DI K G wi δ τ t fun L δ1 t1 => ∃ J : Nat → List PyData → Nat → Prop, L.length ≤ 1000000 ∧ J 0 [] t1 ∧
      (∀ i d acc t2, L[i]? = some d → J i acc t2 → ∀ τ2, DG K G g (fun i => i ∈ own) (.dat d) (wipeD δ1 own) τ2 t2 fun δ3 t3 => DenT K G tt δ3 τ2 t3 fun b δ4 t4 =>
        if b = true then Den K G te δ4 τ2 t4 fun y δ5 t5 => ∃ e, y.dv = some e ∧ wipeD δ5 own = wipeD δ1 own ∧ J (i + 1) (acc ++ [e]) t5 else wipeD δ4 own = wipeD δ1 own ∧ J (i + 1) acc t4) ∧
      ∀ acc t2, J L.length acc t2 → acc.length ≤ L.length → ∀ p, R (.own p acc) (wipeD δ1 own) t2) :
    Den K G (tLc wi g tt te own) δ τ t R := fun σ vs H Q R0 k =>
  q σ vs H _ R0 fun Jt H1 L pin pv δ1 t1 ⟨J, few, h0, turn, done⟩ S R1 => by
    obtain ⟨l, no, src⟩ := S
    intro D hD
    have R2 := R1.wipe own
    have R3 : Rl K G (wipeD δ1 own) (.own D [] :: (pin ++ τ)) t1 (L2.wipe σ own) (.ref D :: (pv ++ vs)) (upd H1 D (.lst [])) := R2.lst hD .nil
    refine ⟨fun i m H' => m = L.length - i ∧ i ≤ L.length ∧ ∃ acc t2, acc.length ≤ i ∧ J i acc t2 ∧ Rl K G (wipeD δ1 own) (.own D acc :: (pin ++ τ)) t2 (L2.wipe σ own) (.ref D :: (pv ++ vs)) H', ⟨L.length, rfl, Nat.zero_le _, [], t1, Nat.le_refl _, h0, R3⟩, ?_⟩
    rintro i m H' ⟨rfl, hi, acc, t2, la, hJ, R4⟩
    obtain ⟨go, stop⟩ := src i H' (wipeD δ1 own) τ [.own D acc] t2 (L2.wipe σ own) vs [.ref D] rfl R4
    by_cases lt : i < L.length
    · obtain ⟨g1, g2⟩ := go lt
      refine .inr ⟨g1, fun H3 => ∃ acc t3, acc.length ≤ i + 1 ∧ J (i + 1) acc t3 ∧ Rl K G (wipeD δ1 own) (.own D acc :: (pin ++ τ)) t3 (L2.wipe σ own) (.ref D :: (pv ++ vs)) H3, fun H3 h3 => ⟨L.length - (i + 1), by omega, rfl, lt, h3⟩, fun x H3 hy => ?_⟩
      have R5 : Rl K G (wipeD δ1 own) (.dat L[i] :: (.own D acc :: (pin ++ τ))) t2 (L2.wipe σ own) (x :: (.ref D :: (pv ++ vs))) H3 := g2 x H3 _ (List.getElem?_eq_getElem lt) hy
      refine turn i _ acc t2 (List.getElem?_eq_getElem lt) hJ _ (L2.wipe σ own) (.ref D :: (pv ++ vs)) H3 x _ R5 fun σ6 H6 δ6 t6 q6 R6 w6 => ?_
      have w7 : L2.wipe σ6 own = L2.wipe σ own := (w6 own fun _ h => h).trans (wipe_idem σ own own fun _ h => h)
      refine ⟨w7, q6 σ6 _ H6 _ R6 fun b H7 δ7 t7 q7 R7 => ?_⟩
      cases b with
      | true =>
        rw [if_pos rfl] at q7 ⊢
        refine q7 σ6 _ H7 _ R7 fun v H8 y δ8 t8 ⟨e, hy, ew, hJ8⟩ R8 => ?_
        have R9 := (R8.softTop.wipe own)
        rw [soft_dv hy, ew, w7] at R9
        have R10 := R9.pop
        obtain ⟨_, us, hp, hq⟩ := R10.head
        refine ⟨us, hp, ?_, acc ++ [e], t8, ?_, hJ8, R10.writeTop (hq.append (.cons (Dq.mono weak _ R9.head) .nil))⟩
        · rw [hq.len, sizeLine_eq]
          omega
        · rw [List.length_append]
          show acc.length + 1 ≤ i + 1
          omega
      | false =>
        rw [if_neg Bool.false_ne_true] at q7 ⊢
        have R8 := R7.wipe own
        rw [q7.1, w7] at R8
        exact ⟨acc, t7, by omega, q7.2, R8⟩
    · have e : i = L.length := by omega
      subst e
      refine .inl ⟨stop rfl, ?_⟩
      have R5 := R4.mid l
      exact k _ _ _ _ _ (done acc t2 hJ la D) R5.unwipe
end
end Dl

set_option Elab.async false
set_option linter.all false
set_option maxRecDepth 100000
set_option maxHeartbeats 4000000
/-! promises of defs, told by data -/
namespace Dl
open PySem PySem.Spec PyProof.Rows L2 Glay Lw
/-- a table that is told once -/
def OneIn (G : Pa) (m : Addr × Str) : Prop := m ∈ G.tb ∧ ∀ q, (m.1, q) ∈ G.tb → q = m.2
/-- what a def does: its arguments, the number of draws, what is wanted of the result -/
abbrev DSp := List Sl → Nat → (Sl → Nat → Prop) → Prop
def spD (K : PySem.W.Frag) (S : DSp) (T : List (Addr × Str) := []) : Sp := fun vs H Q _ => ∃ (G : Pa) (xs : List Sl) (t : Nat) (C : Sl → Nat → Prop), S xs t C ∧ xs.length = vs.length ∧ Rl K G [] xs t [] vs H ∧
  ((∀ p, cnt p xs = 0) ∧ ∀ m, m ∈ T → OneIn G m) ∧ ∀ v H' x t', C x t' → Rl K G [] [x] t' [] [v] H' → Q v H'
theorem RV.swapG {K : PySem.W.Frag} {G G' : Pa} {O : Addr → Prop} {H : Hp} {s : Sl} {v : V} (e : G'.dr = G.dr) (h : RV K G O H s v) : RV K G' O H s v := by
  cases s with
  | drw =>
    obtain ⟨d, r, c, h1, h2⟩ := h
    exact ⟨d, r, c, by rw [e]; exact h1, h2⟩
  | any => exact h
  | dat _ => exact h
  | own _ _ => exact h
  | raw _ => exact h
  | pin _ => exact h
  | pinT _ => exact h
  | rg _ _ => exact h
section
variable {K : PySem.W.Frag} {G G' : Pa} {δ τ xs : List Sl} {t t' : Nat} {σ : L2.St} {us vs : List V} {H H' : Hp} {x : Sl} {v : V}
theorem isDr_to (e : G'.dr = G.dr) (e2 : G'.tb = G.tb) {b : Addr} : isDr G b → isDr G' b := fun h => h.elim (fun ⟨d, r, c, h1, h2⟩ => .inl ⟨d, r, c, by rw [e]; exact h1, h2⟩) fun ⟨q, m⟩ => .inr ⟨q, by rw [e2]; exact m⟩
/-- into a call -/
theorem Rl.into (R : Rl K G δ (xs ++ τ) t σ (us ++ vs) H) (l : xs.length = us.length) (no : ∀ p, cnt p xs = 0) :
    Rl K ⟨G.dr, Pr G δ τ, H, G.tb⟩ [] xs t [] us H := by
  have ep : Pr G δ (xs ++ τ) = Pr G δ τ := funext fun b => by
    unfold Pr
    rw [cnt_append, no b, Nat.zero_add]
  have e : Pr ⟨G.dr, Pr G δ τ, H, G.tb⟩ [] xs = Pr G δ (xs ++ τ) := funext fun b => by
    rw [ep]
    unfold Pr
    rw [no b]
    simp [cnt]
  have tm := (psplitL l R.tm).1
  have Rd := R.drop l
  refine ⟨.nil, ?_, fun p => by rw [no p]; simp [cnt], fun p h => by rw [no p] at h; simp [cnt] at h, fun p h => by rw [no p] at h; simp [cnt] at h, fun b h => ?_, Frm.of (Same.refl H), ⟨fun d r c hd => ?_, fun P q m => ⟨.inl (R.dw.2 P q m).1, (R.dw.2 P q m).2⟩⟩⟩
  · rw [e]
    exact pmap tm fun _ _ _ _ h => h.swapG rfl
  · intro z
    exact (Rd.newAt z).1 h
  · obtain ⟨a, b, c', u⟩ := R.dw.1 d r c hd
    exact ⟨.inl a, .inl b, .inl c', u⟩
/-- behind a call -/
theorem Rl.back (R : Rl K G δ τ t σ vs H) (R' : Rl K ⟨G.dr, Pr G δ τ, H, G.tb⟩ [] [x] t' [] [v] H') : Rl K G δ (x :: τ) t' σ (v :: vs) H' := by
  have nd : ∀ b, ¬ Pr G δ τ b → ¬ isDr G b := fun b h z => h (.inl (R.dw.dr z).1)
  have f : Frm G H H' := fun b o z e => R'.old b o (fun y => z (isDr_to (G' := G) (G := ⟨G.dr, Pr G δ τ, H, G.tb⟩) rfl rfl y)) e
  have dw : DrOk G H' t' := ⟨fun d r c e => by
    obtain ⟨a, b, c', _⟩ := R.dw.1 d r c e
    exact ⟨a, b, c', (R'.dw.1 d r c e).2.2.2⟩, fun P q m => ⟨(R.dw.2 P q m).1, (R'.dw.2 P q m).2⟩⟩
  have far : ∀ p, 0 < x.has p → ¬ Pr G δ τ p := fun p h => R'.off p (by simp only [cnt]; omega)
  have fre : ∀ p, 0 < x.has p → H p = none := fun p h => R'.new p (by simp only [cnt]; omega)
  have pr : ∀ b, Pr G δ (x :: τ) b → Pr G δ τ b ∨ 0 < x.has b := fun b h => by
    rcases h with h | h
    · exact .inl (.inl h)
    · simp only [cnt] at h
      by_cases z : 0 < x.has b
      · exact .inr z
      · exact .inl (.inr (by omega))
  have m : Same (hid (Pr G δ τ) H) (hid (Pr G δ (x :: τ)) H') := fun b o e => by
    by_cases h : Pr G δ τ b
    · rw [hid_on h] at e
      cases e
    · rw [hid_off h] at e
      rw [hid_off fun z => (pr b z).elim h fun y => by rw [fre b y] at e; cases e]
      exact f b o (nd b h) e
  have m2 : Same (hid (Pr ⟨G.dr, Pr G δ τ, H, G.tb⟩ [] [x]) H') (hid (Pr G δ (x :: τ)) H') := hid_mono fun b h => by
    rcases pr b h with h | h
    · exact .inl h
    · exact .inr (by simp only [cnt]; omega)
  have ow : ∀ p us, 0 < cnt p δ + cnt p τ → H p = some (.lst us) → H' p = some (.lst us) := fun p us h e => f p _ (fun z => R.off p h (R.dw.dr z).1) e
  refine ⟨pmap R.sl fun i a b e h => h.to m fun p xs us z q => ?_, .cons ((R'.head.swapG (G' := G) rfl).to m2 fun _ _ _ _ e => e) (pmap R.tm fun i a b e h => h.to m fun p xs us z q => ?_), fun p => ?_, fun p h => ?_, fun p h => ?_, fun b h => ?_, R.old.trans f, dw⟩
  · subst z
    exact ow p us (by have := pos_at e; omega) q
  · subst z
    exact ow p us (by have := pos_at e; omega) q
  · have a := R.nd p
    have b := has_le (p := p) (s := x)
    simp only [cnt]
    by_cases z : 0 < x.has p
    · have := far p z
      have : ¬ 0 < cnt p δ + cnt p τ := fun y => this (.inr y)
      omega
    · omega
  · simp only [cnt] at h
    by_cases z : 0 < x.has p
    · exact fun y => far p z (.inl y)
    · exact R.off p (by omega)
  · simp only [cnt] at h
    by_cases z : 0 < x.has p
    · exact (R.newAt (fre p z)).2
    · exact R.new p (by omega)
  · exact R'.live b (.inl h)
theorem den_callT {S : DSp} {T : List (Addr × Str)} {ta : TA} {R : RX} (hT : ∀ m, m ∈ T → OneIn G m) (q : DenA K G ta δ τ t fun xs δ1 t1 => S (xs.map Sl.soft) t1 fun x t' => R x δ1 t') : Den K G (tCall (spD K S T) [] E0 ta) δ τ t R := fun σ vs H Q R0 k =>
  q σ vs H _ R0 fun us H1 xs δ1 t1 q1 l R1 => by
    have R2 := R1.softAll l
    have l' : (xs.map Sl.soft).length = us.length := by rw [List.length_map]; exact l
    have R3 := R2.drop l'
    refine ⟨⟨G.dr, Pr G δ1 τ, H1, G.tb⟩, xs.map Sl.soft, t1, _, q1, ?_, ?_⟩
    · rw [List.append_nil]
      exact l'
    · rw [List.append_nil]
      refine ⟨R2.into l' (fun p => cnt_soft xs), ⟨fun p => cnt_soft xs, hT⟩, fun v H' x t' c R' => ?_⟩
      exact k v H' x δ1 t' c (R3.back R')
theorem den_call {S : DSp} {ta : TA} {R : RX} (q : DenA K G ta δ τ t fun xs δ1 t1 => S (xs.map Sl.soft) t1 fun x t' => R x δ1 t') : Den K G (tCall (spD K S) [] E0 ta) δ τ t R := den_callT (fun _ h => nomatch h) q
end
/-- the slots at a def's beginning -/
def dst : List Str → List Sl → List Sl
  | [], _ => []
  | _ :: ns, [] => .any :: dst ns []
  | _ :: ns, x :: xs => x :: dst ns xs
theorem cnt_dst {p : Addr} : ∀ {ns : List Str} {xs : List Sl}, cnt p (dst ns xs) ≤ cnt p xs
  | [], _ => Nat.zero_le _
  | _ :: ns, [] => by
    have := cnt_dst (p := p) (ns := ns) (xs := [])
    simp only [dst, cnt] at *
    show (0 : Nat) + _ ≤ _
    omega
  | _ :: ns, x :: xs => by
    have := cnt_dst (p := p) (ns := ns) (xs := xs)
    simp only [dst, cnt]
    omega
theorem dst_rs {K : PySem.W.Frag} {G : Pa} {O : Addr → Prop} {H : Hp} : ∀ {ns : List Str} {xs : List Sl} {vs : List V}, xs.length ≤ ns.length → Paired (fun s v => RV K G O H s v) xs vs → Paired (fun s o => RS K G O H s o) (dst ns xs) (L2.start ns vs)
  | [], [], _, _, .nil => .nil
  | [], _ :: _, _, l, _ => absurd l (by simp)
  | _ :: ns, [], _, _, .nil => by
    have := dst_rs (K := K) (G := G) (O := O) (H := H) (ns := ns) (xs := []) (vs := []) (Nat.zero_le _) .nil
    show Paired _ (Sl.any :: dst ns []) (List.replicate (ns.length + 1) none)
    rw [List.replicate_succ]
    exact .cons (.inl rfl) this
  | _ :: ns, x :: xs, _ :: vs, l, .cons h t => by
    have := dst_rs (K := K) (G := G) (O := O) (H := H) (ns := ns) (xs := xs) (vs := vs) (by simpa using l) t
    refine .cons (.inr ⟨_, rfl, h⟩) ?_
    unfold L2.start at this
    simpa using this
section
variable {P : Program} {w : World} {K : PySem.W.Frag} {mg : Str → Option Value} {base : Heap} {k : Nat} {f : Addr} {fd : FuncData} {N ps : List Str} {S : DSp}
theorem okDT {T : List (Addr × Str)} {x qual : Str} {st : Stmt} (F : Fun K x qual st f fd) (Sc : FnScope N ps (defScope st)) (many : ∀ {xs t C}, S xs t C → xs.length = ps.length)
    (body : ∀ (G : Pa) (_ : ∀ m, m ∈ T → OneIn G m) (cdv : Value) (_ : fd.code = cdv) (A : Around) (outer : List Env) (s : Shared) (H : Hp) (E : XK) (xs : List Sl) (t : Nat) (C : Sl → Nat → Prop), A.guards = some [] → Room k (A.deeper (envOfC qual (defScope st) s.heap.objs.size f cdv)) → S xs t C →
      ∃ tS, PSs (cxOf CX0 P w K mg base N qual (defScope st) f cdv A outer s H E).nox (defBody st) tS ∧ DS K G tS (dst N xs) [] t ⟨fun _ t' => C (.dat .none) t', C, fun _ _ => False, fun _ _ => False⟩) :
    GOk P w K mg base (k + 1) f fd ps (spD K S T) := by
  refine okGc F Sc (fun h => ?_) fun cdv hcd A outer s H vs Q E hq hr h => ?_
  · obtain ⟨G, xs, t, C, h1, h2, _⟩ := h
    rw [← h2]
    exact many h1
  · obtain ⟨G, xs, t, C, h1, h2, R, ⟨no, hT⟩, q⟩ := h
    obtain ⟨tS, runs, ds⟩ := body G hT cdv hcd A outer s H E xs t C hq hr h1
    refine ⟨tS, runs, ?_⟩
    have hpl : ps.length ≤ N.length := by have := congrArg List.length Sc.pre; rw [List.length_take] at this; omega
    have R0 : Rl K G (dst N xs) [] t (L2.start N vs) [] H := by
      refine R.less (fun p => ?_) (fun m => dst_rs (by rw [many h1]; exact hpl) (tm_to m R.tm)) fun _ => .nil
      have := cnt_dst (p := p) (ns := N) (xs := xs)
      have := no p
      simp only [cnt]
      omega
    have ret : ∀ v H' x δ' t' σ', C x t' → Rl K G δ' (x :: []) t' σ' (v :: []) H' → Q v H' := fun v H' x δ' t' σ' c R' =>
      q v H' x t' c (R'.less (fun p => by simp only [cnt]; omega) (fun _ => .nil) fun m => tm_to m R'.tm)
    exact ds _ [] H _ R0 (fun σ' H' δ' t' c R' => ret _ _ _ _ _ _ c (R'.sc .non)) (fun v H' x δ' t' σ' c R' => ret _ _ _ _ _ _ c R') (fun _ _ _ _ z => z.elim) fun _ _ _ _ z => z.elim
theorem okD {x qual : Str} {st : Stmt} (F : Fun K x qual st f fd) (Sc : FnScope N ps (defScope st)) (many : ∀ {xs t C}, S xs t C → xs.length = ps.length)
    (body : ∀ (G : Pa) (cdv : Value) (A : Around) (outer : List Env) (s : Shared) (H : Hp) (E : XK) (xs : List Sl) (t : Nat) (C : Sl → Nat → Prop), A.guards = some [] → Room k (A.deeper (envOfC qual (defScope st) s.heap.objs.size f cdv)) → S xs t C →
      ∃ tS, PSs (cxOf CX0 P w K mg base N qual (defScope st) f cdv A outer s H E).nox (defBody st) tS ∧ DS K G tS (dst N xs) [] t ⟨fun _ t' => C (.dat .none) t', C, fun _ _ => False, fun _ _ => False⟩) :
    GOk P w K mg base (k + 1) f fd ps (spD K S) := okDT F Sc many fun G _ cdv _ A outer s H E xs t C => body G cdv A outer s H E xs t C
theorem GOk.imp {sp sp' : Sp} (F : GOk P w K mg base k f fd ps sp) (h : ∀ vs H Q E, sp' vs H Q E → sp vs H Q E) : GOk P w K mg base k f fd ps sp' :=
  ⟨fun q => F.many (h _ _ _ _ q), fun hr g e b r q => F.goes hr g e b r (h _ _ _ _ q)⟩
end
/-! ### isinstance, list(range(..)) -/
def tyD : PyData → Option String
  | .none => some "NoneType"
  | .bool _ => some "bool"
  | .int _ => some "int"
  | .str _ => some "str"
  | .list _ => some "list"
  | .tuple _ => some "tuple"
  | .dict _ => some "dict"
theorem tyx {K : PySem.W.Frag} {H : Hp} {v : V} : ∀ {d : PyData} {n : String}, Dq K H v d → tyD d = some n → TyX K H v (.type n) ∨ (n = "dict" ∧ ∃ C : Addr, OC K C ∧ TyX K H v (.ref C))
  | _, _, .non, e => by cases e; exact .inl (.base .non)
  | _, _, .bl b, e => by cases e; exact .inl (.base (.bl b))
  | _, _, .int b, e => by cases e; exact .inl (.base (.int b))
  | _, _, .str b, e => by cases e; exact .inl (.base (.str b))
  | _, _, .lst h _, e => by cases e; exact .inl (.base (.lst h))
  | _, _, .dct h z, e => by cases e; exact .inl (.base (.dK h))
  | _, _, .obj O h _, e => by
    cases e
    exact .inr ⟨rfl, _, O, .base (.ins h O.cl O.ha O.hn O.ht O.hm)⟩
  | _, _, .tup h _, e => by
    cases e
    rcases h with (h | ⟨o, h⟩) | ⟨o, its, n, h, c, _⟩
    · exact .inl (.base (.tup h))
    · exact .inl (.fTuple h)
    · exact .inl (.kTuple h c)
theorem kb_tuple_tuple : kitB "tuple" "tuple" = some true := by decide +kernel
theorem kb_tuple_list : kitB "tuple" "list" = some false := by decide +kernel
theorem kb_tuple_int : kitB "tuple" "int" = some false := by decide +kernel
theorem kb_tuple_bool : kitB "tuple" "bool" = some false := by decide +kernel
theorem kb_tuple_str : kitB "tuple" "str" = some false := by decide +kernel
theorem kb_list_tuple : kitB "list" "tuple" = some false := by decide +kernel
theorem kb_list_list : kitB "list" "list" = some true := by decide +kernel
theorem kb_list_int : kitB "list" "int" = some false := by decide +kernel
theorem kb_list_bool : kitB "list" "bool" = some false := by decide +kernel
theorem kb_list_str : kitB "list" "str" = some false := by decide +kernel
theorem kb_int_tuple : kitB "int" "tuple" = some false := by decide +kernel
theorem kb_int_list : kitB "int" "list" = some false := by decide +kernel
theorem kb_int_int : kitB "int" "int" = some true := by decide +kernel
theorem kb_int_bool : kitB "int" "bool" = some false := by decide +kernel
theorem kb_int_str : kitB "int" "str" = some false := by decide +kernel
theorem kb_bool_tuple : kitB "bool" "tuple" = some false := by decide +kernel
theorem kb_bool_list : kitB "bool" "list" = some false := by decide +kernel
theorem kb_bool_int : kitB "bool" "int" = some true := by decide +kernel
theorem kb_bool_bool : kitB "bool" "bool" = some true := by decide +kernel
theorem kb_bool_str : kitB "bool" "str" = some false := by decide +kernel
theorem kb_str_tuple : kitB "str" "tuple" = some false := by decide +kernel
theorem kb_str_list : kitB "str" "list" = some false := by decide +kernel
theorem kb_str_int : kitB "str" "int" = some false := by decide +kernel
theorem kb_str_bool : kitB "str" "bool" = some false := by decide +kernel
theorem kb_str_str : kitB "str" "str" = some true := by decide +kernel
theorem kb_dict_tuple : kitB "dict" "tuple" = some false := by decide +kernel
theorem kb_dict_list : kitB "dict" "list" = some false := by decide +kernel
theorem kb_dict_int : kitB "dict" "int" = some false := by decide +kernel
theorem kb_dict_bool : kitB "dict" "bool" = some false := by decide +kernel
theorem kb_dict_str : kitB "dict" "str" = some false := by decide +kernel
theorem kb_dict_dict : kitB "dict" "dict" = some true := by decide +kernel
theorem kb_tuple_dict : kitB "tuple" "dict" = some false := by decide +kernel
theorem kb_list_dict : kitB "list" "dict" = some false := by decide +kernel
theorem kb_int_dict : kitB "int" "dict" = some false := by decide +kernel
theorem kb_bool_dict : kitB "bool" "dict" = some false := by decide +kernel
theorem kb_str_dict : kitB "str" "dict" = some false := by decide +kernel
theorem kb_NoneType_dict : kitB "NoneType" "dict" = some false := by decide +kernel
theorem kb_NoneType_tuple : kitB "NoneType" "tuple" = some false := by decide +kernel
theorem kb_NoneType_list : kitB "NoneType" "list" = some false := by decide +kernel
theorem kb_NoneType_int : kitB "NoneType" "int" = some false := by decide +kernel
theorem kb_NoneType_bool : kitB "NoneType" "bool" = some false := by decide +kernel
theorem kb_NoneType_str : kitB "NoneType" "str" = some false := by decide +kernel
section
variable {K : PySem.W.Frag} {G : Pa} {δ τ : List Sl} {t : Nat} {R : RX} {x : Sl} {ta tb : TE}
theorem kb_dict_of : ∀ {m : String} {b : Bool}, m ∈ (["tuple", "list", "int", "bool", "str"] : List String) → kitB "dict" m = some b → b = false := fun {m b} h e => by
  simp only [List.mem_cons, List.not_mem_nil, or_false] at h
  rcases h with rfl | rfl | rfl | rfl | rfl
  · rw [kb_dict_tuple] at e; exact (Option.some.inj e).symm
  · rw [kb_dict_list] at e; exact (Option.some.inj e).symm
  · rw [kb_dict_int] at e; exact (Option.some.inj e).symm
  · rw [kb_dict_bool] at e; exact (Option.some.inj e).symm
  · rw [kb_dict_str] at e; exact (Option.some.inj e).symm
theorem dcb_isi {d : PyData} {n m : String} {b : Bool} (hx : x.dv = some d) (e : tyD d = some n) (hb : kitB n m = some b) (hm : n ≠ "dict" ∨ m ∈ (["tuple", "list", "int", "bool", "str"] : List String)) (q : R (.dat (.bool b)) δ t) : Dcb K G (rIsi K) [x, .raw (.ty m)] δ τ t R := fun σ vs H us Q l R0 k => by
  obtain ⟨u, v, rfl⟩ := two_args l
  have h2 : v = .ty m := Rl.h2 (x := .raw (.ty m)) (y := x) R0
  subst h2
  have h1 := RV.full (R0.head) hx
  rcases tyx h1 e with h3 | ⟨rfl, C, O, h3⟩
  · exact ⟨u, .ty m, _, _, b, rfl, .ty m, h3, kit_ty hb, k _ _ _ _ _ q (R0.pop.pop.sc (.bl b))⟩
  · rcases hm with hm | hm
    · exact (hm rfl).elim
    · have := kb_dict_of hm hb
      subst this
      exact ⟨u, .ty m, _, _, false, rfl, .ty m, h3, O.no m hm, k _ _ _ _ _ q (R0.pop.pop.sc (.bl _))⟩
/-- isinstance(o, C) -/
theorem dcb_isO {ps : List (PyData × PyData)} {C D : Addr} {b : Bool} (hx : x.dv = some (.dict ((.none, .int (C : Int)) :: ps))) (hb : PySem.W.kitOne K (.ref C) (.ref D) = some b) (q : R (.dat (.bool b)) δ t) : Dcb K G (rIsi K) [x, .raw (.ref D)] δ τ t R := fun σ vs H us Q l R0 k => by
  obtain ⟨u, v, rfl⟩ := two_args l
  have h2 : v = .ref D := Rl.h2 (x := .raw (.ref D)) (y := x) R0
  subst h2
  have h1 := RV.full (R0.head) hx
  generalize he : ((PyData.none, PyData.int (C : Int)) :: ps) = qs at h1
  cases h1 with
  | dct _ z =>
    rw [← he] at z
    cases z
  | @obj a C' dx us ps' O h _ =>
    have e2 : ((C : Nat) : Int) = (C' : Int) := by
      have := (List.cons.inj he).1
      injection this with _ h3
      injection h3
    obtain rfl : C = C' := Int.ofNat.inj e2
    exact ⟨.ref a, .ref D, .ref C, .ref D, b, rfl, .own D, .base (.ins h O.cl O.ha O.hn O.ht O.hm), hb, k _ _ _ _ _ q (R0.pop.pop.sc (.bl b))⟩
theorem rg_dq {K : PySem.W.Frag} {H : Hp} {a b : Int} : DqAll K H (rgV a b) (rngL a (b - a).toNat) := by
  unfold rgV rngL
  generalize List.range (b - a).toNat = L
  induction L with
  | nil => exact .nil
  | cons x L ih => exact .cons (.int _) ih
theorem den_lrg1 (q : Den K G ta δ τ t fun x δ1 t1 => ∃ j : Int, x = .dat (.int j) ∧ 0 ≤ j ∧ j ≤ 1000000 ∧ ∀ p, R (.own p (rngL 0 j.toNat)) δ1 t1) : Den K G (tLstRg (tRg1 ta)) δ τ t R := fun σ vs H Q R0 k =>
  q σ vs H _ R0 fun v H1 x δ1 t1 ⟨j, e, h0, h1, q1⟩ R1 => by
    subst e
    have := RV.int R1.head
    subst this
    refine ⟨j, rfl, RgOk.of_le (by omega) (by omega) (by omega) (by omega), fun p n => ?_⟩
    have e : rngL 0 j.toNat = rngL 0 (j - 0).toNat := by rw [Int.sub_zero]
    exact k _ _ _ _ _ (q1 p) (R1.pop.lst n (by rw [e]; exact rg_dq))
theorem den_lrg2 (q : Den K G ta δ τ t fun x δ1 t1 => Den K G tb δ1 (x :: τ) t1 fun y δ2 t2 => ∃ i j : Int, x = .dat (.int i) ∧ y = .dat (.int j) ∧ (0 ≤ i ∧ i ≤ 1000000 ∧ 0 ≤ j ∧ j ≤ 1000000) ∧ ∀ p, R (.own p (rngL i (j - i).toNat)) δ2 t2) : Den K G (tLstRg (tRg2 ta tb)) δ τ t R := fun σ vs H Q R0 k =>
  q σ vs H _ R0 fun v H1 x δ1 t1 q1 R1 => q1 σ (v :: vs) H1 _ R1 fun u H2 y δ2 t2 ⟨i, j, ex, ey, h, q2⟩ R2 => by
    subst ex
    subst ey
    have a := RV.int R2.head
    have b := RV.int R2.h2
    subst a
    subst b
    exact ⟨i, j, rfl, rfl, RgOk.of_le (by omega) (by omega) (by omega) (by omega), fun p n => k _ _ _ _ _ (q2 p) (R2.pop.pop.lst n rg_dq)⟩
end
theorem dop_eqSame {K : PySem.W.Frag} {G : Pa} {δ τ : List Sl} {t : Nat} {R : RX} {x y : Sl} {d : PyData} (hx : x.dv = some d) (hy : y.dv = some d) (sd : SeqAt.shaped d = true) (lay : d.canLay0 = true) (q : R (.dat (.bool true)) δ t) : Dop K G (rEqD K) x y δ τ t R :=
  dop_eqD hx hy sd sd (by rw [SeqAt.eqv_refl d lay]; exact q)
theorem dop_neSame {K : PySem.W.Frag} {G : Pa} {δ τ : List Sl} {t : Nat} {R : RX} {x y : Sl} {d : PyData} (hx : x.dv = some d) (hy : y.dv = some d) (sd : SeqAt.shaped d = true) (lay : d.canLay0 = true) (q : R (.dat (.bool false)) δ t) : Dop K G (rNeD K) x y δ τ t R :=
  dop_neD hx hy sd sd (by rw [SeqAt.eqv_refl d lay]; exact q)
/-! ### comprehensions that map, that choose -/
section
variable {K : PySem.W.Frag} {G : Pa} {δ τ : List Sl} {t : Nat} {R : RX} {te : TE} {wi : TI} {g : TG} {tt : TT} {own : List Nat}
theorem den_lcM (f : PyData → PyData) (q : DI K G wi δ τ t fun L δ1 t1 => L.length ≤ 1000000 ∧
      (∀ d, d ∈ L → ∀ τ2, DG K G g (fun i => i ∈ own) (.dat d) (wipeD δ1 own) τ2 t1 fun δ3 t3 => Den K G te δ3 τ2 t3 fun y δ5 t5 => y.dv = some (f d) ∧ wipeD δ5 own = wipeD δ1 own ∧ t5 = t1) ∧ ∀ p, R (.own p (L.map f)) (wipeD δ1 own) t1) :
    Den K G (tLc wi g tYes te own) δ τ t R := by
  refine den_lc fun σ vs H Q R0 k => q σ vs H Q R0 fun J H' L pin pv δ1 t1 ⟨few, turn, done⟩ S R1 => k J H' L pin pv δ1 t1 ⟨fun i acc t2 => t2 = t1 ∧ acc = (L.take i).map f, few, ⟨rfl, rfl⟩, fun i d acc t2 hd h τ2 => ?_, fun acc t2 h _ p => ?_⟩ S R1
  · obtain ⟨rfl, rfl⟩ := h
    have := turn d (List.mem_of_getElem? hd) τ2
    refine fun σ' vs' H2 v Q2 R2 k2 => this σ' vs' H2 v Q2 R2 fun σ3 H3 δ3 t3 q3 R3 w3 => k2 σ3 H3 δ3 t3 (dent_yes ?_) R3 w3
    rw [if_pos rfl]
    refine fun σ4 vs4 H4 Q4 R4 k4 => q3 σ4 vs4 H4 Q4 R4 fun v5 H5 y δ5 t5 ⟨e1, e2, e3⟩ R5 => k4 v5 H5 y δ5 t5 ⟨_, e1, e2, e3, ?_⟩ R5
    rw [List.take_add_one, hd, List.map_append]
    rfl
  · obtain ⟨rfl, rfl⟩ := h
    rw [List.take_length]
    exact done p
theorem den_lcF (f : PyData → PyData) (c : PyData → Bool) (q : DI K G wi δ τ t fun L δ1 t1 => L.length ≤ 1000000 ∧
      (∀ d, d ∈ L → ∀ τ2, DG K G g (fun i => i ∈ own) (.dat d) (wipeD δ1 own) τ2 t1 fun δ3 t3 => DenT K G tt δ3 τ2 t3 fun b δ4 t4 => b = c d ∧ if b = true then Den K G te δ4 τ2 t4 fun y δ5 t5 => y.dv = some (f d) ∧ wipeD δ5 own = wipeD δ1 own ∧ t5 = t1 else wipeD δ4 own = wipeD δ1 own ∧ t4 = t1) ∧
      ∀ p, R (.own p ((L.filter c).map f)) (wipeD δ1 own) t1) :
    Den K G (tLc wi g tt te own) δ τ t R := by
  refine den_lc fun σ vs H Q R0 k => q σ vs H Q R0 fun J H' L pin pv δ1 t1 ⟨few, turn, done⟩ S R1 => k J H' L pin pv δ1 t1 ⟨fun i acc t2 => t2 = t1 ∧ acc = ((L.take i).filter c).map f, few, ⟨rfl, rfl⟩, fun i d acc t2 hd h τ2 => ?_, fun acc t2 h _ p => ?_⟩ S R1
  · obtain ⟨rfl, rfl⟩ := h
    have := turn d (List.mem_of_getElem? hd) τ2
    refine fun σ' vs' H2 v Q2 R2 k2 => this σ' vs' H2 v Q2 R2 fun σ3 H3 δ3 t3 q3 R3 w3 => k2 σ3 H3 δ3 t3 ?_ R3 w3
    refine fun σ4 vs4 H4 Q4 R4 k4 => q3 σ4 vs4 H4 Q4 R4 fun b H5 δ4 t4 ⟨eb, q5⟩ R5 => k4 b H5 δ4 t4 ?_ R5
    have e1 : (L.take (i + 1)).filter c = (L.take i).filter c ++ if c d = true then [d] else [] := by
      rw [List.take_add_one, hd, List.filter_append]
      show _ ++ List.filter c [d] = _
      by_cases h : c d = true
      · rw [if_pos h, List.filter_cons_of_pos h]
        rfl
      · rw [if_neg h, List.filter_cons_of_neg h]
        rfl
    show if b = true then _ else _
    cases b with
    | true =>
      rw [if_pos rfl] at q5 ⊢
      refine fun σ6 vs6 H6 Q6 R6 k6 => q5 σ6 vs6 H6 Q6 R6 fun v7 H7 y δ7 t7 ⟨e2, e3, e4⟩ R7 => k6 v7 H7 y δ7 t7 ⟨_, e2, e3, e4, ?_⟩ R7
      rw [e1, if_pos eb.symm, List.map_append]
      rfl
    | false =>
      rw [if_neg Bool.false_ne_true] at q5 ⊢
      refine ⟨q5.1, q5.2, ?_⟩
      rw [e1, if_neg (by rw [← eb]; exact Bool.false_ne_true), List.append_nil]
  · obtain ⟨rfl, rfl⟩ := h
    rw [List.take_length]
    exact done p
end
theorem zip_same {ds : List PyData} {d : PyData} (h : d ∈ zipD ds ds) : ∃ e, e ∈ ds ∧ d = .tuple [e, e] := by
  obtain ⟨i, hi⟩ := List.mem_iff_getElem?.mp h
  obtain ⟨x, y, h1, h2, e⟩ := zipD_at hi
  rw [h1] at h2
  cases h2
  exact ⟨x, List.mem_of_getElem? h1, e⟩
theorem dcb_allT {K : PySem.W.Frag} {G : Pa} {δ τ : List Sl} {t : Nat} {R : RX} {x : Sl} {α : Type} {L : List α} (hx : x.dv = some (.list (L.map fun _ => .bool true))) (q : R (.dat (.bool true)) δ t) : Dcb K G (rAll K) [x] δ τ t R := by
  refine dcb_all (bs := L.map fun _ => true) (by rw [hx, List.map_map]; rfl) ?_
  have : (L.map fun _ => true).all id = true := by
    rw [List.all_eq_true]
    intro b hb
    obtain ⟨_, _, e⟩ := List.mem_map.mp hb
    rw [← e]
    rfl
  rw [this]
  exact q
/-! ### the draws -/
def Sn : DSp := fun xs t C => ∃ m : Int, xs = [.drw, .dat (.int m)] ∧ t ≤ 1000000 ∧ 0 < m ∧ m ≤ 1606938044258990275541962092341162602522202993782792835301376 ∧ ∀ v : Int, 0 ≤ v → v < m → C (.dat (.int v)) (t + 1)
def So : DSp := fun xs t C => ∃ ds : List PyData, xs = [.drw, .dat (.list ds)] ∧ t ≤ 1000000 ∧ 0 < ds.length ∧ ds.length ≤ 1000000 ∧ ∀ d, d ∈ ds → C (.dat d) (t + 1)
theorem drw_at {K : PySem.W.Frag} {G : Pa} {O : Addr → Prop} {H : Hp} {v : V} (h : RV K G O H .drw v) : ∃ d r c, G.dr = some (d, r, c) ∧ v = .ref d := h
/-- where the draws begin -/
theorem Rl.first {K : PySem.W.Frag} {H : Hp} {d r c : Addr} {δ : List Sl} {σ : L2.St} (D : Dr H d r c 0) (sl : Paired (fun s o => s = .any ∨ (s = .drw ∧ o = some (.ref d))) δ σ) : Rl K ⟨some (d, r, c), fun b => b = d ∨ b = r ∨ b = c, H, []⟩ δ [] 0 σ [] H := by
  have no : ∀ {δ : List Sl} {σ : L2.St}, Paired (fun s o => s = .any ∨ (s = .drw ∧ o = some (.ref d))) δ σ → ∀ p, cnt p δ = 0 := fun {δ σ} h p => by
    induction h with
    | nil => rfl
    | cons h _ ih =>
      rcases h with h | ⟨h, _⟩ <;> (subst h; show 0 + _ = 0; rw [ih])
  refine ⟨pmap sl fun i a b _ h => ?_, .nil, fun p => by rw [no sl p]; simp [cnt], fun p h => by rw [no sl p] at h; simp [cnt] at h, fun p h => by rw [no sl p] at h; simp [cnt] at h, fun b h => ?_, Frm.of (Same.refl H), ⟨fun d' r' c' e => ?_, fun _ _ m => nomatch m⟩⟩
  · rcases h with h | ⟨rfl, rfl⟩
    · exact .inl h
    · exact .inr ⟨_, rfl, d, r, c, rfl, rfl⟩
  · obtain ⟨cells, rests, h1, h2, h3, h4, h5, h6, _⟩ := D
    rcases h with rfl | rfl | rfl
    · rw [h4]; exact Option.some_ne_none _
    · rw [h6]; exact Option.some_ne_none _
    · rw [h5]; exact Option.some_ne_none _
  · cases e
    exact ⟨.inl rfl, .inr (.inl rfl), .inr (.inr rfl), 0, Int.le_refl _, D⟩
/-! existentials that a walk meets -/
theorem ex_b {P : Bool → Prop} {b : Bool} (q : P b) : ∃ b', Sl.dat (PyData.bool b) = .dat (.bool b') ∧ P b' := ⟨b, rfl, q⟩
theorem ex_i {P : Int → Prop} {b : Int} (q : P b) : ∃ b', Sl.dat (PyData.int b) = .dat (.int b') ∧ P b' := ⟨b, rfl, q⟩
theorem ex_ds {P : List PyData → Prop} {xs : List Sl} {ds : List PyData} {n : Nat} (e : dvs xs = some ds) (l : xs.length ≤ n) (q : P ds) : ∃ ds', dvs xs = some ds' ∧ xs.length ≤ n ∧ P ds' := ⟨ds, e, l, q⟩
theorem ex_dv {P : PyData → Prop} {x : Sl} {d : PyData} (e : x.dv = some d) (q : P d) : ∃ d', x.dv = some d' ∧ P d' := ⟨d, e, q⟩
theorem ex_L {P : List PyData → Prop} {x : Sl} {d : List PyData} (e : x.dv = some (.list d)) (q : P d) : ∃ d', x.dv = some (.list d') ∧ P d' := ⟨d, e, q⟩
theorem ex_T {P : List PyData → Prop} {d : List PyData} (q : P d) : ∃ d', Sl.dat (PyData.tuple d) = .dat (.tuple d') ∧ P d' := ⟨d, rfl, q⟩
section
variable {X : Cx}
theorem asE {e : Expr} {i : Nat} (h : PE X e (tVar i)) : PE X e (tOwn i) := h
theorem asG {e : Expr} {i : Nat} (h : PG X e (gName i)) : PG X e (gOwn i) := h
theorem asS {st : Stmt} {te : TE} {i : Nat} (h : PS X st (tAsg te (gName i))) : PS X st (tAsg te (gOwn i)) := h
theorem all_k {K : PySem.W.Frag} (hc : X.calm = true) (e : X.K = K) : CallR X (.builtin "all") (rAll K) := by subst e; exact cr_all hc
theorem any_k {K : PySem.W.Frag} (hc : X.calm = true) (e : X.K = K) : CallR X (.builtin "any") (rAny K) := by subst e; exact cr_any hc
theorem max_k {K : PySem.W.Frag} (hc : X.calm = true) (e : X.K = K) : CallR X (.builtin "max") (rMax K) := by subst e; exact cr_max hc
theorem min_k {K : PySem.W.Frag} (hc : X.calm = true) (e : X.K = K) : CallR X (.builtin "min") (rMin K) := by subst e; exact cr_min hc
theorem pil_k {K : PySem.W.Frag} {tg l : Expr} {tl : TE} (e : X.K = K) (hl : PE X l tl) : PI X tg l (iList K tl) := by subst e; exact pi_list hl
theorem pit_k {K : PySem.W.Frag} {tg l : Expr} {tl : TE} (e : X.K = K) (hl : PE X l tl) : PI X tg l (iTup K tl) := by subst e; exact pi_tup hl
theorem rept_k {K : PySem.W.Frag} (e : X.K = K) : OpR X (binaryOp .Mult) (rRepT K) := by subst e; exact op_repT
theorem catt_k {K : PySem.W.Frag} (e : X.K = K) : OpR X (binaryOp .Add) (rCatT K) := by subst e; exact op_catT
end
end Dl

set_option Elab.async false
set_option linter.all false
set_option maxRecDepth 100000
set_option maxHeartbeats 4000000
/-! repr of any data; what may be shown; small numbers of turns -/
namespace Dl
open PySem PySem.Spec PyProof.Rows L2 Glay Lw
def rReprD (K : PySem.W.Frag) : List V → Hp → VK → Prop := fun xs H Q => ∃ v d, xs = [v] ∧ Dp K H v d ∧ d.showable = true ∧ d.hasDict = false ∧ d.depth ≤ 90 ∧ d.shown.length ≤ sizeLine ∧ Q (.str d.shown) H
section
variable {X : Cx}
theorem call_reprD (hq : X.A.guards = some []) (hu : X.A.units + 100 < cLine) : CallR X (.builtin "repr") (rReprD X.K) := by
  intro pins s σ H xs us Q I r h
  obtain ⟨v, d, rfl, hd, sh, nd, dd, sz, q⟩ := h
  cases hd with
  | non =>
    obtain ⟨u, rfl, ru⟩ := vals1 r
    cases (show u = Value.none from ru)
    exact PySem.P.repr_of_none ⟨.str _, H, I.tok _, ⟨_, rfl⟩, q⟩
  | bl b =>
    obtain ⟨u, rfl, ru⟩ := vals1 r
    cases (show u = Value.bool b from ru)
    refine PySem.P.repr_of_bool ⟨.str _, H, I.tok _, ⟨_, rfl⟩, ?_⟩
    cases b <;> exact q
  | int i =>
    obtain ⟨u, rfl, t, rfl⟩ := vals1 r
    exact PySem.P.repr_of_int (by simpa [PyData.showable] using sh) ⟨.str _, H, I.tok _, ⟨_, rfl⟩, q⟩
  | str x =>
    obtain ⟨u, rfl, t, rfl⟩ := vals1 r
    exact PySem.P.repr_of_str ⟨.str _, H, I.tok _, ⟨_, rfl⟩, q⟩ sz
  | lst h1 h2 => exact call_reprG hq hu pins s σ H _ us Q I r ⟨_, _, rfl, .lst h1 h2, sh, nd, dd, sz, q⟩
  | tup h1 h2 => exact call_reprG hq hu pins s σ H _ us Q I r ⟨_, _, rfl, .tup h1 h2, sh, nd, dd, sz, q⟩
theorem reprD_k {K : PySem.W.Frag} (e : X.K = K) (hq : X.A.guards = some []) (hu : X.A.units + 100 < cLine) : CallR X (.builtin "repr") (rReprD K) := by subst e; exact call_reprD hq hu
end
section
variable {K : PySem.W.Frag} {G : Pa} {δ τ : List Sl} {t t' : Nat} {R : RX} {x : Sl} {te : TE} {ts : TS} {D : DEnds}
theorem dcb_reprD {d : PyData} (hx : x.dv = some d) (s : Shows d) (q : R (.dat (.str d.shown)) δ t) : Dcb K G (rReprD K) [x] δ τ t R := fun σ vs H us Q l R0 k => by
  obtain ⟨u, rfl⟩ := one_arg (xs := []) l
  exact ⟨u, d, rfl, (RV.full R0.head hx).dp _ s.lay, s.show_, s.flat, Nat.le_trans s.deep (by decide), s.size, k _ _ _ _ _ q (R0.pop.sc (.str _))⟩
theorem den_more (l : t ≤ t') (q : Den K G te δ τ t' R) : Den K G te δ τ t R := fun σ vs H Q R0 k => q σ vs H Q (R0.more l) k
theorem ds_more (l : t ≤ t') (q : DS K G ts δ τ t' D) : DS K G ts δ τ t D := fun σ vs H E R0 => q σ vs H E (R0.more l)
end
theorem cshl1 {j : Int} (h0 : 0 ≤ j) (h1 : j ≤ 100000) : CShl 1 j := by
  have e : Builtin.Int.intBits 1 = 1 := by decide
  unfold CShl
  rw [e]
  omega
theorem divOk {i j : Int} (h0 : 0 < j) (h1 : Bd 1900 j) : CDivW i j := ⟨h0, Nat.lt_trans (PySem.Flt.log2_lt_of (by decide) h1) (by decide)⟩
theorem mulOk {i j : Int} (h : Bd 1900 i) (h' : Bd 1900 j) : CMulW i j := Bd.mulOk h h' (by decide)
theorem Bd.mod {B : Nat} {i P : Int} (h0 : 0 < P) (h : Bd B P) : Bd B (i % P) := Bd.le h (Int.emod_nonneg _ (by omega)) (Int.le_of_lt (Int.emod_lt_of_pos _ h0))
theorem Bd.div {B : Nat} {i j : Int} (h : Bd B i) (h0 : 0 ≤ i) (h1 : 0 < j) : Bd B (i / j) := Bd.le h (Int.ediv_nonneg h0 (by omega)) (Int.ediv_le_self _ h0)
theorem two_pow_bd {n B : Nat} (h : n < B) : Bd B (2 ^ n) := by
  unfold Bd
  rw [Int.natAbs_pow]
  exact Nat.pow_lt_pow_right (by decide) h
def tParO (i j : Nat) (tr : TA) : TS := tPar i j tr
theorem asP {X : Cx} {st : Stmt} {i j : Nat} {tr : TA} (h : PS X st (tPar i j tr)) : PS X st (tParO i j tr) := h
theorem ds_parO {K : PySem.W.Frag} {G : Pa} {δ τ : List Sl} {t : Nat} {D : DEnds} {i j : Nat} {tr : TA} (q : DenA K G tr δ τ t fun xs δ1 t1 => ∃ x p ys, xs = [x, .own p ys] ∧ D.nx ((δ1.set i x.soft).set j (.own p ys)) t1) : DS K G (tParO i j tr) δ τ t D := fun σ vs H E R0 k1 _ _ _ =>
  q σ vs H _ R0 fun us H1 xs δ1 t1 ⟨x, p, ys, e, q1⟩ l R1 => by
    subst e
    match us, l with
    | [u, v], l =>
      have R2 : Rl K G δ1 (x.soft :: .own p ys :: τ) t1 σ (u :: v :: vs) H1 := Rl.softTop R1
      exact ⟨u, v, rfl, k1 _ _ _ _ q1 (Rl.put j (Rl.put i R2))⟩
theorem den_datO {K : PySem.W.Frag} {G : Pa} {δ τ : List Sl} {t : Nat} {R : RX} {i : Nat} {d : PyData} (e : δ[i]? = some (.dat d)) (q : R (.dat d) δ t) : Den K G (tOwn i) δ τ t R := den_dat e q
theorem shaped_ints (ns : List Int) : SeqAt.shaped (.list (ns.map PyData.int)) = true := by
  have h : PyData.canLayAll0 (ns.map PyData.int) = true ∧ PyData.depthAll (ns.map PyData.int) = 0 := by
    induction ns with
    | nil => exact ⟨rfl, rfl⟩
    | cons n ns ih => exact ⟨by simp only [List.map_cons, PyData.canLayAll0, PyData.canLay0, ih.1, Bool.and_self], by simp only [List.map_cons, PyData.depthAll, PyData.depth, ih.2, Nat.max_self]⟩
  unfold SeqAt.shaped
  simp only [PyData.canLay0, PyData.depth, h.1, h.2]
  decide
theorem dop_eqCons {K : PySem.W.Frag} {G : Pa} {δ τ : List Sl} {t : Nat} {R : RX} {x y : Sl} {n : Int} {ns : List Int} (hx : x.dv = some (.list ((n :: ns).map PyData.int))) (hy : y.dv = some (.list [])) (q : R (.dat (.bool false)) δ t) : Dop K G (rEqD K) x y δ τ t R :=
  dop_eqD hx hy (shaped_ints (n :: ns)) rfl (by
    have e : PyData.eqv (.list ((n :: ns).map PyData.int)) (.list []) = false := rfl
    rw [e]
    exact q)
theorem dop_neCons {K : PySem.W.Frag} {G : Pa} {δ τ : List Sl} {t : Nat} {R : RX} {x y : Sl} {n : Int} {ns : List Int} (hx : x.dv = some (.list ((n :: ns).map PyData.int))) (hy : y.dv = some (.list [])) (q : R (.dat (.bool true)) δ t) : Dop K G (rNeD K) x y δ τ t R :=
  dop_neD hx hy (shaped_ints (n :: ns)) rfl (by
    have e : PyData.eqv (.list ((n :: ns).map PyData.int)) (.list []) = false := rfl
    rw [e]
    exact q)
theorem tbm_k {X : Cx} {K : PySem.W.Frag} {ex : Expr} {T : String} {r : V → List V → Hp → VK → Prop} {to : TE} {t : TA} (e : X.K = K) (h : PE X ex (tBM X.K T r to t)) : PE X ex (tBM K T r to t) := by subst e; exact h
theorem dec_c {C : Sl → Nat → Prop} {t : Nat} {p : Prop} [Decidable p] (h : p) (q : C (.dat (.bool true)) t) : C (.dat (.bool (decide p))) t := by rw [decide_eq_true h]; exact q
theorem ex_xy {P : Sl → Sl → Prop} {x y : Sl} (q : P x y) : ∃ x' y', [x, y] = [x', y'] ∧ P x' y' := ⟨x, y, rfl, q⟩
/-- a number or none -/
def optI : Option Int → PyData
  | none => .none
  | some i => .int i
theorem ds_cut {K : PySem.W.Frag} {G : Pa} {δ τ : List Sl} {t : Nat} {D : DEnds} {ts us : TS} (I : List Sl → Nat → Prop) (a : DS K G ts δ τ t { D with nx := I }) (b : ∀ δ1 t1, I δ1 t1 → DS K G us δ1 τ t1 D) : DS K G (tSeq ts us) δ τ t D :=
  ds_seq fun σ vs H E R0 k1 k2 k3 k4 => a σ vs H E R0 (fun σ' H' δ' t' q R => k1 σ' H' δ' t' (b δ' t' q) R) k2 k3 k4
theorem eqv_optI {x : Int} {o : Option Int} : PyData.eqv (.int x) (optI o) = decide (o = some x) := by
  cases o with
  | none => rfl
  | some w =>
    show (x == w) = _
    by_cases h : x = w
    · subst h
      simp
    · have : ¬ (some w = some x) := fun z => h (Option.some.inj z).symm
      rw [decide_eq_false this]
      simpa using h
theorem shaped_optI (o : Option Int) : SeqAt.shaped (optI o) = true := by cases o <;> rfl
theorem atI_last {α : Type} {xs : List α} {x : α} (h : xs.getLast? = some x) : atI xs (-1) = some x := by
  have ne : xs ≠ [] := fun z => by rw [z] at h; cases h
  have l := List.length_pos_iff.mpr ne
  rw [List.getLast?_eq_getElem?] at h
  unfold atI ixN
  rw [if_neg (by decide), if_pos (by omega)]
  show xs[((xs.length : Int) + -1).toNat]? = _
  rw [show ((xs.length : Int) + -1).toNat = xs.length - 1 by omega]
  exact h
theorem rd_ndec {c A B : Prop} [Decidable c] (h1 : ¬ c → A) (h2 : c → B) : if (!decide c) = true then A else B := by
  by_cases h : c
  · rw [decide_eq_true h]
    exact h2 h
  · rw [decide_eq_false h]
    exact h1 h
theorem range_filter_succ (q : Nat → Bool) (n : Nat) : (List.range (n + 1)).filter q = (List.range n).filter q ++ if q n = true then [n] else [] := by
  rw [List.range_succ, List.filter_append]
  by_cases z : q n = true
  · rw [if_pos z, List.filter_cons_of_pos z]
    rfl
  · rw [if_neg z, List.filter_cons_of_neg z]
    rfl
/-- what may be shown: at most so deep, of such a cost -/
structure Sm (n c : Nat) (d : PyData) : Prop where
  show_ : d.showable = true
  flat : d.hasDict = false
  deep : d.depth ≤ n
  small : cost d ≤ c
  lay : d.canLay0 = true
theorem Sm.shows {n c : Nat} {d : PyData} (h : Sm n c d) (a : n ≤ 60) (b : c ≤ 4000000) : Shows d := ⟨h.show_, h.flat, Nat.le_trans h.deep a, Nat.le_trans h.small b, h.lay⟩
theorem Sm.up {n c n' c' : Nat} {d : PyData} (h : Sm n c d) (a : n ≤ n') (b : c ≤ c') : Sm n' c' d := ⟨h.show_, h.flat, Nat.le_trans h.deep a, Nat.le_trans h.small b, h.lay⟩
theorem Sm.int {i : Int} (h : i.natAbs.log2 < 1920) : Sm 0 1925 (.int i) := ⟨by simpa [PyData.showable] using h, rfl, Nat.le_refl _, Nat.le_refl _, rfl⟩
theorem Sm.none : Sm 0 1925 .none := ⟨rfl, rfl, Nat.le_refl _, by decide, rfl⟩
theorem Sm.bool {b : Bool} : Sm 0 1925 (.bool b) := ⟨rfl, rfl, Nat.le_refl _, by show 8 ≤ 1925; decide, rfl⟩
theorem sm_all {n c : Nat} : ∀ {ds : List PyData}, (∀ d, d ∈ ds → Sm n c d) → PyData.showableAll ds = true ∧ PyData.hasDictAll ds = false ∧ PyData.depthAll ds ≤ n ∧ costAll ds ≤ ds.length * (c + 2) ∧ PyData.canLayAll0 ds = true
  | [], _ => ⟨rfl, rfl, Nat.zero_le _, Nat.zero_le _, rfl⟩
  | d :: ds, h => by
    have a := h d List.mem_cons_self
    obtain ⟨b1, b2, b3, b4, b5⟩ := sm_all fun e he => h e (List.mem_cons_of_mem _ he)
    refine ⟨?_, ?_, ?_, ?_, ?_⟩
    · simp only [PyData.showableAll, a.show_, b1, Bool.and_self]
    · simp only [PyData.hasDictAll, a.flat, b2, Bool.or_self]
    · simp only [PyData.depthAll]
      exact Nat.max_le.mpr ⟨a.deep, b3⟩
    · have := a.small
      simp only [costAll, List.length_cons]
      have : (ds.length + 1) * (c + 2) = ds.length * (c + 2) + (c + 2) := Nat.succ_mul _ _
      omega
    · simp only [PyData.canLayAll0, a.lay, b5, Bool.and_self]
theorem Sm.list {n c m : Nat} {ds : List PyData} (h : ∀ d, d ∈ ds → Sm n c d) (l : ds.length ≤ m) : Sm (n + 1) (m * (c + 2) + 3) (.list ds) := by
  obtain ⟨b1, b2, b3, b4, b5⟩ := sm_all h
  have : ds.length * (c + 2) ≤ m * (c + 2) := Nat.mul_le_mul_right _ l
  refine ⟨?_, ?_, ?_, ?_, ?_⟩
  · simpa only [PyData.showable] using b1
  · simpa only [PyData.hasDict] using b2
  · simp only [PyData.depth]
    omega
  · simp only [cost]
    omega
  · simpa only [PyData.canLay0] using b5
theorem Sm.tuple {n c m : Nat} {ds : List PyData} (h : ∀ d, d ∈ ds → Sm n c d) (l : ds.length ≤ m) : Sm (n + 1) (m * (c + 2) + 3) (.tuple ds) := by
  obtain ⟨b1, b2, b3, b4, b5⟩ := sm_all h
  have : ds.length * (c + 2) ≤ m * (c + 2) := Nat.mul_le_mul_right _ l
  refine ⟨?_, ?_, ?_, ?_, ?_⟩
  · simpa only [PyData.showable] using b1
  · simpa only [PyData.hasDict] using b2
  · simp only [PyData.depth]
    omega
  · simp only [cost]
    omega
  · simpa only [PyData.canLay0] using b5
theorem log2_bd {B : Nat} {i : Int} (h : Bd B i) (l : B ≤ 1920) (p : 0 < B := by decide) : i.natAbs.log2 < 1920 := Nat.lt_of_lt_of_le (PySem.Flt.log2_lt_of p h) l
def optP : Option (Int × Int) → PyData
  | none => .none
  | some p => .tuple [.int p.1, .int p.2]
theorem sm_optI {o : Option Int} (h : ∀ i, o = some i → i.natAbs.log2 < 1920) : Sm 0 1925 (optI o) := by
  cases o with
  | none => exact .none
  | some i => exact .int (h i rfl)
theorem sm_optP {o : Option (Int × Int)} (h : ∀ p, o = some p → p.1.natAbs.log2 < 1920 ∧ p.2.natAbs.log2 < 1920) : Sm 1 4000 (optP o) := by
  cases o with
  | none => exact Sm.none.up (by decide) (by decide)
  | some p =>
    refine (Sm.tuple (n := 0) (c := 1925) (m := 2) (fun d hd => ?_) (by simp)).up (by decide) (by decide)
    simp only [List.mem_cons, List.not_mem_nil, or_false] at hd
    rcases hd with rfl | rfl
    · exact .int (h p rfl).1
    · exact .int (h p rfl).2
end Dl

set_option Elab.async false
set_option linter.all false
set_option maxRecDepth 100000
set_option maxHeartbeats 4000000
/-! slots looked up by a plain recursion -/
namespace Dl
open PySem PySem.Spec PyProof.Rows L2 Glay Lw
def sget : List Sl → Nat → Option Sl
  | [], _ => none
  | x :: _, 0 => some x
  | _ :: xs, n + 1 => sget xs n
theorem sget_eq : ∀ (δ : List Sl) (i : Nat), sget δ i = δ[i]?
  | [], _ => rfl
  | _ :: _, 0 => rfl
  | _ :: xs, n + 1 => by
    show sget xs n = _
    rw [sget_eq xs n]
    rfl
section
variable {K : PySem.W.Frag} {G : Pa} {δ δ' τ : List Sl} {t : Nat} {R : RX} {te : TE} {D : DEnds} {Rg : List Sl → Nat → Prop} {i : Nat} {p : Addr} {xs : List PyData} {d : PyData} {ch : Nat → Prop}
theorem se_dat (e : sget δ i = some (.dat d)) (q : R (.dat d) δ t) : Den K G (tVar i) δ τ t R := den_dat (by rw [← sget_eq]; exact e) q
theorem se_drw (e : sget δ i = some .drw) (q : R .drw δ t) : Den K G (tVar i) δ τ t R := den_drw (by rw [← sget_eq]; exact e) q
theorem se_raw {u : V} (e : sget δ i = some (.raw u)) (q : R (.raw u) δ t) : Den K G (tVar i) δ τ t R := den_raw (by rw [← sget_eq]; exact e) q
theorem se_own (e : sget δ i = some (.own p xs)) (n : δ.set i (.dat (.list xs)) = δ') (q : R (.dat (.list xs)) δ' t) : Den K G (tVar i) δ τ t R := den_own (by rw [← sget_eq]; exact e) (by rw [n]; exact q)
theorem se_datO (e : sget δ i = some (.dat d)) (q : R (.dat d) δ t) : Den K G (tOwn i) δ τ t R := se_dat e q
theorem se_lenO (e : sget δ i = some (.own p xs)) (q : R (.dat (.int xs.length)) δ t) : Den K G (tCB (Lw.rLen K) (tCons (tOwn i) tNil)) δ τ t R := den_lenO (by rw [← sget_eq]; exact e) q
theorem se_ixO (e : sget δ i = some (.own p xs)) (q : Den K G te δ τ t fun y δ1 t1 => ∃ (j : Int) (xs : List PyData) (d : PyData), y = .dat (.int j) ∧ sget δ1 i = some (.own p xs) ∧ atI xs j = some d ∧ R (.dat d) δ1 t1) : Den K G (tOp (rIxL K) (tOwn i) te) δ τ t R :=
  den_ixO (by rw [← sget_eq]; exact e) fun σ vs H Q R0 k => q σ vs H Q R0 fun v H' x δ' t' ⟨j, ys, d, e1, e2, e3, r⟩ R1 => k v H' x δ' t' ⟨j, ys, d, e1, by rw [← sget_eq]; exact e2, e3, r⟩ R1
theorem ss_app (e : sget δ i = some (.own p xs)) (q : Den K G te δ τ t fun y δ1 t1 => ∃ d xs, y.dv = some d ∧ sget δ1 i = some (.own p xs) ∧ xs.length ≤ 1000000 ∧ D.nx (δ1.set i (.own p (xs ++ [d]))) t1) :
    DS K G (tDrop (tBM K "list" rAppend (tOwn i) (tCons te tNil))) δ τ t D :=
  ds_app (by rw [← sget_eq]; exact e) fun σ vs H Q R0 k => q σ vs H Q R0 fun v H' x δ' t' ⟨d, ys, e1, e2, e3, r⟩ R1 => k v H' x δ' t' ⟨d, ys, e1, by rw [← sget_eq]; exact e2, e3, r⟩ R1
theorem ss_ext (e : sget δ i = some (.own p xs)) (q : Den K G te δ τ t fun y δ1 t1 => ∃ ds xs, y.dv = some (.list ds) ∧ sget δ1 i = some (.own p xs) ∧ xs.length + ds.length ≤ 1000000 ∧ D.nx (δ1.set i (.own p (xs ++ ds))) t1) :
    DS K G (tDrop (tBM K "list" rExtend (tOwn i) (tCons te tNil))) δ τ t D :=
  ds_ext (by rw [← sget_eq]; exact e) fun σ vs H Q R0 k => q σ vs H Q R0 fun v H' x δ' t' ⟨d, ys, e1, e2, e3, r⟩ R1 => k v H' x δ' t' ⟨d, ys, e1, by rw [← sget_eq]; exact e2, e3, r⟩ R1
theorem sg_sub {ti : TE} {x : Sl} (e : sget δ i = some (.own p xs)) (hx : x.dv = some d)
    (q : Den K G ti δ (x :: τ) t fun y δ1 t1 => ∃ (j : Int) (xs : List PyData) (n : Nat), y = .dat (.int j) ∧ sget δ1 i = some (.own p xs) ∧ ixN xs.length j = some n ∧ Rg (δ1.set i (.own p (xs.set n d))) t1) : DG K G (gSub (tOwn i) ti rSetL) ch x δ τ t Rg :=
  dg_sub (by rw [← sget_eq]; exact e) hx fun σ vs H Q R0 k => q σ vs H Q R0 fun v H' x δ' t' ⟨j, ys, n, e1, e2, e3, r⟩ R1 => k v H' x δ' t' ⟨j, ys, n, e1, by rw [← sget_eq]; exact e2, e3, r⟩ R1
theorem ss_augA {a : Int} (e : sget δ i = some (.dat (.int a))) (q : Den K G te δ τ t fun x δ1 t1 => ∃ b, x = .dat (.int b) ∧ D.nx (δ1.set i (.dat (.int (a + b)))) t1) : DS K G (tAug i te (ipI (· + ·))) δ τ t D := ds_augA (by rw [← sget_eq]; exact e) q
theorem sg_own (c : ch i) (n : δ.set i (.own p xs) = δ') (q : Rg δ' t) : DG K G (gOwn i) ch (.own p xs) δ τ t Rg := dg_own c (by rw [n]; exact q)
theorem sg_ownD (c : ch i) (n : δ.set i (.dat d) = δ') (q : Rg δ' t) : DG K G (gOwn i) ch (.dat d) δ τ t Rg := dg_ownD c (by rw [n]; exact q)
theorem sg_dat (c : ch i) (n : δ.set i (.dat d) = δ') (q : Rg δ' t) : DG K G (gName i) ch (.dat d) δ τ t Rg := dg_dat c (by rw [n]; exact q)
theorem sg_soft (c : ch i) (n : δ.set i (.dat (.list xs)) = δ') (q : Rg δ' t) : DG K G (gName i) ch (.own p xs) δ τ t Rg := dg_soft c (by rw [n]; exact q)
theorem sg_drw (c : ch i) (n : δ.set i .drw = δ') (q : Rg δ' t) : DG K G (gName i) ch .drw δ τ t Rg := dg_drw c (by rw [n]; exact q)
end
end Dl

set_option Elab.async false
set_option linter.all false
set_option maxRecDepth 100000
set_option maxHeartbeats 4000000
/-! defs with a parameter that is passed by name, and its default -/
namespace Dl
open PySem PySem.Spec PyProof.Rows L2 Glay Lw
/-- such a def of the top -/
structure Dk (K : PySem.W.Frag) (mg : Str → Option Value) (x : Str) (st : Stmt) (ps : List Str) (n : Nat) (ks : List Str) (dvs : List V) (f : Addr) (fd : FuncData) : Prop where
  fn : Fun K x x st f fd
  place : mg x = some (.ref f)
  ds : ∃ ds, Vals dvs ds ∧ Binds K fd ps ds
  kb : KBn K fd ps n ks (fun us ws => us ++ ws) (fun vs zs => vs ++ zs)
theorem vals_app : ∀ {vs zs : List V} {us ws : List Value}, Vals vs us → Vals zs ws → Vals (vs ++ zs) (us ++ ws) := fun r s => r.append s
section
variable {X : Cx} {k n : Nat} {f : Addr} {fd : FuncData} {ps ks : List Str} {sp : Sp} {x : Str} {p pos : Pos} {e : Expr} {es : List Expr} {kws : List Keyword} {t tk : TA} {st : Stmt} {dvs : List V}
theorem callGN (D : Dk X.K X.mg x st ps n ks dvs f fd) (F : GOk X.prog X.w X.K X.mg X.base k f fd ps sp) (hr : Room k X.A) (hq : X.A.guards = some []) (hg : Gl X x)
    (ha : PA X (e :: es) t) (hkw : PK X kws tk) (hall : (backToKw pos (keywordEach kws X.env)).all (·.1.isSome) = true := by rfl) (hks : (backToKw pos (keywordEach kws X.env)).filterMap (·.1) = ks := by rfl)
    (hdb : (x == ("__debug__" : Str)) = false := by decide) (he : starEach (e :: es) X.env = (false, eval e X.env) :: starEach es X.env := by rfl)
    (hpl : ((backTo pos (starEach (e :: es) X.env)).any (·.1) || (backToKw pos (keywordEach kws X.env)).any (·.1.isNone)) = false := by rfl) :
    PE X (.Call (.Name x p) (e :: es) kws pos) (tCallN n ks.length sp (fun vs zs => vs ++ zs) E0 t tk) := by
  refine ⟨fun pins s σ H Q I h => ?_⟩
  refine wpAny_Call_Name_kw (ld_glob I hg D.place ?_ hdb)
  refine PySem.W.callWith_KW (h₀ := X.base) I.ok.mod.kin D.fn.kp hall (thn (ha.run pos pins s σ H _ I h) fun us s1 ⟨vs, H1, I1, r, q⟩ => ?_) hpl he
  refine thn (hkw.run pos pins s1 σ H1 _ I1 q) fun ws s2 ⟨zs, H2, I2, rz, l1, l2, q2⟩ => ⟨I2.kIn, ?_⟩
  rw [hks]
  refine wpAny_call (codeAny_mono (F.goes hr hq I2.env0 (D.kb.to s2 us ws I2.kIn (r.length.symm.trans l1) (rz.length.symm.trans l2)) (D.kb.rel r rz) q2) ?_)
  intro fin s' hf
  match fin, hf with
  | .error _, hf => exact hf.elim
  | .ok (.ret u), hf => exact I2.after hf
theorem callGd (D : Dk X.K X.mg x st ps n ks dvs f fd) (F : GOk X.prog X.w X.K X.mg X.base k f fd ps sp) (hr : Room k X.A) (hq : X.A.guards = some []) (hg : Gl X x) (ha : PA X (e :: es) t)
    (hdb : (x == ("__debug__" : Str)) = false := by decide) (he : starEach (e :: es) X.env = (false, eval e X.env) :: starEach es X.env := by rfl) (hpl : (backTo pos (starEach es X.env)).any (·.1) = false := by rfl) :
    PE X (.Call (.Name x p) (e :: es) [] pos) (tCall sp dvs E0 t) := by
  obtain ⟨ds, hv, hb⟩ := D.ds
  exact pe_callG F hr hq hg D.place D.fn.kp hb hv ha hdb he hpl
end
section
variable {K : PySem.W.Frag} {G : Pa} {δ τ xs : List Sl} {t : Nat} {σ : L2.St} {us vs : List V} {H : Hp} {S : DSp} {ta tk : TA} {R : RX}
/-- what a call wants, from where one stands -/
theorem Rl.asks {T : List (Addr × Str)} (hT : ∀ m, m ∈ T → OneIn G m) (R2 : Rl K G δ (xs ++ τ) t σ (us ++ vs) H) (l : xs.length = us.length) (no : ∀ p, cnt p xs = 0) {C : Sl → Nat → Prop} {Q : VK} (h : S xs t C)
    (q : ∀ v H' x t', C x t' → Rl K G δ (x :: τ) t' σ (v :: vs) H' → Q v H') : spD K S T us H Q E0 := by
  have R3 := R2.drop l
  exact ⟨⟨G.dr, Pr G δ τ, H, G.tb⟩, xs, t, C, h, l, R2.into l no, ⟨no, hT⟩, fun v H' x t' c R' => q v H' x t' c (R3.back R')⟩
theorem den_callDT {T : List (Addr × Str)} {z : Str} (hT : ∀ m, m ∈ T → OneIn G m) (q : DenA K G ta δ τ t fun xs δ1 t1 => S (xs.map Sl.soft ++ [.dat (.str z)]) t1 fun x t' => R x δ1 t') : Den K G (tCall (spD K S T) [.str z] E0 ta) δ τ t R := fun σ vs H Q R0 k =>
  q σ vs H _ R0 fun us H1 xs δ1 t1 q1 l R1 => by
    have l' : (xs.map Sl.soft).length = us.length := by rw [List.length_map]; exact l
    have R2 := ((R1.softAll l).sc (.str z)).dn1 l'
    have R3 : Rl K G δ1 ((xs.map Sl.soft ++ [.dat (.str z)]) ++ τ) t1 σ ((us ++ [.str z]) ++ vs) H1 := by
      rw [List.append_assoc, List.append_assoc]
      exact R2
    exact R3.asks hT (by rw [List.length_append, List.length_append, l']; rfl) (fun p => by rw [cnt_append, cnt_soft]; rfl) q1 fun v H' x t' c R' => k v H' x δ1 t' c R'
theorem den_callNT {T : List (Addr × Str)} {n : Nat} {kn : Str} (hT : ∀ m, m ∈ T → OneIn G m) (q : DenA K G ta δ τ t fun xs δ1 t1 => DenA K G tk δ1 (xs ++ τ) t1 fun zs δ2 t2 => ∃ z, zs = [z] ∧ xs.length = n ∧ S (xs.map Sl.soft ++ [z.soft]) t2 fun x t' => R x δ2 t') :
    Den K G (tCallN n [kn].length (spD K S T) (fun vs zs => vs ++ zs) E0 ta tk) δ τ t R := fun σ vs H Q R0 k =>
  q σ vs H _ R0 fun us H1 xs δ1 t1 q1 l R1 => q1 σ (us ++ vs) H1 _ R1 fun ws H2 zs δ2 t2 ⟨z, ez, ln, q2⟩ l2 R2 => by
    subst ez
    obtain ⟨w, rfl⟩ := one_arg (xs := []) l2
    refine ⟨by rw [← l]; exact ln, rfl, ?_⟩
    have R3 : Rl K G δ2 (z.soft :: (xs ++ τ)) t2 σ (w :: (us ++ vs)) H2 := Rl.softTop R2
    have R4 : Rl K G δ2 (xs ++ z.soft :: τ) t2 σ (us ++ w :: vs) H2 := R3.dn1 l
    have R5 := R4.softAll l
    have l' : (xs.map Sl.soft).length = us.length := by rw [List.length_map]; exact l
    have R6 : Rl K G δ2 ((xs.map Sl.soft ++ [z.soft]) ++ τ) t2 σ ((us ++ [w]) ++ vs) H2 := by
      rw [List.append_assoc, List.append_assoc]
      exact R5
    exact R6.asks hT (by rw [List.length_append, List.length_append, l']; rfl) (fun p => by rw [cnt_append, cnt_soft]; show 0 + (z.soft.has p + 0) = 0; rw [soft_has]) q2 fun v H' x t' c R' => k v H' x δ2 t' c R'
theorem den_callD {z : Str} (q : DenA K G ta δ τ t fun xs δ1 t1 => S (xs.map Sl.soft ++ [.dat (.str z)]) t1 fun x t' => R x δ1 t') : Den K G (tCall (spD K S) [.str z] E0 ta) δ τ t R := den_callDT (fun _ h => nomatch h) q
theorem den_callN {n : Nat} {kn : Str} (q : DenA K G ta δ τ t fun xs δ1 t1 => DenA K G tk δ1 (xs ++ τ) t1 fun zs δ2 t2 => ∃ z, zs = [z] ∧ xs.length = n ∧ S (xs.map Sl.soft ++ [z.soft]) t2 fun x t' => R x δ2 t') :
    Den K G (tCallN n [kn].length (spD K S) (fun vs zs => vs ++ zs) E0 ta tk) δ τ t R := den_callNT (fun _ h => nomatch h) q
theorem ex_z {P : Sl → Prop} {z : Sl} (q : P z) : ∃ z', [z] = [z'] ∧ P z' := ⟨z, rfl, q⟩
end
theorem ite_cut {K : PySem.W.Frag} {G : Pa} {δ τ : List Sl} {t : Nat} {R : RX} {ta tb : TE} {c : Prop} [Decidable c] {x0 : Sl} (h1 : c → Den K G ta δ τ t fun x δ1 t1 => x = x0 ∧ δ1 = δ ∧ t1 = t) (h2 : ¬ c → Den K G tb δ τ t fun x δ1 t1 => x = x0 ∧ δ1 = δ ∧ t1 = t) (q : R x0 δ t) :
    if decide c = true then Den K G ta δ τ t R else Den K G tb δ τ t R := by
  have go : ∀ {te : TE}, Den K G te δ τ t (fun x δ1 t1 => x = x0 ∧ δ1 = δ ∧ t1 = t) → Den K G te δ τ t R := fun h σ vs H Q R0 k => h σ vs H Q R0 fun v H' x δ' t' ⟨a, b, c⟩ R1 => k v H' x δ' t' (by rw [a, b, c]; exact q) R1
  exact rd_dec (fun z => go (h1 z)) fun z => go (h2 z)
/-- a def with one parameter that is passed by name -/
theorem dk_mk {K : PySem.W.Frag} {mg : Str → Option Value} {x : Str} {st : Stmt} {ps : List Str} {kn z : Str} {f D0 : Addr} {oc : Value} {od an : Option Addr} {osl : Array (Option Value)} {doc pm cdv ct : Value} {tk : Tok}
    (l : K.lookup f = some ⟨oc, od, .func (PySem.W.fnOf x x (defArgs st) (defBody st) (defScope st) .none (.ref D0) doc pm an cdv ct), osl⟩) (c : PySem.W.codeIn K cdv x = true) (k : PySem.W.keepIn K (.ref f) = true) (place : mg x = some (.ref f))
    (kd : PySem.W.nsIn K D0 kn = some (some (.str z tk))) (n : Nat) (hn : n + 1 = ps.length)
    (h1 : ∀ (D : Addr) (doc pm : Value) (an : Option Addr) (cdv ct : Value) (us ks : List Value), us.length = n → ks.length = 1 → KwChain D ([kn].zip ks) (bindArgs (PySem.W.fnOf x x (defArgs st) (defBody st) (defScope st) .none (.ref D) doc pm an cdv ct) ⟨us, []⟩) (ps.zip (us ++ ks)))
    (h2 : ∀ (D : Addr) (doc pm : Value) (an : Option Addr) (cdv ct : Value) (us ws : List Value), us.length = n → ws.length = 1 → bindArgs (PySem.W.fnOf x x (defArgs st) (defBody st) (defScope st) .none (.ref D) doc pm an cdv ct) ⟨us, [kn].zip ws⟩ = pure (ps.zip (us ++ ws))) :
    Dk K mg x st ps n [kn] [.str z] f (PySem.W.fnOf x x (defArgs st) (defBody st) (defScope st) .none (.ref D0) doc pm an cdv ct) := by
  have FD : FunD K x x (defArgs st) (defBody st) (defScope st) [] [(kn, .str z)] f (PySem.W.fnOf x x (defArgs st) (defBody st) (defScope st) .none (.ref D0) doc pm an cdv ct) :=
    ⟨⟨oc, od, .none, .ref D0, doc, pm, an, cdv, ct, osl, rfl, l, c, .inl ⟨rfl, rfl⟩, .inr ⟨D0, rfl, fun q hq => by
      rw [List.mem_singleton.mp hq]
      exact ⟨_, kd, tk, rfl⟩⟩⟩, k⟩
  exact ⟨fun_mk l c k, place, FD.binds0 n (by simp) hn h1, ⟨fun s us ws _ a b => .of_eq (h2 D0 doc pm an cdv ct us ws a b), fun r s => r.append s⟩⟩
end Dl

set_option Elab.async false
set_option linter.all false
set_option maxRecDepth 100000
set_option maxHeartbeats 4000000
/-! ranges walked from the end; a list of one's own as the first of a pair; ints -/
namespace Dl
open PySem PySem.Spec PyProof.Rows L2 Glay Lw
section
variable {K : PySem.W.Frag} {G : Pa} {δ τ : List Sl} {t : Nat} {ta tb : TE} {D : DEnds} {Ri : List PyData → List Sl → Nat → Prop}
theorem di_rev2 (q : Den K G ta δ τ t fun x δ1 t1 => Den K G tb δ1 (x :: τ) t1 fun y δ2 t2 => ∃ i j : Int, x = .dat (.int i) ∧ y = .dat (.int j) ∧ (-(2 ^ 62) ≤ i ∧ i < 2 ^ 62 ∧ -(2 ^ 62) ≤ j ∧ j < 2 ^ 62) ∧ Ri (rngC (i + (((j - i).toNat : Nat) : Int) - 1) (-1) (j - i).toNat) δ2 t2) : DI K G (iRevR (tRg2 ta tb)) δ τ t Ri := fun σ vs H Q R0 k =>
  q σ vs H _ R0 fun u H1 x δ1 t1 q1 R1 => q1 σ (u :: vs) H1 _ R1 fun v H2 y δ2 t2 ⟨i, j, ex, ey, h, q2⟩ R2 => by
    subst ex
    subst ey
    have a := RV.int R2.head
    have b := RV.int R2.h2
    subst a
    subst b
    exact ⟨i, j, rfl, rfl, h.1, h.2.1, h.2.2.1, h.2.2.2, k _ _ _ _ _ _ _ q2 src_rngC R2.pop.pop⟩
def tParP (i j : Nat) (tr : TA) : TS := tPar i j tr
theorem asP1 {X : Cx} {st : Stmt} {i j : Nat} {tr : TA} (h : PS X st (tPar i j tr)) : PS X st (tParP i j tr) := h
theorem ds_parP {i j : Nat} {tr : TA} (q : DenA K G tr δ τ t fun xs δ1 t1 => ∃ p ys y, xs = [.own p ys, y] ∧ D.nx ((δ1.set i (.own p ys)).set j y.soft) t1) : DS K G (tParP i j tr) δ τ t D := fun σ vs H E R0 k1 _ _ _ =>
  q σ vs H _ R0 fun us H1 xs δ1 t1 ⟨p, ys, y, e, q1⟩ l R1 => by
    subst e
    match us, l with
    | [u, v], l =>
      have R2 : Rl K G (δ1.set i (.own p ys)) (y :: τ) t1 (σ.set i (some u)) (v :: vs) H1 := Rl.put i R1
      exact ⟨u, v, rfl, k1 _ _ _ _ q1 (Rl.put j R2.softTop)⟩
end
theorem atI_int {l : List Int} {j : Int} {a : Int} (h0 : 0 ≤ j) (h : l[j.toNat]? = some a) : atI (l.map PyData.int) j = some (.int a) := by
  have lt := (List.getElem?_eq_some_iff.mp h).1
  unfold atI
  rw [List.length_map, ix_in h0 (by omega)]
  show (l.map PyData.int)[j.toNat]? = _
  rw [List.getElem?_map, h]
  rfl
theorem ixN_int {l : List Int} {j : Int} (h0 : 0 ≤ j) (h : j.toNat < l.length) : ixN (l.map PyData.int).length j = some j.toNat := by
  rw [List.length_map]
  exact ix_in h0 (by omega)
end Dl

set_option Elab.async false
set_option linter.all false
set_option maxRecDepth 100000
set_option maxHeartbeats 4000000
/-! comprehensions of draws; tuples of ints -/
namespace Dl
open PySem PySem.Spec PyProof.Rows L2 Glay Lw
theorem sw_cell {elt : Expr} {gs : List Comprehension} {scope : Scope} {pos py : Pos} {y : Str} {l : Nat} {env : Env} (hy : env.scope.names.lookup y = some .cell) :
    swapsWith (.ListComp elt gs scope pos) (some (.Name y py)) l env = pure false := by
  have ky : env.kindOf y = some .cell := hy
  have e : (some NameKind.cell == some NameKind.local) = false := by decide
  unfold swapsWith
  simp only [ky, e, Bool.and_false, Bool.false_and]
section
variable {K : PySem.W.Frag} {G : Pa} {δ τ : List Sl} {t : Nat} {R : RX} {te : TE} {wi : TI} {g : TG} {tt : TT} {own : List Nat}
theorem den_lcP (P : PyData → Prop) (c : Nat) (q : DI K G wi δ τ t fun L δ1 t1 => L.length ≤ 1000000 ∧
      (∀ d, d ∈ L → ∀ τ2 t2, t2 + c ≤ t1 + c * L.length → DG K G g (fun i => i ∈ own) (.dat d) (wipeD δ1 own) τ2 t2 fun δ3 t3 => Den K G te δ3 τ2 t3 fun y δ5 t5 => ∃ e, y.dv = some e ∧ P e ∧ wipeD δ5 own = wipeD δ1 own ∧ t5 ≤ t2 + c) ∧
      ∀ acc t2, acc.length = L.length → (∀ e, e ∈ acc → P e) → t2 ≤ t1 + c * L.length → ∀ p, R (.own p acc) (wipeD δ1 own) t2) :
    Den K G (tLc wi g tYes te own) δ τ t R := by
  refine den_lc fun σ vs H Q R0 k => q σ vs H Q R0 fun J H' L pin pv δ1 t1 ⟨few, turn, done⟩ S R1 => k J H' L pin pv δ1 t1 ⟨fun i acc t2 => i ≤ L.length ∧ acc.length = i ∧ (∀ e, e ∈ acc → P e) ∧ t2 ≤ t1 + c * i, few, ⟨Nat.zero_le _, rfl, fun e he => absurd he (by simp), Nat.le_refl _⟩, fun i d acc t2 hd h τ2 => ?_, fun acc t2 h _ p => ?_⟩ S R1
  · obtain ⟨_, rfl, hP, ht⟩ := h
    have lt := (List.getElem?_eq_some_iff.mp hd).1
    have m1 : c * (acc.length + 1) ≤ c * L.length := Nat.mul_le_mul_left c lt
    have m2 : c * (acc.length + 1) = c * acc.length + c := Nat.mul_succ ..
    have := turn d (List.mem_of_getElem? hd) τ2 t2 (by omega)
    refine fun σ' vs' H2 v Q2 R2 k2 => this σ' vs' H2 v Q2 R2 fun σ3 H3 δ3 t3 q3 R3 w3 => k2 σ3 H3 δ3 t3 (dent_yes ?_) R3 w3
    rw [if_pos rfl]
    refine fun σ4 vs4 H4 Q4 R4 k4 => q3 σ4 vs4 H4 Q4 R4 fun v5 H5 y δ5 t5 ⟨e, e1, e2, e3, e4⟩ R5 => k4 v5 H5 y δ5 t5 ⟨e, e1, e3, by omega, ?_, ?_, by omega⟩ R5
    · rw [List.length_append]
      rfl
    · intro e' he'
      rcases List.mem_append.mp he' with z | z
      · exact hP _ z
      · rw [List.mem_singleton.mp z]
        exact e2
  · obtain ⟨_, hl, hP, ht⟩ := h
    exact done acc t2 hl hP ht p
theorem ints_all {p : Int → Prop} : ∀ acc : List PyData, (∀ e, e ∈ acc → ∃ i, e = .int i ∧ p i) → ∃ l : List Int, acc = l.map PyData.int ∧ ∀ a, a ∈ l → p a
  | [], _ => ⟨[], rfl, fun a h => absurd h (by simp)⟩
  | e :: r, h => by
    obtain ⟨i, rfl, hi⟩ := h e (by simp)
    obtain ⟨l, rfl, hl⟩ := ints_all r fun e he => h e (by simp [he])
    exact ⟨i :: l, rfl, fun a ha => by
      rcases List.mem_cons.mp ha with z | z
      · rw [z]
        exact hi
      · exact hl a z⟩
/-- integers, drawn or not -/
theorem den_lcI (P : Int → Prop) (c : Nat) (q : DI K G wi δ τ t fun L δ1 t1 => L.length ≤ 1000000 ∧
      (∀ d, d ∈ L → ∀ τ2 t2, t2 + c ≤ t1 + c * L.length → DG K G g (fun i => i ∈ own) (.dat d) (wipeD δ1 own) τ2 t2 fun δ3 t3 => Den K G te δ3 τ2 t3 fun y δ5 t5 => ∃ i, y.dv = some (.int i) ∧ P i ∧ wipeD δ5 own = wipeD δ1 own ∧ t5 ≤ t2 + c) ∧
      ∀ (l : List Int) t2, l.length = L.length → (∀ a, a ∈ l → P a) → t2 ≤ t1 + c * L.length → ∀ p, R (.own p (l.map PyData.int)) (wipeD δ1 own) t2) :
    Den K G (tLc wi g tYes te own) δ τ t R := by
  refine den_lcP (fun e => ∃ i, e = .int i ∧ P i) c fun σ vs H Q R0 k => q σ vs H Q R0 fun J H' L pin pv δ1 t1 ⟨few, turn, done⟩ S R1 => k J H' L pin pv δ1 t1 ⟨few, fun d hd τ2 t2 ht => ?_, fun acc t2 hl hP ht p => ?_⟩ S R1
  · have := turn d hd τ2 t2 ht
    refine fun σ' vs' H2 v Q2 R2 k2 => this σ' vs' H2 v Q2 R2 fun σ3 H3 δ3 t3 q3 R3 w3 => k2 σ3 H3 δ3 t3 ?_ R3 w3
    exact fun σ4 vs4 H4 Q4 R4 k4 => q3 σ4 vs4 H4 Q4 R4 fun v5 H5 y δ5 t5 ⟨i, e1, e2, e3, e4⟩ R5 => k4 v5 H5 y δ5 t5 ⟨_, e1, ⟨i, rfl, e2⟩, e3, e4⟩ R5
  · obtain ⟨l, rfl, hb⟩ := ints_all acc hP
    rw [List.length_map] at hl
    exact done l t2 hl hb ht p
end
theorem shaped_intsT (ns : List Int) : SeqAt.shaped (.tuple (ns.map PyData.int)) = true := by
  have h : PyData.canLayAll0 (ns.map PyData.int) = true ∧ PyData.depthAll (ns.map PyData.int) = 0 := by
    induction ns with
    | nil => exact ⟨rfl, rfl⟩
    | cons n ns ih => exact ⟨by simp only [List.map_cons, PyData.canLayAll0, PyData.canLay0, ih.1, Bool.and_self], by simp only [List.map_cons, PyData.depthAll, PyData.depth, ih.2, Nat.max_self]⟩
  unfold SeqAt.shaped
  simp only [PyData.canLay0, PyData.depth, h.1, h.2]
  decide
theorem lay_intsT (ns : List Int) : (PyData.tuple (ns.map PyData.int)).canLay0 = true := by
  have := shaped_intsT ns
  unfold SeqAt.shaped at this
  simp only [Bool.and_eq_true] at this
  exact this.1
/-- an item of a list at a drawn place -/
theorem at_drawn {P : PyData → Prop} {ds : List PyData} {j : Int} (h0 : 0 ≤ j) (h1 : j < ds.length) (h : ∀ d, d ∈ ds → P d) : ∃ d, atI ds j = some d ∧ P d := by
  have lt : j.toNat < ds.length := by omega
  refine ⟨ds[j.toNat], ?_, h _ (List.getElem_mem lt)⟩
  unfold atI
  rw [ix_in h0 h1]
  exact List.getElem?_eq_getElem lt
end Dl

set_option Elab.async false
set_option linter.all false
set_option maxRecDepth 100000
set_option maxHeartbeats 4000000
/-! lists unpacked; draws without a question; numbers under a bound -/
namespace Dl
open PySem PySem.Spec PyProof.Rows L2 Glay Lw
theorem pgl_k {X : Cx} {K : PySem.W.Frag} {es : List Expr} {k : Nat} {t : TGs} {n : Nat} {pos : Pos} (e : X.K = K) (hc : X.calm = true) (h : PGs X es t)
    (hn : (assignEach es X.env).length = n := by rfl) (hst : (assignEach es X.env).findIdx? (·.1) = none := by rfl) : PG X (.Tuple es k pos) (gUnl K n t) := by subst e; exact pg_unl hc h hn hst
theorem pe_globI {X : Cx} {x : Str} {n : Int} {pos : Pos} (h : ∃ t, X.mg x = some (.int n t)) (hg : Gl X x) (hd : (x == ("__debug__" : Str)) = false := by decide) : PE X (.Name x pos) (tC (.int n)) := by
  obtain ⟨t, h⟩ := h
  exact pe_glob hg h ⟨t, rfl⟩ hd
theorem pe_globS {X : Cx} {x z : Str} {pos : Pos} (h : ∃ t, X.mg x = some (.str z t)) (hg : Gl X x) (hd : (x == ("__debug__" : Str)) = false := by decide) : PE X (.Name x pos) (tC (.str z)) := by
  obtain ⟨t, h⟩ := h
  exact pe_glob hg h ⟨t, rfl⟩ hd
section
variable {K : PySem.W.Frag} {G : Pa} {δ τ : List Sl} {t : Nat} {Rg : List Sl → Nat → Prop}
theorem dg_unl {n : Nat} {gs : TGs} {ch : Nat → Prop} {x : Sl} {ds : List PyData} (hx : x.dv = some (.list ds)) (e : ds.length = n) (q : DGs K G gs ch (ds.map Sl.dat) δ τ t Rg) : DG K G (gUnl K n gs) ch x δ τ t Rg := fun σ vs H v Q R0 k => by
  obtain ⟨p, us, rfl, hp, hq⟩ := R0.head.items hx
  refine ⟨p, us, rfl, SqL.of hp, by rw [hq.len]; exact e, ?_⟩
  exact q σ vs H us Q (by rw [List.length_map, hq.len]) (R0.pop.spread (hq.mono weak _)) k
end
section
variable {K : PySem.W.Frag} {G : Pa} {δ τ : List Sl} {t : Nat} {D : DEnds}
theorem ds_par3 {i j l : Nat} {tr : TA} (q : DenA K G tr δ τ t fun xs δ1 t1 => ∃ x y z, xs = [x, y, z] ∧ D.nx (((δ1.set i x.soft).set j y.soft).set l z.soft) t1) : DS K G (tPar3 i j l tr) δ τ t D := fun σ vs H E R0 k1 _ _ _ =>
  q σ vs H _ R0 fun us H1 xs δ1 t1 ⟨x, y, z, e, q1⟩ l1 R1 => by
    subst e
    match us, l1 with
    | [u, v, w], l1 =>
      have R2 := R1.softAll l1
      exact ⟨u, v, w, rfl, k1 _ _ _ _ q1 (Rl.put l (Rl.put j (Rl.put i R2)))⟩
end
theorem ex_xyz {P : Sl → Sl → Sl → Prop} {x y z : Sl} (q : P x y z) : ∃ x' y' z', [x, y, z] = [x', y', z'] ∧ P x' y' z' := ⟨x, y, z, rfl, q⟩
theorem bdn {i : Int} (B : Nat) (h0 : -(2 ^ B) < i) (h1 : i < 2 ^ B) : Bd B i := by
  unfold Bd
  have e : ((2 ^ B : Nat) : Int) = 2 ^ B := by rw [Int.natCast_pow]; rfl
  have : (i.natAbs : Int) < ((2 ^ B : Nat) : Int) := by rw [e]; omega
  exact Int.ofNat_lt.mp this
theorem mulB {A B : Nat} {i j : Int} (h : Bd A i) (h' : Bd B j) (a : 0 < A := by decide) (b : 0 < B := by decide) (l : A + B ≤ 1000000 := by decide) : CMulW i j := Bd.mulOk h h' ⟨a, b, l⟩
theorem divB {B : Nat} {i j : Int} (h0 : 0 < j) (h1 : Bd B j) (l : B ≤ 1900 := by decide) : CDivW i j := divOk h0 (h1.mono l)
end Dl

set_option Elab.async false
set_option linter.all false
set_option maxRecDepth 100000
set_option maxHeartbeats 4000000
/-! tuples added and cut, whatever they are; what is walked from its end; displays with stars; dicts; texts repeated -/
namespace Dl
open PySem PySem.Spec PyProof.Rows L2 Glay Lw
section
variable {X : Cx} {K : PySem.W.Frag}
theorem catA_k (e : X.K = K) : OpR X (binaryOp .Add) (rCatA K) := by subst e; exact op_catA
theorem slA_k (e : X.K = K) : SlR X (rSlA K) := by subst e; exact sl_tupA
theorem revA_k {tg e : Expr} {te : TE} {p pos : Pos} (e0 : X.K = K) (hg : Gl X "reversed") (hm : X.mg "reversed" = none) (he : PE X e te) (hs : starEach [e] X.env = (false, eval e X.env) :: starEach [] X.env := by rfl) : PI X tg (.Call (.Name "reversed" p) [e] [] pos) (RT.iRevA K te) := by
  subst e0
  exact RT.pi_revA hg hm he hs
theorem star_k {e : Expr} {es : List Expr} {te : TE} {t : TA} {p : Pos} (e0 : X.K = K) (he : PE X e te) (hr : PA X es t) (hs : starEach (.Starred e p :: es) X.env = (true, eval e X.env) :: starEach es X.env := by rfl) : PA X (.Starred e p :: es) (StX.tStar K te t) := by
  subst e0
  exact StX.pa_star he hr hs
theorem fold_size (a : Array Nat) : ∀ (n : Nat) (acc : Array Nat), ((List.replicate n a).foldl (· ++ ·) acc).size = acc.size + n * a.size
  | 0, acc => by simp
  | n + 1, acc => by
    rw [List.replicate_succ, List.foldl_cons, fold_size a n, Array.size_append, Nat.add_mul, Nat.one_mul]
    omega
/-- a text so many times -/
def rMulS : R2 := fun x y H Q => ∃ (z : Str) (n : Int), x = .str z ∧ y = .int n ∧ (2 ≤ n ∧ n ≤ 1000 ∧ 0 < z.length ∧ z.length ≤ 1000) ∧ Q (.str ⟨(List.replicate n.toNat z.cps).foldl (· ++ ·) #[]⟩) H
theorem op_mulS : OpR X (binaryOp .Mult) rMulS := by
  intro pins s σ H x y v u Q I rx ry h
  obtain ⟨z, n, rfl, rfl, ⟨h1, h2, h3, h4⟩, q⟩ := h
  obtain ⟨t, rfl⟩ := rx
  obtain ⟨t', rfl⟩ := ry
  have c1 : ¬ n < 1 := by omega
  have c2 : ¬ (n == 1 || z.length == 0) = true := by
    simp only [Bool.or_eq_true, beq_iff_eq]
    omega
  have long : Builtin.Str.tooLong (z.length * n.toNat) = false := by
    have a : z.length * n.toNat ≤ 1000 * 1000 := Nat.mul_le_mul h4 (by omega)
    unfold Builtin.Str.tooLong
    rw [decide_eq_false_iff_not]
    have b : 1000000 ≤ sizeLine := by rw [sizeLine_eq]; decide
    omega
  refine PySem.P.mul_str ?_ (fun _ _ => ?_) (fun _ _ => long) ?_
  · have e1 : ¬ n < -(2 ^ 63 : Int) := by omega
    have e2 : ¬ n ≥ 2 ^ 63 := by omega
    rw [decide_eq_false e1, decide_eq_false e2]
    rfl
  · have : (1000 : Int) ≤ (2 ^ 63 - 1) / n := (Int.le_ediv_iff_mul_le (by omega)).mpr (by omega)
    omega
  · rw [if_neg c1, if_neg c2]
    refine ⟨?_, .str _, H, I.tok _, ⟨_, rfl⟩, q⟩
    show ((List.replicate n.toNat z.cps).foldl (· ++ ·) #[]).size ≤ sizeLine
    rw [fold_size]
    have a : n.toNat * z.cps.size ≤ 1000 * 1000 := Nat.mul_le_mul (by omega) h4
    rw [sizeLine_eq]
    show 0 + _ ≤ _
    omega
end
section
variable {K : PySem.W.Frag} {G : Pa} {δ τ : List Sl} {t : Nat} {R : RX} {te ta : TE}
theorem dop_catA {ds es : List PyData} (l : ds.length + es.length ≤ 1000000) (q : R (.dat (.tuple (ds ++ es))) δ t) : Dop K G (rCatA K) (.dat (.tuple ds)) (.dat (.tuple es)) δ τ t R := fun σ vs H u v Q R0 k => by
  obtain ⟨a, us, rfl, ha, qa⟩ := R0.h2.itemsT
  obtain ⟨b, ws, rfl, hb, qb⟩ := R0.head.itemsT
  have e := qa.len
  have e2 := qb.len
  refine ⟨a, b, us, ws, rfl, rfl, ha, hb, by rw [e, e2, sizeLine_eq]; omega, fun z => ?_, fun _ z => ?_, fun _ _ p n => k _ _ _ _ _ q (R0.pop.pop.tup n ((qa.append qb).mono weak2 _))⟩
  · rw [z] at e
    have e3 : ds = [] := List.eq_nil_of_length_eq_zero e.symm
    subst e3
    exact k _ _ _ _ _ q (R0.pop.pop.dat (Dq.mono weak2 _ R0.head))
  · rw [z] at e2
    have e3 : es = [] := List.eq_nil_of_length_eq_zero e2.symm
    subst e3
    rw [List.append_nil] at q
    exact k _ _ _ _ _ q (R0.pop.pop.dat (Dq.mono weak2 _ R0.h2))
theorem dsl_A {ds : List PyData} {lo hi : Option Int} (q : R (.dat (.tuple (cutD ds lo hi))) δ t) : Dsl K G (rSlA K) (.dat (.tuple ds)) lo hi δ τ t R := fun σ vs H u Q R0 k => by
  obtain ⟨p, ws, rfl, hp, hq⟩ := RV.itemsT R0.head
  refine ⟨p, ws, rfl, hp, fun z => ?_, fun _ a n => k _ _ _ _ _ q (R0.pop.tup n ((cut_ok hq lo hi).mono weak _))⟩
  rw [hq.len] at z
  have e : cutD ds lo hi = ds := by
    unfold cutD
    rw [z.1, z.2]
    simp
  rw [e] at q
  exact k _ _ _ _ _ q R0
theorem src_rev {a : Addr} {L : List PyData} : Src K G (L2.Itv K a L.length) [.dat (.list L)] [.ref a] L.reverse := by
  refine ⟨rfl, fun _ => rfl, fun i H δ τ τ0 t σ vs vs0 l0 R0 => ?_⟩
  obtain ⟨p, ws, ea, hw, hq⟩ := RV.items (R0.nth (pin := []) (pv := []) l0) rfl
  cases ea
  rw [List.length_reverse]
  refine ⟨fun hi => ⟨⟨hi, ?_⟩, fun x H' d hd hy => ?_⟩, fun hi => Nat.le_of_eq hi.symm⟩
  · obtain ⟨v, hv, _⟩ := hq.get (List.getElem?_eq_getElem (show L.length - 1 - i < L.length by omega))
    exact ⟨ws, v, SqL.of hw, hv⟩
  · obtain ⟨rfl, hx⟩ := hy
    rw [List.getElem?_reverse hi] at hd
    obtain ⟨v, hv, qv⟩ := hq.get hd
    have := hx ws (SqL.of hw)
    rw [hv] at this
    cases this
    exact R0.dat qv
theorem src_revT {a : Addr} {L : List PyData} : Src K G (RT.ItvT K a L.length) [.dat (.tuple L)] [.ref a] L.reverse := by
  refine ⟨rfl, fun _ => rfl, fun i H δ τ τ0 t σ vs vs0 l0 R0 => ?_⟩
  obtain ⟨p, ws, ea, hw, hq⟩ := RV.itemsT (R0.nth (pin := []) (pv := []) l0)
  cases ea
  rw [List.length_reverse]
  refine ⟨fun hi => ⟨⟨hi, ?_⟩, fun x H' d hd hy => ?_⟩, fun hi => Nat.le_of_eq hi.symm⟩
  · obtain ⟨v, hv, _⟩ := hq.get (List.getElem?_eq_getElem (show L.length - 1 - i < L.length by omega))
    exact ⟨ws, v, hw, hv⟩
  · obtain ⟨rfl, hx⟩ := hy
    rw [List.getElem?_reverse hi] at hd
    obtain ⟨v, hv, qv⟩ := hq.get hd
    have := hx ws hw
    rw [hv] at this
    cases this
    exact R0.dat qv
variable {Ri : List PyData → List Sl → Nat → Prop}
theorem di_revL (q : Den K G te δ τ t fun x δ1 t1 => ∃ L, x.dv = some (.list L) ∧ Ri L.reverse δ1 t1) : DI K G (RT.iRevA K te) δ τ t Ri := fun σ vs H Q R0 k =>
  q σ vs H _ R0 fun v H1 x δ1 t1 ⟨L, e, q1⟩ R1 => by
    have R2 := R1.softTop
    rw [soft_dv e] at R2
    obtain ⟨p, us, rfl, hp, hq⟩ := RV.items R2.head rfl
    refine ⟨p, us, rfl, .inl ⟨SqL.of hp, ?_⟩⟩
    rw [hq.len]
    exact k _ _ _ _ _ _ _ q1 src_rev R2
theorem di_revT (q : Den K G te δ τ t fun x δ1 t1 => ∃ L, x = .dat (.tuple L) ∧ Ri L.reverse δ1 t1) : DI K G (RT.iRevA K te) δ τ t Ri := fun σ vs H Q R0 k =>
  q σ vs H _ R0 fun v H1 x δ1 t1 ⟨L, e, q1⟩ R1 => by
    subst e
    obtain ⟨p, us, rfl, hp, hq⟩ := RV.itemsT R1.head
    refine ⟨p, us, rfl, .inr ⟨hp, ?_⟩⟩
    rw [hq.len]
    exact k _ _ _ _ _ _ _ q1 src_revT R1
theorem Rl.swap2 {xs ys : List Sl} {σ : L2.St} {us ws vs : List V} {H : Hp} (R0 : Rl K G δ (xs ++ (ys ++ τ)) t σ (us ++ (ws ++ vs)) H) (l1 : xs.length = us.length) (l2 : ys.length = ws.length) : Rl K G δ ((ys ++ xs) ++ τ) t σ ((ws ++ us) ++ vs) H :=
  R0.less (fun p => by simp only [cnt_append]; omega) (fun m => sl_to m R0.sl) fun m => by
    obtain ⟨a, b⟩ := psplitL l1 (tm_to m R0.tm)
    obtain ⟨c, d⟩ := psplitL l2 b
    exact papp (papp c a) d
/-- a star in a display, in a call -/
theorem dena_star {Ra : List Sl → List Sl → Nat → Prop} {tr : TA} (q : Den K G te δ τ t fun x δ1 t1 => ∃ ds, (x.dv = some (.list ds) ∨ x = .dat (.tuple ds)) ∧ DenA K G tr δ1 (ds.map Sl.dat ++ τ) t1 fun xs δ2 t2 => Ra (ds.map Sl.dat ++ xs) δ2 t2) :
    DenA K G (StX.tStar K te tr) δ τ t Ra := fun σ vs H Q R0 k =>
  q σ vs H _ R0 fun u H1 x δ1 t1 ⟨ds, e, q1⟩ R1 => by
    have main : ∀ (us : List V), DqAll K (hid (Pr G δ1 (x :: τ)) H1) us ds → tr σ H1 fun ys H2 => Q (us ++ ys) H2 := fun us hq => by
      have R2 : Rl K G δ1 (ds.map Sl.dat ++ τ) t1 σ (us ++ vs) H1 := R1.pop.spread (hq.mono weak _)
      have l2 : (ds.map Sl.dat).length = us.length := by rw [List.length_map, hq.len]
      refine q1 σ (us ++ vs) H1 _ R2 fun ws H2 xs δ2 t2 q2 l R3 => ?_
      exact k _ _ _ _ _ q2 (by rw [List.length_append, List.length_append, l2, l]) (R3.swap2 l l2)
    rcases e with e | rfl
    · obtain ⟨p, us, rfl, hp, hq⟩ := R1.head.items e
      exact ⟨p, us, rfl, .inr (SqL.of hp), main us hq⟩
    · obtain ⟨p, us, rfl, hp, hq⟩ := RV.itemsT R1.head
      exact ⟨p, us, rfl, .inl hp, main us hq⟩
theorem dop_mulS {z : Str} {n : Int} (h : 2 ≤ n ∧ n ≤ 1000 ∧ 0 < z.length ∧ z.length ≤ 1000) (q : R (.dat (.str ⟨(List.replicate n.toNat z.cps).foldl (· ++ ·) #[]⟩)) δ t) : Dop K G rMulS (.dat (.str z)) (.dat (.int n)) δ τ t R := fun σ vs H u v Q R0 k =>
  ⟨z, n, R0.h2.str, R0.head.int, h, k _ _ _ _ _ q (R0.pop.pop.sc (.str _))⟩
theorem den_bits (q : Den K G ta δ τ t fun x δ1 t1 => ∃ i : Int, x = .dat (.int i) ∧ R (.dat (.int (Builtin.Int.intBits i : Nat))) δ1 t1) : Den K G (tBits ta) δ τ t R := fun σ vs H Q R0 k =>
  q σ vs H _ R0 fun u H1 x δ1 t1 ⟨i, e, q1⟩ R1 => by
    subst e
    exact ⟨i, RV.int R1.head, k _ _ _ _ _ q1 (R1.pop.sc (.int _))⟩
theorem Rl.dct {p : Addr} {σ : L2.St} {vs : List V} {H H' : Hp} {kvs : List (L2.Key × V)} {ps : List (PyData × PyData)} (z : ∀ H, DqKv K H kvs ps) (R0 : Rl K G δ τ t σ vs H) (n : H p = none) (s : Same H H') (h : H' p = some (.dK kvs)) : Rl K G δ (.dat (.dict ps) :: τ) t σ (.ref p :: vs) H' := by
  refine (R0.grow s).dat (.dct (kvs := kvs) ?_ (z _))
  rw [hid_off (R0.newAt n).1]
  exact h
theorem den_dnew (q : R (.dat (.dict [])) δ t) : Den K G tDNewK δ τ t R := fun σ vs H Q R0 k => fun p n => k _ _ _ _ _ q (Rl.dct (fun _ => .nil) R0 n (same_upd n) upd_same)
theorem den_disp1 {z : Str} {i : Int} (q : R (.dat (.dict [(.str z, .int i)])) δ t) : Den K G (tDisp [(tC (.str z), tC (.int i))]) δ τ t R := fun σ vs H Q R0 k => fun p n => by
  refine ⟨upd_same, [(.inr z, .int i)], rfl, by simp, k _ _ _ _ _ q (Rl.dct (fun _ => .str (.int i) .nil) R0 n (fun b o e => ?_) upd_same)⟩
  have ne := ne_of_none e n
  rw [upd_ne ne, upd_ne ne]
  exact e
end
section
variable {X : Cx} {k : Nat} {f : Addr} {fd : FuncData} {ps : List Str} {sp : Sp} {x : Str} {p pos : Pos} {st : Stmt}
theorem callG0 (D : Df X.K X.mg x st [] f fd) (F : GOk X.prog X.w X.K X.mg X.base k f fd [] sp) (hr : Room k X.A) (hq : X.A.guards = some []) (hg : Gl X x) (hdb : (x == ("__debug__" : Str)) = false := by decide) :
    PE X (.Call (.Name x p) [] [] pos) (tCall sp [] E0 tNil) := by
  refine ⟨fun pins s σ H Q I h => ?_⟩
  refine wpAny_Call_Name_kw (ld_glob I hg D.place ?_ hdb)
  refine PySem.W.callWith_K0 I.kIn D.fn.kp ?_
  refine wpAny_call (codeAny_mono (F.goes hr hq I.env0 (D.bs s [] I.kIn rfl) .nil h) ?_)
  intro fin s' hf
  match fin, hf with
  | .error _, hf => exact hf.elim
  | .ok (.ret u), hf => exact I.after hf
end
end Dl

set_option Elab.async false
set_option linter.all false
set_option maxRecDepth 100000
set_option maxHeartbeats 4000000
/-! t[::-1] -/
namespace Dl
open PySem PySem.Spec PyProof.Rows L2 Glay Lw HT
theorem pick_rev (xs : Array Value) : ((List.range xs.size).filterMap fun (k : Nat) => xs[((xs.size : Int) - 1 + (k : Int) * -1).toNat]?).toArray = xs.toList.reverse.toArray := by
  congr 1
  have go : ∀ (l : List Nat), (∀ k, k ∈ l → k < xs.size) → (l.filterMap fun (k : Nat) => xs[((xs.size : Int) - 1 + (k : Int) * -1).toNat]?) = l.filterMap fun k => xs.toList.reverse[k]? := fun l => by
    induction l with
    | nil => intro _; rfl
    | cons k l ih =>
      intro h
      have hk := h k (by simp)
      have e : xs[((xs.size : Int) - 1 + (k : Int) * -1).toNat]? = xs.toList.reverse[k]? := by
        rw [List.getElem?_reverse (by rw [Array.length_toList]; exact hk), Array.length_toList, Array.getElem?_toList]
        congr 1
        omega
      rw [List.filterMap_cons, List.filterMap_cons, e, ih fun j hj => h j (by simp [hj])]
  rw [go _ fun k hk => List.mem_range.mp hk]
  have all : ∀ (l : List Value), (List.range l.length).filterMap (fun k => l[k]?) = l := fun l => by
    induction l with
    | nil => rfl
    | cons a l ih =>
      rw [List.length_cons, List.range_succ_eq_map, List.filterMap_cons]
      simp only [List.getElem?_cons_zero, List.filterMap_map]
      congr 1
  have := all xs.toList.reverse
  rwa [List.length_reverse, Array.length_toList] at this
section
variable {prog : Program} {w : World} {A : Around} {E : Value → Shared → Prop} {s : Shared}
theorem sliceApplied_rev {sl : Addr} {n : Nat} {tk : Tok} {vl vu : Value} {Q : Int × Int × Nat → Shared → Prop} (hs : s.heap.IsSliceOf sl vl vu (.int (-1) tk)) (pl : IsPart vl none) (pu : IsPart vu none) (h : Q ((n : Int) - 1, -1, n) s) :
    wpAny (model prog w) A (Builtin.Slice.sliceApplied (.ref sl) (pure (n : Int))) Q E s := by
  obtain ⟨os, hos, hcs, hds⟩ := id hs
  unfold Builtin.Slice.sliceApplied Builtin.Slice.sliceFields
  refine wpAny_bind (wpAny_bind (wpAny_field hos hds (x := vl) rfl (wpAny_bind (wpAny_field hos hds (x := vu) rfl (wpAny_bind (wpAny_field hos hds (x := .int (-1) tk) rfl (wpAny_pure ?_)))))))
  refine wpAny_bind (slicePart_ (.int (-1) tk) ?_)
  show wpAny _ _ (if ((-1 : Int) == 0) = true then _ else _) _ _ s
  rw [if_neg (by decide)]
  refine wpAny_bind (slicePart_ pl (wpAny_bind (slicePart_ pu (wpAny_bind (wpAny_pure ?_)))))
  show wpAny _ _ (pure ((n : Int) - 1, (-1 : Int), Builtin.Slice.slicePlaces ((n : Int) - 1) (-1) (-1))) _ _ s
  have e : Builtin.Slice.slicePlaces ((n : Int) - 1) (-1) (-1) = n := by
    unfold Builtin.Slice.slicePlaces
    rw [if_neg (by decide)]
    by_cases z : n = 0
    · subst z
      rfl
    · rw [if_pos (by omega)]
      have : ((n : Int) - 1 - -1 - 1) / - -1 + 1 = n := by
        rw [Int.neg_neg, Int.ediv_one]
        omega
      rw [this, Int.toNat_natCast]
  rw [e]
  exact wpAny_pure h
theorem getItem_tuple_rev {t sl : Addr} {items : Array Value} {vl vu : Value} {tk : Tok} {Q : Value → Shared → Prop} (ht : IsTup s.heap t items) (hs : s.heap.IsSliceOf sl vl vu (.int (-1) tk)) (pl : IsPart vl none) (pu : IsPart vu none)
    (h : Q (.ref s.heap.objs.size) { s with heap := s.heap.push { cls := .type "tuple", data := .seq items.toList.reverse.toArray } })
    (hsz : items.size ≤ sizeLine) : wpAny (model prog w) A (getItem (.ref t) (.ref sl)) Q E s := by
  have htake : sizeOk (.seq items.toList.reverse.toArray) := by
    show items.toList.reverse.toArray.size ≤ sizeLine
    rw [List.size_toArray, List.length_reverse, Array.length_toList]
    exact hsz
  obtain ⟨os, hos, hcs, hds⟩ := id hs
  have hTs : s.TypeIs (.ref sl) "slice" := ⟨os, hos, hcs⟩
  unfold getItem
  try with_reducible refine wpAny_holding ?_
  first | refine wpAny_bind (wpAny_pure ?_) | skip
  refine wpAny_bind (wpAny_sequenceKey ht.typeIs (by decide) ?_)
  refine wpAny_bind (wpAny_callSpecial?_slot (name := Str.ofString "__getitem__") ht.typeIs PyProof.Rows.slot_tuple_getitem
    (wpAny_call_entry PyProof.Rows.slot_tuple_getitem ht.typeIs entry_tuple_getitem ?_ (args_tuple_getitem _ _)))
  show wpAny _ _ (Builtin.Tuple.tupleItemsOf (.ref t) >>= _) _ _ s
  refine wpAny_bind (tupleItemsOf_ ht ?_)
  refine wpAny_bind (wpAny_typeOf hTs ?_)
  rw [if_pos (by decide)]
  refine wpAny_bind (sliceApplied_rev hs pl pu ?_)
  have hno : ¬ ((((items.size : Int) - 1 == 0) && (-1 : Int) == 1 && items.size == items.size) = true) := by
    intro q
    rw [Bool.and_eq_true, Bool.and_eq_true] at q
    exact absurd q.1.2 (by decide)
  show wpAny _ _ (if (((items.size : Int) - 1 == 0) && (-1 : Int) == 1 && items.size == items.size) = true then _ else _) _ _ s
  rw [if_neg hno, pick_rev]
  first
    | exact wpAny_bind (m := Builtin.Tuple.tupleExact _) (wpAny_newObj_type (wpAny_pure ⟨_, rfl, wpAny_pure h⟩) htake)
    | exact wpAny_bind (m := Builtin.Tuple.tupleExact _) (wpAny_newObj_type (wpAny_bind (wpAny_pure (wpAny_pure ⟨_, rfl, wpAny_pure h⟩))) htake)
    | exact wpAny_bind (wpAny_bind (m := Builtin.Tuple.tupleExact _) (wpAny_newObj_type (wpAny_pure (wpAny_pure ⟨_, rfl, wpAny_pure h⟩)) htake))
    | exact wpAny_bind (wpAny_bind (m := Builtin.Tuple.tupleExact _) (wpAny_newObj_type (wpAny_pure ⟨_, rfl, wpAny_pure h⟩) htake))
end
def tRevT (K : PySem.W.Frag) (te : TE) : TE := fun σ H Q => te σ H fun x H1 => ∃ a xs, x = .ref a ∧ SqT K H1 a xs ∧ ∀ p, H1 p = none → Q (.ref p) (upd H1 p (.tup xs.reverse))
theorem pe_revT {X : Cx} {K : PySem.W.Frag} {e : Expr} {te : TE} {k : Nat} {p1 p2 p3 pos : Pos} (eK : X.K = K) (he : PE X e te) : PE X (.Subscript e (.Slice none none (some (.UnaryOp .USub (.Constant (.int 1) k p1) p2)) p3) pos) (tRevT K te) := by
  subst eK
  refine ⟨fun pins s σ H Q I h => ?_⟩
  refine Subscript_ (thn (he.run pins s σ H _ I h) fun v s1 ⟨x, H1, I1, r1, q1⟩ => ?_)
  obtain ⟨a, xs, ex, hx, q⟩ := q1
  subst ex
  cases r1
  have hst : PO X (some (.UnaryOp .USub (.Constant (.int 1) k p1) p2)) (tPart (tUn (rU fun i => .int (-i)) (tC (.int 1)))) := po_some (pe_un un_neg pe_int)
  refine wpAny_Slice (thn (po_none.run pins s1 σ H1 (fun o H2 => o = none ∧ H2 = H1) I1 ⟨rfl, rfl⟩) fun vl s2 ⟨l, H2, I2, pl, el, e2⟩ => ?_)
  subst el e2
  refine thn (po_none.run pins s2 σ H2 (fun o H3 => o = none ∧ H3 = H2) I2 ⟨rfl, rfl⟩) fun vu s3 ⟨u, H3, I3, pu, eu, e3⟩ => ?_
  subst eu e3
  refine thn (hst.run pins s3 σ H3 (fun o H4 => o = some (-1) ∧ H4 = H3) I3 ⟨1, rfl, -1, rfl, rfl, rfl⟩) fun vs s4 ⟨o, H4, I4, ps, eo, e4⟩ => ?_
  subst eo e4
  have I5 : Inv X pins σ H4 { s4 with heap := s4.heap.push { cls := .type "slice", data := .fields #[vl, vu, vs] } } := I4.kept (t' := s4.toks) fun b ob q => Heap.get?_push_of_some _ q
  obtain ⟨its, r, ht, hz⟩ := I5.tuple hx
  have hlen := r.length
  cases ps with
  | int _ tk =>
    show wpAny (model X.prog X.w) X.A (subscriptTail e (.Slice none none (some (.UnaryOp .USub (.Constant (.int 1) k p1) p2)) p3) (.ref a) (.ref s4.heap.objs.size)) (EP X pins σ Q) X.xe { s4 with heap := s4.heap.push { cls := .type "slice", data := .fields #[vl, vu, .int (-1) tk] } }
    refine tail_any (ops := [.ref a, .ref s4.heap.objs.size]) ht.typeIs (PyProof.Rows.slot_tuple_getitem.lookup) ?_ (by with_unfolding_all rfl)
    refine getItem_tuple_rev ht (Heap.IsSliceOf.new _ vl vu _) pl pu ?_ (by rw [List.size_toArray]; omega)
    refine ⟨.ref _, _, I5.laid (t' := s4.toks) (o := .tup xs.reverse) (fun b ob q => Heap.get?_push_of_some _ q) (Nat.le_refl _) ?_, rfl, q _ (I5.hok.fresh (Nat.le_refl _))⟩
    exact ⟨by rw [List.length_reverse]; exact hz, _, r.reverse, IsTup.new _ _⟩
section
variable {K : PySem.W.Frag} {G : Pa} {δ τ : List Sl} {t : Nat} {R : RX} {te : TE}
theorem DqAll.reverse {H : Hp} : ∀ {us : List V} {ds : List PyData}, DqAll K H us ds → DqAll K H us.reverse ds.reverse
  | _, _, .nil => .nil
  | _, _, .cons h t => by
    rw [List.reverse_cons, List.reverse_cons]
    exact t.reverse.append (.cons h .nil)
theorem den_revT (q : Den K G te δ τ t fun x δ1 t1 => ∃ ds, x = .dat (.tuple ds) ∧ R (.dat (.tuple ds.reverse)) δ1 t1) : Den K G (tRevT K te) δ τ t R := fun σ vs H Q R0 k =>
  q σ vs H _ R0 fun u H1 x δ1 t1 ⟨ds, e, q1⟩ R1 => by
    subst e
    obtain ⟨p, us, rfl, hp, hq⟩ := RV.itemsT R1.head
    exact ⟨p, us, rfl, hp, fun a n => k _ _ _ _ _ q1 (R1.pop.tup n (hq.reverse.mono weak _))⟩
end
end Dl

set_option Elab.async false
set_option linter.all false
set_option maxRecDepth 100000
set_option maxHeartbeats 4000000
/-! a function made on the spot and handed to a def -/
namespace Dl
open PySem PySem.Spec PyProof.Rows L2 Glay Lw LamX NdefX

/-- the name that such a function bears -/
abbrev lamName (X : Cx) : Str := X.env.qual ++ "<lambda>"
section
variable {X : Cx} {pins : List (Addr × Obj)} {σ : L2.St} {H : Hp} {s : Shared}
/-- it is made: only the table of its maker's code changes -/
theorem made_one {c P : Addr} {ar : Arguments} {bd : Expr} {sc : Scope} {pos : Pos} {E : Value → Shared → Prop} {Q : Value → Shared → Prop} (I : Inv X pins σ H s) (TB : TabB X.base X.mg c P) (here : X.env.code = .ref c) (hT : TabS H P (lamName X))
    (plain : defaultsOf ar X.env = ([], [])) (has : ∀ y ∈ sc.names, y.2 = .free → ∃ c, X.env.cells.lookup y.1 = some c)
    (k : ∀ (f c' : Addr) (pm ctv : Value) (H1 : Hp) (s' : Shared), Inv X pins σ H1 s' → (∀ b o, b ≠ P → H b = some o → H1 b = some o) → TabS H1 P (lamName X) →
      s'.heap.get? f = some (PySem.W.kla_obj "<lambda>" (lamName X) ar bd sc (cloFrom X.env.cells sc.names []) pm c' ctv) → H1 f = none → f ∉ frs X.stack → H1 c' = some (CodeO c' (lamName X)) → Q (.ref f) s') :
    wpAny (model X.prog X.w) X.A (eval (.Lambda ar bd sc pos) X.env) Q E s := by
  obtain ⟨ps, hP, ht, ha⟩ := hT
  have away : ∀ f, s.heap.objs.size ≤ f → f ∉ frs X.stack := by
    intro f hf z
    cases List.mem_cons.mp (I.stkSub _ z) with
    | inl e =>
      subst e
      exact absurd (Nat.lt_of_lt_of_le I.lt hf) (Nat.lt_irrefl _)
    | inr e => exact I.nofs hf e
  have tabAt : s.heap.get? P = some { cls := .none, data := .fields ps } := I.hok P _ hP
  refine PySem.W.kla_eval plain ?_
  cases hc : codeAmong pos ps.toList with
  | some cv =>
    obtain ⟨c', rfl, hco⟩ := ha pos cv hc
    refine PySem.W.kla_makeFunctionHit (mg := X.mg) (c := c) (P := P) (ps := ps) (closure_ok has) I.ok.glob (I.mod.glob.keeps I.bk) here (TB.code.keeps I.bk) tabAt ht hc (TB.bm.keeps I.bk) ?_
    intro ctv h' tk kept size
    refine k h'.objs.size c' ((X.mg "__name__").getD .none) ctv H _ (I.kept fun b o e => Heap.get?_push_of_some _ (kept b o e)) (fun b o _ e => e) ⟨ps, hP, ht, ha⟩ (Heap.get?_push_size _ rfl) (I.hok.fresh size) (away _ size) hco
  | none =>
    refine PySem.W.kla_makeFunction (mg := X.mg) (c := c) (P := P) (ps := ps) (closure_ok has) I.ok.glob (I.mod.glob.keeps I.bk) here (TB.code.keeps I.bk) tabAt ht hc TB.gP (TB.bm.keeps I.bk) ?_
    intro c' ctv h' tk kept late short record table
    obtain ⟨c2, oc, vs, t, e2, hoc, hd, hv⟩ := record
    cases e2
    have size := Nat.le_trans late (Nat.le_of_lt short)
    have newC : H c' = none := I.hok.fresh late
    have I1 := inv_table (t' := tk) (more := #[rawInt pos.line, rawInt pos.col, .ref c']) (h' := h'.push (PySem.W.kla_obj "<lambda>" (lamName X) ar bd sc (cloFrom X.env.cells sc.names []) ((X.mg "__name__").getD .none) c' ctv)) (q := lamName X) I hP
      (fun b o hb e => Heap.get?_push_of_some _ (kept b o hb e)) (Heap.get?_push_of_some _ table) late ⟨oc, vs, t, Heap.get?_push_of_some _ hoc, hd, hv⟩
    have old : ∀ b o, b ≠ P → H b = some o → upd (upd H P (.tbl (ps ++ #[rawInt pos.line, rawInt pos.col, .ref c']))) c' (CodeO c' (lamName X)) b = some o := fun b o n e => by
      rw [upd_ne (ne_of_none e newC), upd_ne n]
      exact e
    have isP : upd (upd H P (.tbl (ps ++ #[rawInt pos.line, rawInt pos.col, .ref c']))) c' (CodeO c' (lamName X)) P = some (.tbl (ps ++ #[rawInt pos.line, rawInt pos.col, .ref c'])) := by
      rw [upd_ne (ne_of_none hP newC), upd_same]
    have asList : (ps ++ #[rawInt pos.line, rawInt pos.col, .ref c']).toList = ps.toList ++ [rawInt pos.line, rawInt pos.col, .ref c'] := by simp
    have nF1 : h'.objs.size ≠ c' := Nat.ne_of_gt short
    have nF2 : h'.objs.size ≠ P := Nat.ne_of_gt (Nat.lt_of_lt_of_le (Heap.lt_size tabAt) size)
    refine k h'.objs.size c' ((X.mg "__name__").getD .none) ctv _ _ I1 old ⟨_, isP, ?_, ?_⟩ (Heap.get?_push_size _ rfl) ?_ (away _ size) upd_same
    · rw [asList]
      exact PySem.TriplesOk_snoc _ _ _ _ ht
    · intro p' cv hcv
      rw [asList] at hcv
      cases among_app _ ht hcv with
      | inl z =>
        obtain ⟨c0, e1, e2⟩ := ha p' cv z
        refine ⟨c0, e1, old _ _ (fun y => ?_) e2⟩
        rw [y, hP] at e2
        have e3 := Option.some.inj e2
        exact codeO_ne ps e3.symm
      | inr z => exact ⟨c', z, upd_same⟩
    · rw [upd_ne nF1, upd_ne nF2]
      exact I.hok.fresh size
end
/-- the words of a function that bears no name -/
abbrev lamF (X : Cx) (sc : Scope) (ar : Arguments) (c' : Addr) : NF := ⟨"<lambda>", lamName X, ar, [], sc, cloFrom X.env.cells sc.names [], c'⟩
/-- where its body stands -/
abbrev lamZ (X : Cx) (sc : Scope) (ar : Arguments) (Nl : List Str) (f c' : Addr) (A : Around) (outer : List Env) (s : Shared) (H : Hp) : Cx := (ncx CX0 X.prog X.w X.K X.mg X.base Nl (lamF X sc ar c') f A outer s H E0).nox
/-- where the body of the def stands that it is handed to -/
abbrev hofZ (X : Cx) (x : Str) (sg : Scope) (Ng : List Str) (g : Addr) (cdg : Value) (s : Shared) (H : Hp) : Cx := (cxOf CX0 X.prog X.w X.K X.mg X.base Ng x sg g cdg X.A X.stack s H E0).nox
/-- such a function called by its parameter's name -/
def tAct (f c' : Addr) (q : Str) (i : Nat) (tl : TE) (Nl : List Str) (ws : List (Option V)) (ta : TA) : TE := fun σ H Q =>
  σ[i]? = some (some (.ref f)) ∧ ta σ H fun vs H1 => H1 c' = some (CodeO c' q) ∧ ∃ v, vs = [v] ∧ tl (startF Nl [v] ws) H1 Q
/-- x(lambda .., es) -/
def tHof (P : Addr) (q : Str) (n : Nat) (ta : TA) (Ng : List Str) (js : List Nat) (tB : Addr → Addr → List (Option V) → TS) : TE := fun σ H Q =>
  TabS H P q ∧ ∀ (f c' : Addr) (H1 : Hp), (∀ b o, b ≠ P → H b = some o → H1 b = some o) → TabS H1 P q → H1 c' = some (CodeO c' q) →
    ta σ H1 fun vs H2 => vs.length = n ∧ H2 c' = some (CodeO c' q) ∧ tB f c' (js.map (slotAt σ)) { nx := fun _ H' => Q .non H', rt := Q } (L2.start Ng (.ref f :: vs)) H2
section
variable {X : Cx} {k i : Nat} {x a : Str} {sg sc : Scope} {Ng Nl ps fr : List Str} {js : List Nat} {g f c' : Addr} {cdg pm ctv : Value} {ar : Arguments} {bd : Expr} {tl : TE} {ta : TA} {p1 p2 : Pos} {e : Expr} {pins : List (Addr × Obj)} {σ : L2.St} {H : Hp} {s : Shared}
theorem pe_act (I : Inv X pins σ H s) (S : NScope Nl ps fr sc) (cp : X.Ok → Caps X (cloFrom X.env.cells sc.names []) fr js) (one : ps.length = 1)
    (hf : s.heap.get? f = some (PySem.W.kla_obj "<lambda>" (lamName X) ar bd sc (cloFrom X.env.cells sc.names []) pm c' ctv)) (hfn : H f = none) (hfr : f ∉ frs X.stack)
    (hb : ∀ u : Value, bindArgs (PySem.W.kla_fn "<lambda>" (lamName X) ar bd sc (cloFrom X.env.cells sc.names []) pm (.ref c') ctv) ⟨[u], []⟩ = pure (ps.zip [u]))
    (hr : Room (k + 1) (hofZ X x sg Ng g cdg s H).A) (run : ∀ (A : Around) (outer : List Env) (s : Shared) (H : Hp), Room k (A.deeper (envF (lamF X sc ar c') f s.heap.objs.size)) → A.guards = some [] → PE (lamZ X sc ar Nl f c' A outer s H) bd tl)
    (hq : (hofZ X x sg Ng g cdg s H).A.guards = some [])
    (ha : PA (hofZ X x sg Ng g cdg s H) [e] ta) (hN : Ng[i]? = some a) (hv : Vis sg a) (hd : (a == ("__debug__" : Str)) = false := by decide) (hcd : (a == ("__classdict__" : Str)) = false := by decide)
    (he : starEach [e] (hofZ X x sg Ng g cdg s H).env = (false, eval e (hofZ X x sg Ng g cdg s H).env) :: starEach [] (hofZ X x sg Ng g cdg s H).env := by rfl) (hpl : (backTo p2 (starEach [] (hofZ X x sg Ng g cdg s H).env)).any (·.1) = false := by rfl) :
    PE (hofZ X x sg Ng g cdg s H) (.Call (.Name a p1) [e] [] p2) (tAct f c' (lamName X) i tl Nl (js.map (slotAt σ)) ta) := by
  refine ⟨fun pinsZ sZ σZ HZ Q IZ h => ?_⟩
  obtain ⟨hs, ht⟩ := h
  refine wpAny_Call_Name_kw (thn ((pe_var (pos := p1) (i := i) hN hv hd hcd).run pinsZ sZ σZ HZ (fun v H1 => v = .ref f ∧ H1 = HZ) IZ ⟨.ref f, hs, rfl, rfl⟩) ?_)
  rintro u s1 ⟨v, H1, I1, r1, rfl, rfl⟩
  obtain rfl : u = Value.ref f := r1
  have at1 : ∀ {s2 : Shared} {σ2 : L2.St} {H2 : Hp} {pz : List (Addr × Obj)}, Inv (hofZ X x sg Ng g cdg s H) pz σ2 H2 s2 → s2.heap.get? f = some (PySem.W.kla_obj "<lambda>" (lamName X) ar bd sc (cloFrom X.env.cells sc.names []) pm c' ctv) :=
    fun J => J.base.keep f _ hf hfn hfr fun z => nomatch (show f ∈ ([] : List Addr) from z)
  refine PySem.W.callWith_F (first := []) ⟨_, _, _, _, at1 I1⟩ (thn (ha.run p2 pinsZ s1 σZ _ _ I1 ht) ?_) he hpl
  rintro us s2 ⟨vs, H2, I2, r2, hc, w, rfl, hl⟩
  refine ⟨⟨_, _, _, _, at1 I2⟩, ?_⟩
  show wpAny _ _ (call (.ref f) us) _ _ _
  have un : Un (frs X.stack) [] H H2 s.heap s2.heap := I2.base
  have C0 := cells_of I (cp I.ok)
  have same : ∀ {c : Addr} {v : Option Value}, H c = none → s.heap.IsCell c v → s2.heap.IsCell c v := fun {c v} n ⟨o, ho, hd⟩ => by
    obtain ⟨sl, q⟩ := un.any ho n (by simp)
    exact ⟨_, q, hd⟩
  have C : CellsAt (cloFrom X.env.cells sc.names []) fr (js.map (slotAt σ)) s2.heap H2 := by
    refine ⟨C0.len, fun y c e => ?_, C0.inj, fun j y e => ?_⟩
    · obtain ⟨n, v, z⟩ := C0.all y c e
      refine ⟨?_, v, same n z⟩
      obtain ⟨o, ho, _⟩ := z
      exact un.free c o ho n (by simp)
    · obtain ⟨c, h1, h2⟩ := C0.has j y e
      refine ⟨c, h1, fun v hv => ?_⟩
      obtain ⟨u, r, z⟩ := h2 v hv
      exact ⟨u, r, same (C0.all y c h1).1 z⟩
  obtain ⟨u, rfl, ru⟩ := vals1 r2
  obtain ⟨⟨oc, vs, t, hoc, hdc, hvc⟩, _, _⟩ := I2.hok c' _ hc
  have e0 := I2.env0
  have goes : codeAny (model X.prog X.w) (hofZ X x sg Ng g cdg s H).A (.call (.ref f) ⟨[u], []⟩) (CR CX0 (hofZ X x sg Ng g cdg s H).stack X.prog X.w H2 s2 Q E0) s2 := by
    refine PySem.W.kla_callFunE hr.depth (at1 I2) rfl S.co S.gen rfl ⟨c', oc, vs, t, rfl, hoc, hdc, hvc⟩ ?_
    rw [hb u]
    refine wpAny_pure (wpAny_newFunctionEnv S.nocell (fun ⟨n, _⟩ hy => S.par n (List.of_mem_zip hy).1) (fun h₁ hns hsb => ⟨I2.nolimit.fresh _ hsb, ?_⟩) S.kind)
    have kp : ∀ b o, s2.heap.get? b = some o → h₁.get? b = some o := fun b o e => hsb.extBut b o (Nat.ne_of_lt (Heap.lt_size e)) (Heap.get?_push_of_some _ e)
    have J := inv_startN (CX := CX0) (E := E0) (f := f) (F := lamF X sc ar c') (us := [u]) (vs := [w]) (ws := js.map (slotAt σ)) (tk := s2.toks + (ps.zip [u]).length) S hr.hd e0 one.symm (.cons ru .nil) C hns kp
    refine PySem.W.kla_codeExpr (wpAny_mono ((run _ _ s2 H2 (hr.deeper _) hq).run [] _ _ H2 Q (J.wish _) hl) ?_ fun _ _ z => z.elim)
    rintro v s' ⟨w', H', J', rv, q⟩
    exact ⟨w', H', J'.os, J'.bare, J'.base, J'.hok, rv, q⟩
  refine wpAny_call (codeAny_mono goes ?_)
  intro fin s' hf
  match fin, hf with
  | .error _, hf => exact hf.elim
  | .ok (.ret u), hf => exact I2.after hf
end
section
variable {X : Cx} {k : Nat} {x a : Str} {sc : Scope} {Ng Nl ps fr as : List Str} {js : List Nat} {g c P : Addr} {st : Stmt} {fd : FuncData} {ar : Arguments} {bd : Expr} {tl : TE} {ta : TA} {p lpos pos : Pos} {es : List Expr} {tB : Addr → Addr → List (Option V) → TS}
theorem pe_hof (D : Df X.K X.mg x st (a :: as) g fd) (Sg : FnScope Ng (a :: as) (defScope st)) (hr : Room (k + 2) X.A) (hq : X.A.guards = some []) (hg : Gl X x) (TB : TabB X.base X.mg c P) (here : X.env.code = .ref c) (plain : defaultsOf ar X.env = ([], []))
    (ok : ndefB X.env.scope sc fr = true) (S : NScope Nl ps fr sc) (one : ps.length = 1) (hjs : js.map (fun j => X.N[j]?) = fr.map some)
    (hb : ∀ (q : Str) (cl : List (Str × Addr)) (pm cv ctv u : Value), bindArgs (PySem.W.kla_fn "<lambda>" q ar bd sc cl pm cv ctv) ⟨[u], []⟩ = pure (ps.zip [u]))
    (run : ∀ (f c' : Addr) (A : Around) (outer : List Env) (s : Shared) (H : Hp), Room k (A.deeper (envF (lamF X sc ar c') f s.heap.objs.size)) → A.guards = some [] → PE (lamZ X sc ar Nl f c' A outer s H) bd tl) (ha : PA X es ta)
    (body : ∀ (cdg : Value) (f c' : Addr) (ws : List (Option V)) (s : Shared) (H : Hp), Room (k + 1) (hofZ X x (defScope st) Ng g cdg s H).A → (hofZ X x (defScope st) Ng g cdg s H).A.guards = some [] →
      (∀ (e : Expr) (ta : TA) (p1 p2 : Pos), PA (hofZ X x (defScope st) Ng g cdg s H) [e] ta → starEach [e] (hofZ X x (defScope st) Ng g cdg s H).env = (false, eval e (hofZ X x (defScope st) Ng g cdg s H).env) :: starEach [] (hofZ X x (defScope st) Ng g cdg s H).env →
        PE (hofZ X x (defScope st) Ng g cdg s H) (.Call (.Name a p1) [e] [] p2) (tAct f c' (lamName X) 0 tl Nl ws ta)) →
      PSs (hofZ X x (defScope st) Ng g cdg s H) (defBody st) (tB f c' ws))
    (hN : Ng[0]? = some a) (hv : Vis (defScope st) a) (hdb : (x == ("__debug__" : Str)) = false := by decide) (hd : (a == ("__debug__" : Str)) = false := by decide) (hcd : (a == ("__classdict__" : Str)) = false := by decide)
    (hpl : (backTo pos (starEach es X.env)).any (·.1) = false := by rfl) :
    PE X (.Call (.Name x p) (.Lambda ar bd sc lpos :: es) [] pos) (tHof P (lamName X) as.length ta Ng js tB) := by
  refine ⟨fun pins s σ H Q I h => ?_⟩
  obtain ⟨hT, h⟩ := h
  obtain ⟨oc, od, kV, doc, pm0, an, cdv, ct, osl, rfl, look, isCode⟩ := D.fn.ex
  refine wpAny_Call_Name_kw (ld_glob I hg D.place ?_ hdb)
  refine PySem.W.callWith_K (h₀ := X.base) I.ok.mod.kin D.fn.kp ?_ (by rfl) hpl
  show wpAny _ _ (spliced ((false, eval (.Lambda ar bd sc lpos) X.env) :: backTo pos (starEach es X.env))) _ _ s
  have free := ndef_free ok
  refine Calls.spliced_cons (made_one I TB here hT plain (fun y hy e => (free y hy e).elim (fun z => I.ok.has _ (.inl z)) fun z => I.ok.has _ (.inr z)) fun f c' pm ctv H1 s1 I1 old T1 hf hfn hfr hco => ?_)
  have hfs : f ∉ X.fs := fun z => hfr (by
    rcases I.ok.stk with e | ⟨e, _⟩
    · rw [e]
      exact z
    · rw [e]
      exact (List.mem_filterMap.mpr (by
        obtain ⟨en, h1, h2⟩ := List.mem_filterMap.mp z
        exact ⟨en, List.mem_cons_of_mem _ h1, h2⟩)))
  have hfl : f ≠ X.env.locals := fun z => by
    obtain ⟨m, ⟨o', es', ep, ho', hd', _⟩, _⟩ := I1.loc
    rw [z, ho'] at hf
    cases Option.some.inj hf
    cases hd'
  have Ip : Inv X (pins ++ [(f, PySem.W.kla_obj "<lambda>" (lamName X) ar bd sc (cloFrom X.env.cells sc.names []) pm c' ctv)]) σ H1 s1 := I1.pins_of fun q hq' => by
    rcases List.mem_append.mp hq' with z | z
    · exact I1.pin q (List.mem_append_right _ z)
    · obtain rfl := List.mem_singleton.mp z
      exact ⟨hf, hfn, hfl, hfs, fun v z => by cases z⟩
  refine thn (ha.run pos _ s1 σ H1 _ Ip (h f c' H1 old T1 hco)) ?_
  rintro us s2 ⟨vs, H2, I2, r2, many, hc2, hB⟩
  refine ⟨I2.kIn, ?_⟩
  have pin := I2.pin (f, _) (List.mem_append_right _ (List.mem_append_right _ (List.mem_singleton.mpr rfl)))
  have I3 : Inv X pins σ H2 s2 := I2.pins_of fun q hq' => I2.pin q (List.mem_append_right _ (List.mem_append_left _ hq'))
  have l2 : us.length = as.length := r2.length.symm.trans many
  have goes : codeAny (model X.prog X.w) X.A (.call (.ref g) ⟨.ref f :: us, []⟩) (CR CX0 X.stack X.prog X.w H2 s2 Q E0) s2 := by
    refine run_ofS (N := Ng) (ps := a :: as) (us := .ref f :: us) (vs := .ref f :: vs) look isCode Sg hr I3.env0 ?_ (.cons rfl r2) ?_ fun hr' => ?_
    · have := D.bs s2 (.ref f :: us) I3.kIn
      rw [List.append_nil] at this
      exact this (by rw [List.length_cons, l2]; rfl)
    · rw [List.length_cons, many]
      rfl
    · refine ⟨_, (body cdv f c' (js.map (slotAt σ)) s2 H2 hr' hq fun e ta' p1 p2 ha' he' => ?_).nox, hB⟩
      exact pe_act (k := k) (i := 0) I3 S (fun okx => Caps.made okx free (ndef_fr ok) hjs) one pin.1 pin.2.1 hfr (fun u => hb _ _ _ _ _ u) hr' (fun A outer s H => run f c' A outer s H) hq ha' hN hv hd hcd he' (by rfl)
  refine wpAny_call (codeAny_mono goes ?_)
  intro fin s' hf
  match fin, hf with
  | .error _, hf => exact hf.elim
  | .ok (.ret u), hf => exact I3.after hf
end
/-! ### told by data -/
/-- the value of data that lies in no heap -/
def cV : PyData → V
  | .int i => .int i
  | .str x => .str x
  | .bool b => .bl b
  | _ => .non
def isC : PyData → Bool
  | .int _ => true
  | .str _ => true
  | .bool _ => true
  | .none => true
  | _ => false
theorem cnt_cds (p : Addr) : ∀ cs : List PyData, cnt p (cs.map Sl.dat) = 0
  | [] => rfl
  | _ :: cs => by
    have := cnt_cds p cs
    show 0 + _ = 0
    omega
theorem Dq.isC {K : PySem.W.Frag} {H : Hp} {d : PyData} (h : isC d = true) : Dq K H (cV d) d := by
  cases d with
  | int i => exact .int i
  | str x => exact .str x
  | bool b => exact .bl b
  | none => exact .non
  | _ => cases h
theorem Dq.cV {K : PySem.W.Frag} {H : Hp} {d : PyData} {v : V} (h : Dl.isC d = true) (q : Dq K H v d) : v = Dl.cV d := by
  cases q with
  | non => rfl
  | bl b => rfl
  | int i => rfl
  | str x => rfl
  | _ => cases h
section
variable {K : PySem.W.Frag} {G : Pa} {δ τ : List Sl} {t : Nat} {R : RX} {S : DSp} {tl : TE} {Nl Ng : List Str} {ws : List (Option V)} {ta : TA} {f c' P : Addr} {q : Str} {i : Nat}
theorem den_act (hc : G.H0 c' = some (CodeO c' q)) (nd : ¬ isDr G c') (hs : δ[i]? = some (.raw (.ref f))) (hl : ∀ v H Q, spD K S [] [v] H Q E0 → tl (startF Nl [v] ws) H Q)
    (d : DenA K G ta δ τ t fun xs δ1 t1 => xs.length = 1 ∧ S (xs.map Sl.soft) t1 fun x t' => R x δ1 t') : Den K G (tAct f c' q i tl Nl ws ta) δ τ t R := fun σ vs H Q R0 k => by
  refine ⟨?_, d σ vs H _ R0 fun us H1 xs δ1 t1 ⟨one, q1⟩ l R1 => ⟨R1.old _ _ nd hc, ?_⟩⟩
  · obtain ⟨o, ho, hv⟩ := pget R0.sl hs
    rcases hv with hv | ⟨v, rfl, hv⟩
    · cases hv
    · have hv : v = .ref f := hv
      rw [ho, hv]
  · obtain ⟨w, rfl⟩ : ∃ w, us = [w] := by
      match us, l with
      | [], l => exact absurd (one.symm.trans l) (by decide)
      | [w], _ => exact ⟨w, rfl⟩
      | _ :: _ :: _, l => exact absurd (one.symm.trans l) (by simp)
    have R2 := R1.softAll l
    have l' : (xs.map Sl.soft).length = [w].length := by rw [List.length_map]; exact l
    refine ⟨w, rfl, hl w H1 Q (R2.asks (T := []) (fun _ h => nomatch h) l' (fun p => cnt_soft xs) q1 fun v H' x t' c R' => k v H' x δ1 t' c R')⟩
/-- what such a function promises, by its body -/
theorem lam_sp {S : DSp} {cs : List PyData} (hC : cs.all Dl.isC = true) (len : Nl.length = cs.length + 1) (one : ∀ {xs t C}, S xs t C → xs.length = 1)
    (d : ∀ (G : Pa) (x : Sl) (t : Nat) (C : Sl → Nat → Prop), S [x] t C → Den K G tl (x :: cs.map Sl.dat) [] t fun y _ t1 => C y t1) :
    ∀ v H Q, spD K S [] [v] H Q E0 → tl (startF Nl [v] (cs.map fun d => some (Dl.cV d))) H Q := by
  intro v H Q ⟨G, xs, t, C, h1, h2, R0, ⟨no, _⟩, kq⟩
  obtain ⟨x, rfl⟩ : ∃ x, xs = [x] := by
    match xs, h2 with
    | [x], _ => exact ⟨x, rfl⟩
  have e : startF Nl [v] (cs.map fun d => some (Dl.cV d)) = some v :: cs.map fun d => some (Dl.cV d) := by
    unfold startF
    rw [List.length_map, len, List.length_singleton, show cs.length + 1 - 1 - cs.length = 0 from by omega]
    simp
  rw [e]
  have cs0 : ∀ p, cnt p (cs.map Sl.dat) = 0 := fun p => cnt_cds p cs
  have R1 : Rl K G (x :: cs.map Sl.dat) [] t (some v :: cs.map fun d => some (Dl.cV d)) [] H := by
    refine R0.less (fun p => ?_) (fun m => ?_) fun _ => .nil
    · simp only [cnt, cs0 p]
      omega
    · refine .cons (.inr ⟨v, rfl, (R0.head).to m fun _ _ _ _ e => e⟩) ?_
      have go : ∀ cs : List PyData, cs.all Dl.isC = true → ∀ O : Addr → Prop, Paired (fun s o => RS K G O H s o) (cs.map Sl.dat) (cs.map fun d => some (Dl.cV d)) := by
        intro cs h O
        induction cs with
        | nil => exact .nil
        | cons d cs ih =>
          simp only [List.all_cons, Bool.and_eq_true] at h
          exact .cons (.inr ⟨_, rfl, Dq.isC h.1⟩) (ih h.2)
      exact go cs hC _
  refine d G x t C h1 _ [] H Q R1 fun v' H' y δ' t' c R' => kq v' H' y t' c ?_
  exact R'.less (fun p => by simp only [cnt]; omega) (fun _ => .nil) fun m => tm_to m R'.tm
theorem tab_one {H : Hp} {d : Addr} {us : List V} {q : Str} (h1 : H c' = some (CodeO c' q)) : (∀ us, H c' ≠ some (.lst us)) ∧ ∀ ps, H c' ≠ some (.tbl ps) := by
  refine ⟨fun us z => ?_, fun ps z => ?_⟩ <;>
  · rw [h1] at z
    have z := Option.some.inj z
    unfold CodeO at z
    cases z
theorem DrOk.code {G : Pa} {H : Hp} (D : DrOk G H t) (h : H c' = some (CodeO c' q)) : ¬ isDr G c' := by
  rintro (⟨d, r, c, e, z⟩ | ⟨q', m⟩)
  · obtain ⟨_, _, _, t', _, cells, rests, h1, h2, h3, h4, h5, h6, _⟩ := D.1 d r c e
    rcases z with rfl | rfl
    · exact (tab_one (d := c') (us := []) h).1 _ h4
    · exact (tab_one (d := c') (us := []) h).1 _ h6
  · obtain ⟨_, ps, h1, _⟩ := D.2 c' q' m
    exact (tab_one (d := c') (us := []) h).2 _ h1
theorem den_hof {n : Nat} {js : List Nat} {tB : Addr → Addr → List (Option V) → TS} {cs zs : List PyData} {C : Sl → Nat → Prop} (hT : OneIn G (P, q)) (no : ∀ p, cnt p δ + cnt p τ = 0)
    (cap : js.map (fun j => δ[j]?) = cs.map fun d => some (Sl.dat d)) (hC : cs.all Dl.isC = true) (few : zs.length + 1 ≤ Ng.length) (many : zs.length = n)
    (args : ∀ G1 : Pa, DenA K G1 ta δ τ t fun xs δ1 t1 => xs = zs.map Sl.dat ∧ δ1 = δ ∧ t1 = t)
    (body : ∀ (G2 : Pa) (f c' : Addr), ¬ isDr G2 c' → G2.H0 c' = some (CodeO c' q) →
      DS K G2 (tB f c' (cs.map fun d => some (Dl.cV d))) (dst Ng (.raw (.ref f) :: zs.map Sl.dat)) [] t ⟨fun _ _ => False, C, fun _ _ => False, fun _ _ => False⟩)
    (kq : ∀ x t', C x t' → R x δ t') : Den K G (tHof P q n ta Ng js tB) δ τ t R := fun σ vs H Q R0 k => by
  obtain ⟨oP, tS⟩ := R0.dw.2 P q hT.1
  refine ⟨tS, fun f c' H1 old T1 hco => ?_⟩
  obtain ⟨ps0, hP0, _, _⟩ := tS
  have lstOld : ∀ {b : Addr} {us : List V}, H b = some (.lst us) → H1 b = some (.lst us) := fun {b us} e => old b _ (fun z => by rw [z, hP0] at e; cases Option.some.inj e) e
  have D1 : DrOk G H1 t := by
    refine ⟨fun d r c e => ?_, fun P' q' m => ?_⟩
    · obtain ⟨a1, a2, a3, t', a4, cells, rests, h1, h2, h3, h4, h5, h6, h7⟩ := R0.dw.1 d r c e
      exact ⟨a1, a2, a3, t', a4, cells, rests, h1, h2, h3, lstOld h4, lstOld h5, lstOld h6, h7⟩
    · refine ⟨(R0.dw.2 P' q' m).1, ?_⟩
      by_cases z : P' = P
      · subst z
        rw [hT.2 q' m]
        exact T1
      · obtain ⟨_, ps, b1, b2, b3⟩ := R0.dw.2 P' q' m
        refine ⟨ps, old _ _ z b1, b2, fun pos cv hcv => ?_⟩
        obtain ⟨c, e1, e2⟩ := b3 pos cv hcv
        refine ⟨c, e1, old _ _ (fun y => ?_) e2⟩
        rw [y, hP0] at e2
        exact codeO_ne _ (Option.some.inj e2).symm
  have R1 : Rl K G δ τ t σ vs H1 := R0.step (fun b o nd e => old b o (fun z => nd (.inr ⟨q, by rw [z]; exact hT.1⟩)) e) D1
  have R1' : Rl K ⟨G.dr, G.O, H1, G.tb⟩ δ τ t σ vs H1 :=
    ⟨pmap R1.sl fun _ _ _ _ h => h.elim .inl fun ⟨v, e, h⟩ => .inr ⟨v, e, h.swapG rfl⟩, pmap R1.tm fun _ _ _ _ h => h.swapG rfl, R1.nd, R1.off, fun p h => by rw [no p] at h; exact absurd h (by simp), R1.live, Frm.of (Same.refl _), D1⟩
  refine args _ σ vs H1 _ R1' fun us H2 xs δ1 t1 ⟨ex, e1, e2⟩ l R2 => ?_
  subst ex e1 e2
  have hc2 : H2 c' = some (CodeO c' q) := R2.old _ _ (D1.code hco) hco
  refine ⟨by rw [← l, List.length_map]; exact many, hc2, ?_⟩
  have caps : js.map (slotAt σ) = cs.map fun d => some (Dl.cV d) := by
    have go : ∀ (js : List Nat) (cs : List PyData), js.map (fun j => δ1[j]?) = (cs.map fun d => some (Sl.dat d)) → cs.all Dl.isC = true → js.map (slotAt σ) = cs.map fun d => some (Dl.cV d) := by
      intro js
      induction js with
      | nil =>
        intro cs h _
        cases cs with
        | nil => rfl
        | cons d cs => cases h
      | cons j js ih =>
        intro cs h hC
        cases cs with
        | nil => cases h
        | cons d cs =>
          simp only [List.all_cons, Bool.and_eq_true] at hC
          simp only [List.map_cons, List.cons.injEq] at h ⊢
          refine ⟨?_, ih cs h.2 hC.2⟩
          obtain ⟨o, ho, hv⟩ := pget R0.sl h.1
          rcases hv with hv | ⟨v, rfl, hv⟩
          · cases hv
          · rw [slotAt_of ho, Dq.cV hC.1 hv]
    exact go js cs cap hC
  rw [caps]
  have R3 : Rl K ⟨G.dr, G.O, H1, G.tb⟩ δ1 ((Sl.raw (.ref f) :: zs.map Sl.dat) ++ τ) t1 σ ((.ref f :: us) ++ vs) H2 := R2.push (s := .raw (.ref f)) rfl fun _ => rfl
  have l3 : (Sl.raw (.ref f) :: zs.map Sl.dat).length = (V.ref f :: us).length := by rw [List.length_cons, List.length_cons, l]
  have zs0 : ∀ p, cnt p (Sl.raw (.ref f) :: zs.map Sl.dat) = 0 := fun p => by
    have := cnt_cds p zs
    show 0 + _ = 0
    omega
  have R4 := R3.into l3 zs0
  have R5 := R4.less (δ' := dst Ng (Sl.raw (.ref f) :: zs.map Sl.dat)) (τ' := []) (σ' := L2.start Ng (.ref f :: us)) (ws := []) (fun p => by
      have := cnt_dst (p := p) (ns := Ng) (xs := Sl.raw (.ref f) :: zs.map Sl.dat)
      have := zs0 p
      simp only [cnt] at *
      omega) (fun m => dst_rs (by rw [List.length_cons, List.length_map]; exact few) (tm_to m R4.tm)) fun _ => .nil
  refine body ⟨G.dr, Pr ⟨G.dr, G.O, H1, G.tb⟩ δ1 τ, H2, G.tb⟩ f c' (R4.dw.code hc2) hc2 _ [] H2 _ R5 (fun _ _ _ _ z => z.elim) (fun v H' x δ' t' σ' c R' => ?_) (fun _ _ _ _ z => z.elim) fun _ _ _ _ z => z.elim
  have R6 := (R2.drop l).back (R'.less (δ' := []) (τ' := [x]) (σ' := []) (ws := [v]) (fun p => by simp only [cnt]; omega) (fun _ => .nil) fun m => tm_to m R'.tm)
  refine k v H' x _ t' (kq x t' c) ⟨pmap R6.sl fun _ _ _ _ h => h.elim .inl fun ⟨v, e, h⟩ => .inr ⟨v, e, h.swapG rfl⟩, pmap R6.tm fun _ _ _ _ h => h.swapG rfl, R6.nd, R6.off, fun p h => (R1.newAt (R6.new p h)).2, R6.live, R1.old.trans R6.old, R6.dw⟩
end
end Dl

set_option Elab.async false
set_option linter.all false
set_option maxRecDepth 100000
set_option maxHeartbeats 4000000
/-! the end of a law whose defs make functions on the spot -/
namespace Dl
open PySem PySem.Spec PyProof.Rows L2 Glay Lw LamX

/-- the empty tables -/
abbrev isTab (h : Heap) (P : Addr) : Prop := h.get? P = some (PySem.W.tabObj #[])
section
variable {P : Program} {w : World} {K : PySem.W.Frag}
theorem goesLawT {mg mb : Str → Option Value} {k : Nat} {fa a : Addr} {cs : List (Addr × Addr)} {fd : FuncData} {x : Str} {sp : Sp} {z : Shared} {vs : List Value} {ns : List Int}
    (inK : K.In z.heap) (names : z.heap.Ns mainGlobals mg) (blt : z.heap.Ns builtinsNs mb) (boot : ∀ x : Str, x ≠ "__name__" → mb x = bootBuiltins x) (noLid : z.heap.NoLimit) (gens : z.gens = #[])
    (tabs : ∀ p ∈ cs, isTab z.heap p.2) (notK : ∀ p ∈ cs, K.lookup p.2 = none) (heads : ∀ p ∈ cs, PySem.W.CodeHd z.heap p.1 p.2)
    (main : ∃ (bm : Addr) (ob : Obj), mg "__builtins__" = some (.ref bm) ∧ bm ≠ builtinsNs ∧ z.heap.get? bm = some ob ∧ ob.cls = .type "module" ∧ ob.dict = some builtinsNs ∧ ob.data = .plain)
    (script : z.heap.get? a = some { cls := .type "list", data := .seq vs.toArray }) (whole : IntsAre vs ns) (few : ns.length ≤ sizeLine) (room : Room k callerA)
    (F : ∀ base : Heap, K.In base → base.Ns mainGlobals mg → (∀ p ∈ cs, TabB base mg p.1 p.2) → GOk P w K mg base k fa fd [x] sp) (bound : ∀ (s : Shared) (u : Value), BindsTo s fd ⟨[u], []⟩ [(x, u)])
    (want : ∀ H : Hp, (∀ p ∈ cs, H p.2 = some (.tbl #[])) → SqL K H a (ns.map V.int) → sp [.ref a] H (fun v _ => v = .bl true) fun _ _ _ => False) :
    codeAny (model P w) callerA (.call (.ref fa) ⟨[.ref a], []⟩) (fun r s' => r = .ok (.ret (.bool true)) ∧ OldK z.heap s'.heap ∧ s'.os = z.os ∧ AllBare s'.gens) z := by
  have rel := vals_ints whole
  let isP : Addr → Prop := fun b => ∃ p ∈ cs, p.2 = b
  have tabP : ∀ {b : Addr}, isP b → isTab z.heap b := fun {b} ⟨p, hp, e⟩ => e ▸ tabs p hp
  have aP : ¬ isP a := fun h => by
    have q := (tabP h).symm.trans script
    cases q
  have go : ∀ H : Hp, (∀ b, isP b → H b = some (.tbl #[])) → (∀ b, H b = none ∨ isP b ∨ ∃ o xs, H b = some (.frz o (.lst xs))) → SqL K H a (ns.map V.int) → HOk P w H z.heap → (∀ b, H b ≠ none → b = a ∨ isP b) → (H a ≠ none → K.lookup a = none) →
      codeAny (model P w) callerA (.call (.ref fa) ⟨[.ref a], []⟩) (fun r s' => r = .ok (.ret (.bool true)) ∧ OldK z.heap s'.heap ∧ s'.os = z.os ∧ AllBare s'.gens) z := by
    intro H hH only seq hok alone out
    have hH2 : ∀ p ∈ cs, H p.2 = some (.tbl #[]) := fun p hp => hH _ ⟨p, hp, rfl⟩
    have untracked : ∀ {b : Addr} {o : Obj}, z.heap.get? b = some o → (∀ vs n, o.data ≠ .seq vs n) → o.data ≠ .fields #[] → H b = none := fun {b o} e n1 n2 => by
      cases q : H b with
      | none => rfl
      | some u =>
        rcases alone b (by rw [q]; exact Option.some_ne_none u) with e' | e'
        · subst e'
          have q2 := e.symm.trans script
          cases q2
          exact (n1 _ _ rfl).elim
        · have q2 := e.symm.trans (tabP e')
          cases q2
          exact (n2 rfl).elim
    have keptNs : ∀ {b : Addr} {m : Str → Option Value}, z.heap.Ns b m → (hidT z.heap H).Ns b m := by
      rintro b m ⟨o, es, ep, e, d, r⟩
      exact ⟨o, es, ep, hidT_get e (untracked e (fun vs n y => by rw [d] at y; cases y) fun y => by rw [d] at y; cases y), d, r⟩
    have keptK : K.In (hidT z.heap H) := fun b o e => by
      refine hidT_get (inK b o e) ?_
      cases q : H b with
      | none => rfl
      | some u =>
        rcases alone b (by rw [q]; exact Option.some_ne_none u) with e' | ⟨p, hp, e'⟩
        · subst e'
          have no := out (by rw [q]; exact Option.some_ne_none u)
          rw [e] at no
          cases no
        · have no := notK p hp
          rw [e', e] at no
          cases no
    have md : Mod K mg (hidT z.heap H) := ⟨keptK, keptNs names, ⟨mb, keptNs blt, boot⟩, let ⟨mc, h1, h2⟩ := noLid; ⟨mc, keptNs h1, h2⟩⟩
    have TB : ∀ p ∈ cs, TabB (hidT z.heap H) mg p.1 p.2 := fun p hp => by
      have hp2 := tabs p hp
      refine ⟨?_, ?_, fun y => ?_⟩
      · obtain ⟨o, us, file, tf, flags, tg, inF, text, tt, e1, r1, r2, r⟩ := heads p hp
        refine ⟨o, us, file, tf, flags, tg, inF, text, tt, hidT_get e1 (untracked e1 (fun vs n y => by rw [r2] at y; cases y) fun y => ?_), r1, r2, r⟩
        rw [r2] at y
        cases y
        have r3 := r.1
        simp at r3
      · obtain ⟨bm, ob, b1, b2, b3, b4, b5, b6⟩ := main
        have nG : bm ≠ mainGlobals := fun q => by
          obtain ⟨o, es, ep, e, hd, _⟩ := names
          subst q
          have q2 := b3.symm.trans e
          cases q2
          rw [b6] at hd
          cases hd
        have nP : bm ≠ p.2 := fun q => by
          subst q
          have q2 := b3.symm.trans hp2
          cases q2
          cases b6
        exact ⟨bm, ob, b1, b2, nG, nP, hidT_get b3 (untracked b3 (fun vs n y => by rw [b6] at y; cases y) fun y => by rw [b6] at y; cases y), b4, b5, b6⟩
      · obtain ⟨o, es, ep, e, hd, _⟩ := names
        have hp3 : z.heap.get? p.2 = some (PySem.W.tabObj #[]) := hp2
        rw [← y, e] at hp3
        cases hp3
        cases hd
    have e0 : Env0 P w K mg (hidT z.heap H) callerA [] z H :=
      ⟨rfl, md, fun _ _ e => of_hidT e, Nat.le_of_eq (hidT_size _ _), trivial, fun _ hb => (List.not_mem_nil hb).elim, hok, .of_eq gens⟩
    refine codeAny_mono ((F _ keptK (keptNs names) TB).goes (args := ⟨[.ref a], []⟩) (us := [.ref a]) (vs := [.ref a]) room rfl e0 (bound z (.ref a)) (.cons rfl .nil) (want H hH2 seq)) ?_
    intro r s' h
    match r, h with
    | .error _, h => exact h.elim
    | .ok (.ret u), ⟨v, H', os, bare, un, hok', rv, q⟩ =>
      have q' : v = .bl true := q
      subst q'
      have ru : u = Value.bool true := rv
      subst ru
      have stays : ∀ b o, ¬ isP b → z.heap.get? b = some o → s'.heap.get? b = some o := fun b o nb e => by
        cases hb : H b with
        | none => exact un.keep b o e hb List.not_mem_nil List.not_mem_nil
        | some u =>
          rcases only b with z0 | z0 | ⟨ob, xs, z0⟩
          · rw [hb] at z0
            cases z0
          · exact (nb z0).elim
          · have e1 := (hok b _ z0).1
            have e2 := (hok' b _ (un.frzs b ob _ z0)).1
            rw [e] at e1
            cases e1
            exact e2
      have grows : ∀ p ∈ cs, ∃ more : Array Value, s'.heap.get? p.2 = some (PySem.W.tabObj more) := fun p hp => by
        obtain ⟨more, y⟩ := un.tbls p.2 #[] (hH2 p hp)
        exact ⟨_, hok' p.2 _ y⟩
      refine ⟨rfl, ⟨fun b o e => ?_, fun b o e => ?_⟩, os, bare⟩
      · by_cases hb : isP b
        · obtain ⟨p, hp, ep⟩ := hb
          obtain ⟨more, hm⟩ := grows p hp
          subst ep
          have q2 := e.symm.trans (tabs p hp)
          cases q2
          refine .inr (.inl ⟨((heads p hp).tab (tabs p hp)).isCodeTable, rfl, #[], more, rfl, ?_⟩)
          rw [Array.empty_append]
          exact hm
        · exact .inl (stays b o hb e)
      · by_cases hb : isP b
        · obtain ⟨p, hp, ep⟩ := hb
          subst ep
          obtain ⟨more, hm⟩ := grows p hp
          exact ⟨_, hm⟩
        · exact ⟨o, stays b o hb e⟩
  classical
  cases hk : K.lookup a with
  | some o =>
    have e := inK a o hk
    rw [script] at e
    cases e
    have sz : vs.toArray.size ≤ sizeLine := by
      rw [List.size_toArray, whole.length]
      exact few
    refine go (fun b => if isP b then some (.tbl #[]) else none) (fun b hb => if_pos hb) (fun b => ?_) (.inr ⟨_, vs.toArray, _, hk, rfl, rfl, rfl, sz, by simpa using rel⟩) (fun b u q => ?_) (fun b q => ?_) fun q => (q (if_neg aP)).elim
    · by_cases hb : isP b
      · exact .inr (.inl hb)
      · exact .inl (if_neg hb)
    · by_cases hb : isP b
      · have q2 := (if_pos hb).symm.trans q
        cases q2
        exact tabP hb
      · have q2 := (if_neg hb).symm.trans q
        cases q2
    · by_cases hb : isP b
      · exact .inr hb
      · exact (q (if_neg hb)).elim
  | none =>
    let H : Hp := fun b => if b = a then some (.frz { cls := .type "list", data := .seq vs.toArray } (.lst (ns.map V.int))) else if isP b then some (.tbl #[]) else none
    have at1 : H a = some (.frz { cls := .type "list", data := .seq vs.toArray } (.lst (ns.map V.int))) := if_pos rfl
    have atT : ∀ {b : Addr}, isP b → H b = some (.tbl #[]) := fun {b} h => (if_neg (show ¬ b = a from fun y => aP (y ▸ h))).trans (if_pos h)
    have off : ∀ {b : Addr}, b ≠ a → ¬ isP b → H b = none := fun n m => (if_neg n).trans (if_neg m)
    refine go H (fun b hb => atT hb) (fun b => ?_) (.inl (.inr ⟨_, at1⟩)) (fun b u q => ?_) (fun b q => ?_) fun _ => hk
    · by_cases hb : b = a
      · subst hb
        exact .inr (.inr ⟨_, _, at1⟩)
      · by_cases hp : isP b
        · exact .inr (.inl hp)
        · exact .inl (off hb hp)
    · by_cases hb : b = a
      · subst hb
        have q2 := at1.symm.trans q
        cases q2
        refine ⟨script, ?_, vs, _, rel, script⟩
        rw [List.length_map]
        exact few
      · by_cases hp : isP b
        · have q2 := (atT hp).symm.trans q
          cases q2
          exact tabP hp
        · have q2 := (off hb hp).symm.trans q
          cases q2
    · by_cases hb : b = a
      · exact .inl hb
      · by_cases hp : isP b
        · exact .inr hp
        · exact (q (off hb hp)).elim
end
/-- the goal that the head leaves, from such a promise of the law -/
theorem walkGT {l : PySem.W.OpenLaw} {n k : Nat} {q : Program} {loose : List Str} {XP : (Str → Option Value) → Heap → Prop} {YP : World → Heap → Prop} {d : DefRec} {K : Params → PySem.W.Frag} {sp : World → Sp} {x : Str} {cs : List (Addr × Addr)}
    (hn : l.most = some n) (hn2 : n ≤ sizeLine) (hdf : d.params.defaults = []) (room : Room k callerA) (hY : ∀ (w : World) (h : Heap), YP w h → (K w.params).In h)
    (tabs : ∀ (w : World) (h : Heap), YP w h → ∀ p ∈ cs, isTab h p.2) (notK : ∀ w : World, ∀ p ∈ cs, (K w.params).lookup p.2 = none) (heads : ∀ w : World, ∀ p ∈ cs, PySem.W.codeHdIn (K w.params) p.1 p.2 = true)
    (F : ∀ (w : World) (mg : Str → Option Value) (fa : Addr) (h : Heap), (K w.params).In h → h.Ns mainGlobals mg → mg d.name = some (.ref fa) →
      ∃ fd : FuncData, (∀ (s : Shared) (u : Value), BindsTo s fd ⟨[u], []⟩ [(x, u)]) ∧ ∀ base : Heap, (K w.params).In base → base.Ns mainGlobals mg → (∀ p ∈ cs, TabB base mg p.1 p.2) → GOk l.prog w (K w.params) mg base k fa fd [x] (sp w))
    (want : ∀ (w : World) (H : Hp) (a : Addr) (ns : List Int), ns.length ≤ n → (∀ p ∈ cs, H p.2 = some (.tbl #[])) → SqL (K w.params) H a (ns.map V.int) → sp w [.ref a] H (fun v _ => v = .bl true) fun _ _ _ => False) :
    PySem.W.WalkO q loose XP YP l.row.toRowW d [] (fun f vs => PySem.call f vs) := by
  refine Att.attach_callB hn hdf ?_
  intro w s₀ s₁ mg mb fa o pm cd doc a vs ns G Y ho hd hcd hmg hobj hints hlen hbits hg
  have inK := hY w _ Y
  obtain ⟨fd, hb, hF⟩ := F w mg fa _ inK G.T.g hmg
  exact goesLawT inK G.T.g G.T.b G.T.builtins G.T.nolimit hg (tabs w _ Y) (notK w) (fun p hp => PySem.W.codeHd_of_K inK (heads w p hp)) G.T.bmain hobj hints (Nat.le_trans hlen hn2) room hF hb fun H hH hS => want w H a ns hlen hH hS
/-- where the draws begin, tables there too -/
theorem Rl.firstT {K : PySem.W.Frag} {H : Hp} {d r c : Addr} {δ : List Sl} {σ : L2.St} {T : List (Addr × Str)} (D : Dr H d r c 0) (tabs : ∀ m, m ∈ T → H m.1 = some (.tbl #[])) (sl : Paired (fun s o => s = .any ∨ (s = .drw ∧ o = some (.ref d))) δ σ) :
    Rl K ⟨some (d, r, c), fun b => (b = d ∨ b = r ∨ b = c) ∨ ∃ q, (b, q) ∈ T, H, T⟩ δ [] 0 σ [] H := by
  have R := Rl.first (K := K) D sl
  have no : ∀ p, cnt p δ = 0 := by
    clear R
    intro p
    induction sl with
    | nil => rfl
    | cons h _ ih =>
      rcases h with h | ⟨h, _⟩ <;> (subst h; show 0 + _ = 0; rw [ih])
  refine ⟨pmap sl fun i a b _ h => ?_, .nil, R.nd, fun p h => by rw [no p] at h; simp [cnt] at h, R.new, fun b h => ?_, Frm.of (Same.refl H), ⟨fun d' r' c' e => ?_, fun P q m => ⟨.inr ⟨q, m⟩, LamX.TabS.nil (tabs _ m)⟩⟩⟩
  · rcases h with h | ⟨rfl, rfl⟩
    · exact .inl h
    · exact .inr ⟨_, rfl, d, r, c, rfl, rfl⟩
  · rcases h with h | ⟨q, m⟩
    · exact R.live b h
    · rw [show H b = some (.tbl #[]) from tabs _ m]
      exact Option.some_ne_none _
  · cases e
    exact ⟨.inl (.inl rfl), .inl (.inr (.inl rfl)), .inl (.inr (.inr rfl)), 0, Int.le_refl _, D⟩
end Dl

set_option Elab.async false
set_option linter.all false
set_option maxRecDepth 100000
set_option maxHeartbeats 4000000
/-! in, not in -/
namespace Dl
open PySem PySem.Spec PyProof.Rows L2 Glay Lw
section
variable {X : Cx}
def rStrI : List V → Hp → VK → Prop := fun xs H Q => ∃ i, xs = [.int i] ∧ i.natAbs.log2 < 1920 ∧ Q (.str (toString i)) H
theorem str_1 : CallR X (.type "str") rStrI := call_str_int
theorem nots_k {K : PySem.W.Frag} (e : X.K = K) : OpR X (compareOp .NotIn) (rIn K true) := by subst e; exact op_notIn_seq
end
section
variable {K : PySem.W.Frag} {G : Pa} {δ τ : List Sl} {t : Nat} {R : RX}
theorem DqAll.cV {H : Hp} : ∀ {us : List V} {es : List PyData}, es.all Dl.isC = true → DqAll K H us es → us = es.map Dl.cV
  | [], [], _, _ => rfl
  | u :: us, e :: es, h, .cons q r => by
    simp only [List.all_cons, Bool.and_eq_true] at h
    rw [Dq.cV h.1 q, DqAll.cV h.2 r]
    rfl
theorem flat_cV {d : PyData} (h : Dl.isC d = true) : flatV (Dl.cV d) = true := by
  cases d <;> first | rfl | cases h
theorem flat_all : ∀ {es : List PyData}, es.all Dl.isC = true → (es.map Dl.cV).all flatV = true
  | [], _ => rfl
  | e :: es, h => by
    simp only [List.all_cons, List.map_cons, Bool.and_eq_true] at h ⊢
    exact ⟨flat_cV h.1, flat_all h.2⟩
theorem dop_inL {neg : Bool} {x y : Sl} {d : PyData} {es : List PyData} (hx : x.dv = some d) (hy : y.dv = some (.list es)) (hd : Dl.isC d = true) (he : es.all Dl.isC = true)
    (q : R (.dat (.bool (if neg then !inV (Dl.cV d) (es.map Dl.cV) else inV (Dl.cV d) (es.map Dl.cV)))) δ t) : Dop K G (rIn K neg) x y δ τ t R := fun σ vs H u v Q R0 k => by
  have h1 := Dq.cV hd (R0.h2.full hx)
  have h2 := R0.head.full hy
  cases h2 with
  | lst hs ha =>
    have h3 := DqAll.cV he ha
    subst h1 h3
    exact ⟨_, _, rfl, .inl (.inl (.inl hs)), flat_cV hd, flat_all he, k _ _ _ _ _ q (R0.pop.pop.sc (.bl _))⟩
theorem dop_inT {neg : Bool} {x y : Sl} {d : PyData} {es : List PyData} (hx : x.dv = some d) (hy : y.dv = some (.tuple es)) (hd : Dl.isC d = true) (he : es.all Dl.isC = true)
    (q : R (.dat (.bool (if neg then !inV (Dl.cV d) (es.map Dl.cV) else inV (Dl.cV d) (es.map Dl.cV)))) δ t) : Dop K G (rIn K neg) x y δ τ t R := fun σ vs H u v Q R0 k => by
  have h1 := Dq.cV hd (R0.h2.full hx)
  have h2 := R0.head.full hy
  cases h2 with
  | tup hs ha =>
    have h3 := DqAll.cV he ha
    subst h1 h3
    exact ⟨_, _, rfl, .inr hs, flat_cV hd, flat_all he, k _ _ _ _ _ q (R0.pop.pop.sc (.bl _))⟩
/-- the text of a number -/
theorem dcb_strI {i : Int} (h : i.natAbs.log2 < 1920) (q : R (.dat (.str (toString i))) δ t) : Dcb K G rStrI [.dat (.int i)] δ τ t R := fun σ vs H us Q l R0 k => by
  obtain ⟨u, rfl⟩ := one_arg (xs := []) l
  exact ⟨i, by rw [RV.int R0.head], h, k _ _ _ _ _ q (R0.pop.sc (.str _))⟩
end
end Dl

set_option Elab.async false
set_option linter.all false
set_option maxRecDepth 100000
set_option maxHeartbeats 4000000
/-! ranges of numbers of any size -/
namespace Dl
open PySem PySem.Spec PyProof.Rows L2 Glay Lw
theorem turn_far {P : Program} {w : World} {K : PySem.W.Frag} {tg : Expr} (it : Addr) (lo : Int) (n : Nat) : Turn P w K tg (Itr lo n) [it] it (fun i h => IsLongIter h it (lo + (i : Nat) * 1) ((n : Int) - (i : Nat)) 1) where
  mem := List.mem_singleton.mpr rfl
  obj := by
    intro i h st b hb
    cases List.mem_singleton.mp hb
    exact ⟨_, st, fun v z => by cases z⟩
  keep := fun i h h' st k => k it (List.mem_singleton.mpr rfl) _ st
  item := by
    intro X hP hw hK hc i pins s σ H E I hf st hg
    subst hP hw hK
    obtain ⟨free, a1, a2, a3, a4, a5⟩ := hf it (List.mem_singleton.mpr rfl)
    refine (Walks.longrange (prog := X.prog) (w := X.w) (I.ok.hd hc) it lo 1 n).item i s _ _ hg st ?_
    rintro v h' tk ⟨t, rfl⟩ st' kk
    have I1 : Inv X pins σ H { s with heap := h', toks := tk } := I.turned (fun b o hb e => kk b o (fun z => hb (List.mem_singleton.mp z)) e) free a1 a3 a4 a5
    refine ⟨_, rfl, go_of (s := { s with heap := h', toks := tk }) (n := "longrange_iterator") st' rfl rfl (by decide) ⟨.int (lo + i), H, I1, ⟨t, ?_⟩, ⟨rfl, rfl⟩, st', fun b hb => (hf b hb).1⟩⟩
    rw [Int.mul_one]
  done := by
    intro X hP hw hK hc i pins s σ H E I hf st hg
    subst hP hw hK
    obtain ⟨free, a1, a2, a3, a4, a5⟩ := hf it (List.mem_singleton.mpr rfl)
    have over : n ≤ i := hg
    exact wpAny_pyNext_long_end (I.ok.hd hc) st (by omega) fun h' eb => ⟨rfl, I.turned (t' := s.toks) (fun b o hb e => eb b o hb e) free a1 a3 a4 a5⟩
  self := fun _ _ _ _ _ st h => wpAny_pyIter_longiter st h
section
variable {X : Cx} {tg : Expr}
def iRngA (ta : TA) : TI := fun σ H R => ta σ H fun vs H1 => ∃ i j : Int, vs = [.int i, .int j] ∧ R (Itr i (j - i).toNat) H1
def tLstRgN (te : L2.St → Hp → (Int → Int → Hp → Prop) → Prop) : TE := tLstRg te
theorem pe_listRgN {e : Expr} {te : L2.St → Hp → (Int → Int → Hp → Prop) → Prop} {p pos : Pos} (hc : X.calm = true) (hg : Gl X "list") (hm : X.mg "list" = none) (he : PRg X e te) (na : starEach [e] X.env = (false, eval e X.env) :: starEach [] X.env := by rfl) : PE X (.Call (.Name "list" p) [e] [] pos) (tLstRgN te) := pe_listRg hc hg hm he na
theorem far_it {pins : List (Addr × Obj)} {σ : L2.St} {H : Hp} {s : Shared} {R : It → Hp → Prop} {E : Value → Shared → Prop} {lo hi : Int} {t u v : Tok} {tk : Nat} (I : Inv X pins σ H s)
    (q : R (Itr lo (hi - lo).toNat) H) : wpAny (model X.prog X.w) X.A (pyIter (.ref s.heap.objs.size)) (PIE X pins σ tg R) E { s with heap := s.heap.push { cls := .type "range", data := .fields #[.int lo t, .int hi u, .int 1 v] }, toks := tk } := by
  have size : (((hi - lo).toNat : Nat) : Int) - ((0 : Nat) : Int) = Builtin.Range.rangeSize lo hi 1 := by
    rw [rangeSize_one]
    split <;> omega
  have first : lo + ((0 : Nat) : Int) * 1 = lo := by rw [Int.mul_one]; exact Int.add_zero lo
  have I1 : Inv X pins σ H { s with heap := s.heap.push { cls := .type "range", data := .fields #[.int lo t, .int hi u, .int 1 v] }, toks := tk } := I.kept fun b o e => Heap.get?_push_of_some _ e
  have fp : ∀ b, b ∈ [(s.heap.push { cls := .type "range", data := .fields #[.int lo t, .int hi u, .int 1 v] }).objs.size] → FpOk X pins H b := by
    intro b hb
    cases List.mem_singleton.mp hb
    exact I1.fpOk (Nat.le_refl _) (I1.hok.fresh (Nat.le_refl _))
  cases small : Builtin.Range.small lo hi 1 with
  | true =>
    refine wpAny_pyIter_range (IsRange.new ..) small ?_
    refine ⟨_, [_], _, _, H, rfl, I1.kept (t' := tk) fun b o e => Heap.get?_push_of_some _ e, turn_range _ lo (hi - lo).toNat, ?_, fp, q⟩
    show IsRangeIter _ _ (lo + ((0 : Nat) : Int) * 1) ((((hi - lo).toNat : Nat) : Int) - ((0 : Nat) : Int)) 1
    rw [first, size]
    exact Heap.get?_push_size _ rfl
  | false =>
    refine wpAny_pyIter_longrange (IsRange.new ..) small ?_
    refine ⟨_, [_], _, _, H, rfl, I1.kept (t' := tk) fun b o e => Heap.get?_push_of_some _ e, turn_far _ lo (hi - lo).toNat, ?_, fp, q⟩
    show IsLongIter _ _ (lo + ((0 : Nat) : Int) * 1) ((((hi - lo).toNat : Nat) : Int) - ((0 : Nat) : Int)) 1
    rw [first, size]
    exact Heap.get?_push_size _ rfl
theorem pi_rangeA {a b : Expr} {ta : TA} {p pos : Pos} (hg : Gl X "range") (hm : X.mg "range" = none) (ha : PA X [a, b] ta) (hs : starEach [a, b] X.env = [(false, eval a X.env), (false, eval b X.env)] := by rfl) (hs2 : starEach [b] X.env = [(false, eval b X.env)] := by rfl) :
    PI X tg (.Call (.Name "range" p) [a, b] [] pos) (iRngA ta) := by
  constructor
  intro pins s σ H R I h
  refine Call_ (ld_blt I hg hm boot_range (PyProof.Rows.callWith_type1 (thn (ha.run pos pins s σ H _ I h) ?_) (by rw [hs, hs2]) (by rw [hs2]; rfl)))
  rintro us s1 ⟨vs, H1, I1, r1, i, j, rfl, q⟩
  obtain ⟨_, _, rfl, ⟨t, rfl⟩, ⟨t', rfl⟩⟩ := vals2 r1
  exact call_range_2 (far_it I1 q)
end
section
variable {K : PySem.W.Frag} {G : Pa} {δ τ : List Sl} {t : Nat} {Ri : List PyData → List Sl → Nat → Prop}
theorem di_rngA {tr : TA} (q : DenA K G tr δ τ t fun xs δ1 t1 => ∃ i j : Int, xs = [.dat (.int i), .dat (.int j)] ∧ Ri (rngL i (j - i).toNat) δ1 t1) : DI K G (iRngA tr) δ τ t Ri := fun σ vs H Q R0 k =>
  q σ vs H _ R0 fun us H1 xs δ1 t1 ⟨i, j, e, q1⟩ l R1 => by
    subst e
    obtain ⟨u, v, rfl⟩ := two_args l
    have a := RV.int R1.head
    have b := RV.int R1.h2
    subst a b
    exact ⟨i, j, rfl, k _ _ _ _ _ _ _ q1 src_rng R1.pop.pop⟩
theorem den_lrgN {ta tb : TE} {R : RX} (q : Den K G ta δ τ t fun x δ1 t1 => Den K G tb δ1 (x :: τ) t1 fun y δ2 t2 => ∃ i j : Int, x = .dat (.int i) ∧ y = .dat (.int j) ∧ (-1000000 ≤ i ∧ i ≤ 1000000 ∧ -1000000 ≤ j ∧ j ≤ 1000000 ∧ j - i ≤ 1000000) ∧ ∀ p, R (.own p (rngL i (j - i).toNat)) δ2 t2) : Den K G (tLstRgN (tRg2 ta tb)) δ τ t R := fun σ vs H Q R0 k =>
  q σ vs H _ R0 fun v H1 x δ1 t1 q1 R1 => q1 σ (v :: vs) H1 _ R1 fun u H2 y δ2 t2 ⟨i, j, ex, ey, h, q2⟩ R2 => by
    subst ex
    subst ey
    have a := RV.int R2.head
    have b := RV.int R2.h2
    subst a
    subst b
    exact ⟨i, j, rfl, rfl, ⟨by omega, by omega, by omega, by omega, by omega⟩, fun p n => k _ _ _ _ _ (q2 p) (R2.pop.pop.lst n rg_dq)⟩
end
end Dl

set_option Elab.async false
set_option linter.all false
set_option maxRecDepth 100000
set_option maxHeartbeats 4000000
/-! texts shown: how long they may be -/
namespace Dl
open PySem PySem.Spec PyProof.Rows L2 Glay Lw
def Gs (x : Str) : Prop := ∀ c, c ∈ x.cps.toList → c < 1114112
theorem char_lt (c : Char) : c.toNat < 1114112 := by
  have h := c.valid
  simp only [UInt32.isValidChar, Nat.isValidChar] at h
  show c.val.toNat < 1114112
  omega
theorem gs_lit (s : String) : Gs (Str.ofString s) := fun c h => by
  have e : (Str.ofString s).cps.toList = s.toList.map Char.toNat := by
    show (cpsOfBytes 0 0 s.toByteArray.data.toList).toArray.toList = _
    rw [cpsOfBytes_string]
  rw [e] at h
  obtain ⟨ch, _, rfl⟩ := List.mem_map.mp h
  exact char_lt ch
theorem gs_app {x y : Str} (a : Gs x) (b : Gs y) : Gs (x ++ y) := fun c h => by
  have e : (x ++ y).cps.toList = x.cps.toList ++ y.cps.toList := Array.toList_append
  rw [e] at h
  rcases List.mem_append.mp h with h | h
  · exact a c h
  · exact b c h
theorem gs_join {sep : Str} (hs : Gs sep) : ∀ ts : List Str, (∀ t, t ∈ ts → Gs t) → Gs (Str.join sep ts)
  | [], _ => fun c h => by
    have h : c ∈ ([] : List Nat) := h
    cases h
  | [x], h => h x List.mem_cons_self
  | x :: y :: r, h => gs_app (gs_app (h x List.mem_cons_self) hs) (gs_join hs (y :: r) fun t ht => h t (List.mem_cons_of_mem _ ht))
theorem gs_from : ∀ (ts : List Str) (k : Nat) (acc : Str), Gs acc → (∀ t, t ∈ ts → Gs t) → Gs (textFrom k acc ts)
  | [], _, _, a, _ => a
  | t :: r, k, acc, a, h => gs_from r (k + 1) _ (gs_app (gs_app a (by split <;> exact gs_lit _)) (h t List.mem_cons_self)) fun u hu => h u (List.mem_cons_of_mem _ hu)
theorem hex_lt {w n : Nat} : ∀ d, d ∈ (List.replicate (w - ((Nat.toDigits 16 n).map Char.toNat).length) 48 ++ (Nat.toDigits 16 n).map Char.toNat) → d < 1114112 := fun d h => by
  rcases List.mem_append.mp h with h | h
  · rw [(List.mem_replicate.mp h).2]
    decide
  · obtain ⟨ch, _, rfl⟩ := List.mem_map.mp h
    exact char_lt ch
theorem reprChar_lt {q c : Nat} (hc : c < 1114112) : ∀ d, d ∈ Builtin.Str.reprChar q c → d < 1114112 := fun d h => by
  unfold Builtin.Str.reprChar at h
  dsimp only at h
  have two : ∀ a b : Nat, a < 1114112 → b < 1114112 → d ∈ [a, b] → d < 1114112 := fun a b ha hb h => by
    simp only [List.mem_cons, List.not_mem_nil, or_false] at h
    rcases h with rfl | rfl <;> assumption
  split at h
  · exact two _ _ (by decide) hc h
  split at h
  · exact two _ _ (by decide) (by decide) h
  split at h
  · exact two _ _ (by decide) (by decide) h
  split at h
  · exact two _ _ (by decide) (by decide) h
  split at h
  · rw [List.mem_singleton.mp h]
    exact hc
  split at h
  · rcases List.mem_append.mp h with h | h
    · exact two _ _ (by decide) (by decide) h
    · exact hex_lt d h
  split at h
  · rcases List.mem_append.mp h with h | h
    · exact two _ _ (by decide) (by decide) h
    · exact hex_lt d h
  · rcases List.mem_append.mp h with h | h
    · exact two _ _ (by decide) (by decide) h
    · exact hex_lt d h
theorem fold_lt {q : Nat} : ∀ (l : List Nat) (acc : Array Nat), (∀ c, c ∈ l → c < 1114112) → (∀ c, c ∈ acc.toList → c < 1114112) → ∀ c, c ∈ (l.foldl (fun out c => out ++ (Builtin.Str.reprChar q c).toArray) acc).toList → c < 1114112
  | [], _, _, h => h
  | x :: r, acc, hl, ha => by
    rw [List.foldl_cons]
    refine fold_lt r _ (fun c hc => hl c (List.mem_cons_of_mem _ hc)) fun c hc => ?_
    rw [Array.toList_append] at hc
    rcases List.mem_append.mp hc with hc | hc
    · exact ha c hc
    · exact reprChar_lt (hl x List.mem_cons_self) c (by simpa using hc)
theorem gs_repr {x : Str} (h : Gs x) : Gs (reprText x) := fun c hc => by
  have hq : reprQuote x < 1114112 := by
    unfold reprQuote
    split <;> decide
  unfold reprText at hc
  have hc : c ∈ ((x.cps.foldl (fun out c => out ++ (Builtin.Str.reprChar (reprQuote x) c).toArray) #[reprQuote x]).push (reprQuote x)).toList := hc
  rw [Array.toList_push, ← Array.foldl_toList] at hc
  rcases List.mem_append.mp hc with hc | hc
  · refine fold_lt x.cps.toList #[reprQuote x] h (fun c hc => ?_) c hc
    have : c = reprQuote x := by simpa using hc
    rw [this]
    exact hq
  · rw [List.mem_singleton.mp hc]
    exact hq
mutual
/-- its texts are of signs -/
def okS : PyData → Prop
  | .str x => Gs x
  | .list xs => okSs xs
  | .tuple xs => okSs xs
  | .dict _ => False
  | .none => True
  | .bool _ => True
  | .int _ => True
def okSs : List PyData → Prop
  | [] => True
  | x :: xs => okS x ∧ okSs xs
end
theorem okSs_of : ∀ {ds : List PyData}, (∀ d, d ∈ ds → okS d) → okSs ds
  | [], _ => True.intro
  | d :: ds, h => ⟨h d List.mem_cons_self, okSs_of fun e he => h e (List.mem_cons_of_mem _ he)⟩
mutual
theorem gs_shown : ∀ d : PyData, okS d → Gs d.shown
  | .none, _ => gs_lit "None"
  | .bool true, _ => gs_lit "True"
  | .bool false, _ => gs_lit "False"
  | .int i, _ => gs_lit (toString i)
  | .str x, h => gs_repr (show Gs x from h)
  | .list xs, h => gs_app (gs_from _ _ _ (gs_lit "[") (gs_shownAll xs h)) (gs_lit "]")
  | .tuple xs, h => gs_app (gs_app (gs_lit "(") (gs_join (gs_lit ", ") _ (gs_shownAll xs h))) (by split <;> exact gs_lit _)
  | .dict _, h => h.elim
theorem gs_shownAll : ∀ ds : List PyData, okSs ds → ∀ t, t ∈ PyData.shownAll ds → Gs t
  | [], _, _, ht => nomatch ht
  | d :: ds, h, t, ht => by
    rcases List.mem_cons.mp ht with ht | ht
    · rw [ht]
      exact gs_shown d h.1
    · exact gs_shownAll ds h.2 t ht
end
theorem Sm.str {x : Str} {n : Nat} (g : Gs x) (l : x.length ≤ n) : Sm 0 (10 * n + 2) (.str x) := ⟨rfl, rfl, Nat.le_refl _, by
  show (reprText x).length ≤ _
  have := PySem.StrLaws.reprText_len x fun c hc => Nat.lt_trans (g c hc) (by decide)
  omega, by
  show (x.cps.all (· < 1114112)) = true
  rw [← Array.all_toList, List.all_eq_true]
  exact fun c hc => decide_eq_true (g c hc)⟩
theorem Sm.text {n c : Nat} {d : PyData} (h : Sm n c d) (g : okS d) : Sm 0 (10 * c + 2) (.str d.shown) := Sm.str (gs_shown d g) (Nat.le_trans (shown_cost d h.show_ h.flat) h.small)
/-- may be shown, and shown as a text again -/
structure Sg (n c : Nat) (d : PyData) : Prop where
  sm : Sm n c d
  ok : okS d
theorem Sg.int {i : Int} (h : i.natAbs.log2 < 1920) : Sg 0 1925 (.int i) := ⟨.int h, True.intro⟩
theorem Sg.none : Sg 0 1925 .none := ⟨.none, True.intro⟩
theorem Sg.bool {b : Bool} : Sg 0 1925 (.bool b) := ⟨.bool, True.intro⟩
theorem Sg.str {x : Str} {n : Nat} (g : Gs x) (l : x.length ≤ n) : Sg 0 (10 * n + 2) (.str x) := ⟨.str g l, g⟩
theorem Sg.list {n c m : Nat} {ds : List PyData} (h : ∀ d, d ∈ ds → Sg n c d) (l : ds.length ≤ m) : Sg (n + 1) (m * (c + 2) + 3) (.list ds) := ⟨.list (fun d hd => (h d hd).sm) l, okSs_of fun d hd => (h d hd).ok⟩
theorem Sg.tuple {n c m : Nat} {ds : List PyData} (h : ∀ d, d ∈ ds → Sg n c d) (l : ds.length ≤ m) : Sg (n + 1) (m * (c + 2) + 3) (.tuple ds) := ⟨.tuple (fun d hd => (h d hd).sm) l, okSs_of fun d hd => (h d hd).ok⟩
theorem Sg.up {n c n' c' : Nat} {d : PyData} (h : Sg n c d) (a : n ≤ n') (b : c ≤ c') : Sg n' c' d := ⟨h.sm.up a b, h.ok⟩
theorem Sg.text {n c : Nat} {d : PyData} (h : Sg n c d) : Sg 0 (10 * c + 2) (.str d.shown) := ⟨h.sm.text h.ok, gs_shown d h.ok⟩
/-- the text of a number -/
theorem Sg.ofInt {i : Int} (h : i.natAbs.log2 < 1920) : Sg 0 19252 (.str (toString i : String)) := (Sg.int h).text
end Dl

set_option Elab.async false
set_option linter.all false
set_option maxRecDepth 100000
set_option maxHeartbeats 4000000
/-! ranges as values; is True -/
namespace Dl
open PySem PySem.Spec PyProof.Rows L2 Glay Lw
def rRgv1 : List V → Hp → VK → Prop := fun vs H Q => ∃ j, vs = [V.int j] ∧ ∀ p, H p = none → Q (.ref p) (upd H p (.rng 0 j))
section
variable {X : Cx}
theorem cr_range1v : CallR X (.type "range") rRgv1 := by
  intro pins s σ H vs us Q I r h
  obtain ⟨j, rfl, q⟩ := h
  obtain ⟨u1, rfl, rj⟩ := vals1 r
  obtain ⟨u, rfl⟩ := rj
  refine call_range_1 ⟨.ref s.heap.objs.size, upd H s.heap.objs.size (.rng 0 j), I.laid (t' := s.toks + 1 + 1) (fun b o e => Heap.get?_push_of_some _ e) (Nat.le_refl _) ?_, rfl, q _ (I.hok.fresh (Nat.le_refl _))⟩
  exact ⟨s.toks, u, s.toks + 1, Heap.get?_push_size _ rfl⟩
/-- what a name that holds a range gives to walk -/
def iRgV (te : TE) : TI := fun σ H R => te σ H fun x H1 => ∃ (a : Addr) (lo hi : Int), x = .ref a ∧ H1 a = some (.rng lo hi) ∧ (-(2 ^ 62) ≤ lo ∧ lo < 2 ^ 62 ∧ -(2 ^ 62) ≤ hi ∧ hi < 2 ^ 62) ∧ R (Itr lo (hi - lo).toNat) H1
theorem pi_rgv {tg e : Expr} {te : TE} (he : PE X e te) : PI X tg e (iRgV te) := by
  constructor
  intro pins s σ H R I h
  refine thn (he.run pins s σ H _ I h) ?_
  rintro u s1 ⟨x, H1, I1, r1, a, lo, hi, rfl, ha, ⟨h1, h2, h3, h4⟩, q⟩
  cases r1
  obtain ⟨t1, t2, t3, ho⟩ := I1.hok a _ ha
  have size : (((hi - lo).toNat : Nat) : Int) - ((0 : Nat) : Int) = Builtin.Range.rangeSize lo hi 1 := by
    rw [rangeSize_one]
    split <;> omega
  have first : lo + ((0 : Nat) : Int) * 1 = lo := by rw [Int.mul_one]; exact Int.add_zero lo
  have small : Builtin.Range.small lo hi 1 = true := small_one h1 h2 h3 h4
  refine wpAny_pyIter_range ho small ?_
  have fp : ∀ b, b ∈ [s1.heap.objs.size] → FpOk X pins H1 b := by
    intro b hb
    cases List.mem_singleton.mp hb
    exact I1.fpOk (Nat.le_refl _) (I1.hok.fresh (Nat.le_refl _))
  refine ⟨_, [_], _, _, H1, rfl, I1.kept (t' := _) fun b o e => Heap.get?_push_of_some _ e, turn_range _ lo (hi - lo).toNat, ?_, fp, q⟩
  show IsRangeIter _ _ (lo + ((0 : Nat) : Int) * 1) ((((hi - lo).toNat : Nat) : Int) - ((0 : Nat) : Int)) 1
  rw [first, size]
  exact Heap.get?_push_size _ rfl
end
section
variable {K : PySem.W.Frag} {G : Pa} {δ δ' τ : List Sl} {t : Nat} {R : RX} {te : TE} {Ri : List PyData → List Sl → Nat → Prop} {Rg : List Sl → Nat → Prop} {i : Nat} {lo hi : Int} {ch : Nat → Prop}
theorem Rl.rgn {p : Addr} {σ : L2.St} {vs : List V} {H H' : Hp} (R0 : Rl K G δ τ t σ vs H) (n : H p = none) (s : Same H H') (h : H' p = some (.rng lo hi)) : Rl K G δ (.rg lo hi :: τ) t σ (.ref p :: vs) H' := by
  have R1 := R0.grow s
  have e : Pr G δ (.rg lo hi :: τ) = Pr G δ τ := funext fun b => by
    unfold Pr
    show (_ ∨ 0 < cnt b δ + (0 + cnt b τ)) = _
    rw [Nat.zero_add]
  refine ⟨by rw [e]; exact R1.sl, .cons ⟨p, rfl, ?_⟩ (by rw [e]; exact R1.tm), fun q => ?_, fun q => ?_, fun q => ?_, R1.live, R1.old, R1.dw⟩
  · rw [e, hid_off (R0.newAt n).1]
    exact h
  · show _ + (0 + cnt q τ) ≤ 1
    rw [Nat.zero_add]
    exact R1.nd q
  · show 0 < _ + (0 + cnt q τ) → _
    rw [Nat.zero_add]
    exact R1.off q
  · show 0 < _ + (0 + cnt q τ) → _
    rw [Nat.zero_add]
    exact R1.new q
theorem dcb_rgv {j : Int} (q : R (.rg 0 j) δ t) : Dcb K G rRgv1 [.dat (.int j)] δ τ t R := fun σ vs H us Q l R0 k => by
  obtain ⟨u, rfl⟩ := one_arg (xs := []) l
  refine ⟨j, by rw [RV.int R0.head], fun p n => k _ _ _ _ _ q (R0.pop.rgn n (fun b o e => ?_) upd_same)⟩
  rw [upd_ne (ne_of_none e n)]
  exact e
theorem se_rg (e : sget δ i = some (.rg lo hi)) (q : R (.rg lo hi) δ t) : Den K G (tVar i) δ τ t R := fun σ vs H Q R0 k => by
  rw [sget_eq] at e
  obtain ⟨v, hv, h⟩ := rd_at R0 e (fun z => nomatch z)
  refine ⟨v, hv, k _ _ _ _ _ q ?_⟩
  obtain ⟨a, rfl, ha⟩ := h
  have e2 : Pr G δ (.rg lo hi :: τ) = Pr G δ τ := funext fun b => by
    unfold Pr
    show (_ ∨ 0 < cnt b δ + (0 + cnt b τ)) = _
    rw [Nat.zero_add]
  refine ⟨by rw [e2]; exact R0.sl, .cons ⟨a, rfl, by rw [e2]; exact ha⟩ (by rw [e2]; exact R0.tm), fun q => ?_, fun q => ?_, fun q => ?_, R0.live, R0.old, R0.dw⟩
  · show _ + (0 + cnt q τ) ≤ 1
    rw [Nat.zero_add]
    exact R0.nd q
  · show 0 < _ + (0 + cnt q τ) → _
    rw [Nat.zero_add]
    exact R0.off q
  · show 0 < _ + (0 + cnt q τ) → _
    rw [Nat.zero_add]
    exact R0.new q
theorem sg_rg (c : ch i) (n : δ.set i (.rg lo hi) = δ') (q : Rg δ' t) : DG K G (gName i) ch (.rg lo hi) δ τ t Rg := dg_any c (by rw [n]; exact q)
theorem di_rgv (q : Den K G te δ τ t fun x δ1 t1 => ∃ lo hi : Int, x = .rg lo hi ∧ (-(2 ^ 62) ≤ lo ∧ lo < 2 ^ 62 ∧ -(2 ^ 62) ≤ hi ∧ hi < 2 ^ 62) ∧ Ri (rngL lo (hi - lo).toNat) δ1 t1) : DI K G (iRgV te) δ τ t Ri := fun σ vs H Q R0 k =>
  q σ vs H _ R0 fun u H1 x δ1 t1 ⟨lo, hi, e, b, q1⟩ R1 => by
    subst e
    obtain ⟨a, rfl, ha⟩ := R1.head
    exact ⟨a, lo, hi, rfl, hid_le _ _ ha, b, k _ _ _ _ _ _ _ q1 src_rng R1.pop⟩
theorem ex_rg {P : Int → Int → Prop} (q : P lo hi) : ∃ lo' hi' : Int, Sl.rg lo hi = .rg lo' hi' ∧ P lo' hi' := ⟨lo, hi, rfl, q⟩
end
/-! ### a tuple so many times, once too -/
theorem tuple_mul1 (l : Addr) (items : Array Value) (n : Nat) (dd : Option Addr) (sl : Array (Option Value)) (u : Tok) :
    Meets (Builtin.«tuple.__mul__» ⟨[.ref l, .int 1 u], []⟩) (fun _ R s => s.heap.get? l = some { cls := .type "tuple", dict := dd, data := .seq items n, slots := sl } ∧ R (.ok (.ret (Value.ref l))) s) :=
  .of_wp fun prog w A R s h => by
    obtain ⟨hp, g, d, tk, os⟩ := s
    obtain ⟨hl, h⟩ := h
    have f1 := AutoSeq1.idx_int
    have c0 : (decide ((1 : Int) < -(2 ^ 63)) || decide ((1 : Int) ≥ 2 ^ 63)) = false := by decide
    have c1 : (items.isEmpty || (1 : Int) == 1) = true := by simp
    wp_walk using wpAny_loadPart' hl
    repeat (first
      | (refine wpAny_ite_false (decide_eq_false (by rw [c0]; exact Bool.false_ne_true)) ?_; wp_walk using wpAny_loadPart' hl)
      | (refine wpAny_ite_true (decide_eq_true c1) ?_; wp_walk using wpAny_loadPart' hl))
    exact ⟨_, rfl, h⟩
def rRepA (K : PySem.W.Frag) : R2 := fun x y H Q => ∃ l k xs, x = .ref l ∧ y = .int k ∧ SqT K H l xs ∧ xs ≠ [] ∧ 1 ≤ k ∧ k ≤ 1000 ∧ xs.length ≤ 1000 ∧ (k = 1 → Q (.ref l) H) ∧ (k ≠ 1 → ∀ p, H p = none → Q (.ref p) (upd H p (.tup (List.replicate k.toNat xs).flatten)))
section
variable {X : Cx}
theorem op_repA : OpR X (binaryOp .Mult) (rRepA X.K) := by
  intro pins s σ H x y v u Q I rx ry h
  obtain ⟨l, k, xs, rfl, rfl, hT, hne, h1, h2, hz, q1, q2⟩ := h
  by_cases hk : k = 1
  · subst hk
    cases rx
    obtain ⟨t, rfl⟩ := ry
    obtain ⟨its, r, ⟨⟨cls, dd, data, sl⟩, ho, hc, n, hd⟩, hs⟩ := I.tuple hT
    simp only at hc hd
    subst hc hd
    exact wpAny_binaryOp_repeat_ref (T := "tuple") (U := "int") (by decide) ⟨_, ho, rfl⟩ (fun s' => typeIs_int s' 1 t) noFill_tuple_mul F.fills_int_mul F.slot_int_rmul repeat_tuple F.slot_int_index.lookup
      (call_meets F.slot_int_rmul (typeIs_int s 1 t) F.entry_int_rmul (F.args_int_rmul_2 _ _) (int_rmul_tuple 1 t l its.toArray n dd sl)
        ⟨ho, rfl, ⟨_, ho, rfl⟩, call_meets F.slot_tuple_mul ⟨_, ho, rfl⟩ F.entry_tuple_mul (F.args_tuple_mul_2 _ _) (tuple_mul1 l its.toArray n dd sl t) ⟨ho, .ref l, H, I, rfl, q1 rfl⟩⟩)
  · exact op_repT pins s σ H _ _ v u Q I rx ry ⟨l, k, xs, rfl, rfl, hT, hne, by omega, h2, hz, q2 hk⟩
theorem repA_k {K : PySem.W.Frag} (e : X.K = K) : OpR X (binaryOp .Mult) (rRepA K) := by subst e; exact op_repA
end
section
variable {K : PySem.W.Frag} {G : Pa} {δ τ : List Sl} {t : Nat} {R : RX}
theorem dop_repA {ds : List PyData} {i : Int} (ne : ds ≠ []) (l : 1 ≤ i ∧ i ≤ 1000 ∧ ds.length ≤ 1000) (q : R (.dat (.tuple (List.replicate i.toNat ds).flatten)) δ t) : Dop K G (rRepA K) (.dat (.tuple ds)) (.dat (.int i)) δ τ t R := fun σ vs H u v Q R0 k => by
  obtain ⟨a, us, rfl, ha, qa⟩ := R0.h2.itemsT
  have e := qa.len
  refine ⟨a, i, us, rfl, R0.head.int, ha, fun z => ne ?_, l.1, l.2.1, by rw [e]; exact l.2.2, fun z => ?_, fun _ p n => k _ _ _ _ _ q (R0.pop.pop.tup n ((qa.rep _).mono weak2 _))⟩
  · rw [z] at e
    exact List.eq_nil_of_length_eq_zero e.symm
  · subst z
    have e1 : (List.replicate (1 : Int).toNat ds).flatten = ds := by
      show (List.replicate 1 ds).flatten = ds
      simp
    rw [e1] at q
    exact k _ _ _ _ _ q (R0.pop.pop.dat (Dq.mono weak2 _ R0.h2))
theorem dop_isB {a b : Bool} (q : R (.dat (.bool (decide (a = b)))) δ t) : Dop K G L2.rIsB (.dat (.bool a)) (.dat (.bool b)) δ τ t R := fun σ vs H u v Q R0 k =>
  ⟨a, b, R0.h2.bool, R0.head.bool, k _ _ _ _ _ q (R0.pop.pop.sc (.bl _))⟩
theorem dop_notB {a b : Bool} (q : R (.dat (.bool (!decide (a = b)))) δ t) : Dop K G L2.rNotB (.dat (.bool a)) (.dat (.bool b)) δ τ t R := fun σ vs H u v Q R0 k =>
  ⟨a, b, R0.h2.bool, R0.head.bool, k _ _ _ _ _ q (R0.pop.pop.sc (.bl _))⟩
end
end Dl

set_option Elab.async false
set_option linter.all false
set_option maxRecDepth 100000
set_option maxHeartbeats 4000000
/-! the greatest of a list of whole numbers, with a value given for none -/
namespace Dl
open PySem PySem.Spec PyProof.Rows L2 Glay Lw
theorem mxk_args (a d : Value) : argsOk "max" ⟨[a], [("default", d)]⟩ := by
  unfold argsOk
  kernel_rfl
theorem mxk_name : (toString "max" ++ toString ".loop" : String) = "max.loop" := by decide
section
variable {prog : Program} {w : World} {A : Around} {R : Result → Shared → Prop} {it : Addr} {fp wr : List Addr} {n : Nat} {P : Nat → Value → Prop} {St : Nat → Heap → Prop} {kw : List (Str × Value)}
/-- what a walk must keep -/
def Kp (wr : List Addr) (S : Addr) (h h' : Heap) : Prop := ∀ b o, b ∉ wr → b ≠ S → h.get? b = some o → h'.get? b = some o
theorem mxk_goes (K : Walks prog w A.in1 it fp wr n P St) (bt : Nat → Nat → Bool) (cmp : CmpOf prog w A.in1 .Gt P bt) (S : Addr) (nf : S ∉ fp) :
    ∀ (k j : Nat) (z : Shared) (best : Value) (c : Nat), n - (j + 1) = k → j + 1 ≤ n → St (j + 1) z.heap → P (argBest bt j) best →
    z.heap.get? S = some { cls := .type "list", dict := none, data := .seq #[best, best] c, slots := #[] } →
    (∀ v h' tk, P (argBest bt (n - 1)) v → Kp wr S z.heap h' → R (.ok (.ret v)) { z with heap := h', toks := tk }) →
    codeAny (model prog w) A (.builtin "max.loop" ⟨[.ref it, .none, .ref S], kw⟩) R z := by
  have nw : S ∉ wr := fun m => nf (K.sub _ m)
  intro k
  induction k with
  | zero =>
    intro j z best c ek le st pb at_ q
    have e1 : j + 1 = n := by omega
    refine codeAny_builtin F.entry_max_loop (by
      rw [Around.under_plainId F.plain_max_loop _]
      show wpAny _ A.in1 (seqItems? (.ref S) >>= _) _ _ z
      refine wpAny_bind (wpAny_seqItems at_ rfl ?_)
      show wpAny _ A.in1 (tryCatch (pyNext (.ref it)) _ >>= _) _ _ z
      refine wpAny_bind (wpAny_tryCatch (K.done z _ _ (e1 ▸ st) fun h' tk kp => ?_))
      have at2 := kp S _ nw at_
      show wpAny _ A.in1 (updateSeq S (fun _ => #[]) >>= _) _ _ _
      refine wpAny_bind (wpAny_updateSeq at2 rfl (wpAny_bind (wpAny_letGo (wpAny_pure ?_))))
      exact q best _ tk (by rw [← e1]; exact pb) fun b o bw bs e => (Heap.get?_update_other _ _ (Ne.symm bs)).trans (kp b o bw e))
  | succ k ih =>
    intro j z best c ek le st pb at_ q
    have lt : j + 1 < n := by omega
    refine codeAny_builtin F.entry_max_loop ?_
    rw [Around.under_plainId F.plain_max_loop _]
    show wpAny _ A.in1 (seqItems? (.ref S) >>= _) _ _ z
    refine wpAny_bind (wpAny_seqItems at_ rfl ?_)
    show wpAny _ A.in1 (tryCatch (pyNext (.ref it)) _ >>= _) _ _ z
    refine wpAny_bind (wpAny_tryCatch (K.item (j + 1) z _ _ lt st fun v h' tk pv st' kp => ?_))
    have at2 := kp S _ nw at_
    show wpAny _ A.in1 (tryCatch (holding [v, v] (richCompare .Gt v best >>= _)) _ >>= _) _ _ _
    refine wpAny_bind (wpAny_tryCatch (wpAny_holding (wpAny_bind (cmp (j + 1) (argBest bt j) v best _ _ _ pv pb ?_))))
    refine wpAny_bind (wpAny_holding (wpAny_truthy_bool (wpAny_bind (wpAny_letGo (wpAny_pure ?_)))))
    cases eb : bt (j + 1) (argBest bt j) with
    | true =>
      simp only [if_true]
      refine wpAny_bind (wpAny_updateSeq at2 rfl (wpAny_bind (wpAny_letGo ?_)))
      rw [mxk_name]
      refine wpAny_pure ⟨plainId_quiet F.plain_max_loop _, ih (j + 1) _ v _ (by omega) lt (K.frame _ _ _ st' fun b bf o e => ?a) (by simp only [argBest, eb, if_true]; exact pv) (Heap.get?_update_self _ at2 rfl) fun v' h'' tk'' pv' kp' => ?b⟩
      case a => exact (Heap.get?_update_other _ _ (fun h : S = b => nf (by rw [h]; exact bf))).trans e
      case b => exact q v' h'' tk'' pv' fun b o bw bs e => kp' b o bw bs ((Heap.get?_update_other _ _ (Ne.symm bs)).trans (kp b o bw e))
    | false =>
      simp only [Bool.false_eq_true, if_false]
      refine wpAny_bind (wpAny_letGo ?_)
      rw [mxk_name]
      exact wpAny_pure ⟨plainId_quiet F.plain_max_loop _, ih (j + 1) _ best c (by omega) lt st' (by simp only [argBest, eb, Bool.false_eq_true, if_false]; exact pb) at2 fun v' h'' tk'' pv' kp' => q v' h'' tk'' pv' fun b o bw bs e => kp' b o bw bs (kp b o bw e)⟩
theorem mxk_start (K : Walks prog w A.in1 it fp wr n P St) (bt : Nat → Nat → Bool) (cmp : CmpOf prog w A.in1 .Gt P bt) (S : Addr) (nf : S ∉ fp) {d : Value} {z : Shared} {c : Nat} (st : St 0 z.heap)
    (at_ : z.heap.get? S = some { cls := .type "list", dict := none, data := .seq #[] c, slots := #[] })
    (q : ∀ v h' tk, (n = 0 → v = d) → (0 < n → P (argBest bt (n - 1)) v) → Kp wr S z.heap h' → R (.ok (.ret v)) { z with heap := h', toks := tk }) :
    codeAny (model prog w) A (.builtin "max.loop" ⟨[.ref it, .none, .ref S], [("default", d)]⟩) R z := by
  have nw : S ∉ wr := fun m => nf (K.sub _ m)
  refine codeAny_builtin F.entry_max_loop ?_
  rw [Around.under_plainId F.plain_max_loop _]
  show wpAny _ A.in1 (seqItems? (.ref S) >>= _) _ _ z
  refine wpAny_bind (wpAny_seqItems at_ rfl ?_)
  show wpAny _ A.in1 (tryCatch (pyNext (.ref it)) _ >>= _) _ _ z
  cases n with
  | zero =>
    refine wpAny_bind (wpAny_tryCatch (K.done z _ _ st fun h' tk kp => ?_))
    show wpAny _ A.in1 (rule _ >>= _) _ _ _
    refine wpAny_bind (wpAny_rule (wpAny_pure ?_))
    exact q d h' tk (fun _ => rfl) (fun h => absurd h (Nat.lt_irrefl 0)) fun b o bw _ e => kp b o bw e
  | succ n =>
    refine wpAny_bind (wpAny_tryCatch (K.item 0 z _ _ (Nat.succ_pos n) st fun v h' tk pv st' kp => ?_))
    have at2 := kp S _ nw at_
    show wpAny _ A.in1 (updateSeq S (fun _ => #[v, v]) >>= _) _ _ _
    refine wpAny_bind (wpAny_updateSeq at2 rfl ?_)
    rw [mxk_name]
    refine wpAny_pure ⟨plainId_quiet F.plain_max_loop _, mxk_goes K bt cmp S nf _ 0 _ v _ rfl (Nat.succ_pos n) (K.frame _ _ _ st' fun b bf o e => ?a) pv (Heap.get?_update_self _ at2 rfl) fun v' h'' tk'' pv' kp' => ?b⟩
    case a => exact (Heap.get?_update_other _ _ (fun h : S = b => nf (by rw [h]; exact bf))).trans e
    case b => exact q v' h'' tk'' (fun h => absurd h (Nat.succ_ne_zero n)) (fun _ => pv') fun b o bw bs e => kp' b o bw bs ((Heap.get?_update_other _ _ (Ne.symm bs)).trans (kp b o bw e))
end
section
variable {prog : Program} {w : World} {A : Around} {E : Value → Shared → Prop} {s : Shared} {l : Addr} {d : Value} {Q : Value → Shared → Prop}
theorem mxk_ints {xs : Array (Int × Tok)} (hh : A.handled = none) (hl : s.heap.IsList l (intItems xs))
    (h : ∀ v h' tk, (xs.size = 0 → v = d) → (0 < xs.size → (intItems xs)[argBest (fun i j => decide (numAt xs i > numAt xs j)) (xs.size - 1)]? = some v) → (∀ b o, s.heap.get? b = some o → h'.get? b = some o) → Q v { s with heap := h', toks := tk }) :
    wpAny (model prog w) A (call (.builtin "max") [.ref l] [("default", d)]) Q E s := by
  refine wpAny_call (codeAny_call_builtin F.plain_max F.entry_max ?_)
  have go : wpAny (model prog w) A.in1 (Builtin.«max» ⟨[.ref l], [("default", d)]⟩) (fun fin s' => match fin with
      | .done f => (match (Except.ok f : Result) with | .ok (.ret v) => Q v s' | .ok _ => False | .error e => E e s')
      | .again c' => c'.quiet = true ∧ codeAny (model prog w) A c' (fun r s' => match r with | .ok (.ret v) => Q v s' | .ok _ => False | .error e => E e s') s') E s := by
    show wpAny _ A.in1 (Builtin.Builtins.bindParams "max" ["key", "default"] 0 ⟨[], [("default", d)]⟩ >>= _) _ _ s
    refine wpAny_bind (wpAny_of_eq (show Builtin.Builtins.bindParams "max" ["key", "default"] 0 ⟨[], [("default", d)]⟩ = pure [none, some d] from rfl) ?_)
    refine wpAny_bind (wpAny_pure ?_)
    refine wpAny_bind (iter_intList hl fun s₂ e st hfp hlI => ?_)
    subst e
    refine wpAny_bind (wpAny_newObj_type ?_)
    rw [mxk_name]
    refine wpAny_pure ⟨plainId_quiet F.plain_max_loop _, mxk_start (Walks.list (A := A.in1) hh _ l hlI (intItems xs)) (fun i j => decide (numAt xs i > numAt xs j)) (CmpOf.ints_gt (numAt xs) (fun _ _ => intItems_at)) _ ?n (d := d) ?st (Heap.get?_push_size _ rfl) fun v h' tk h0 h1 kp => ?q⟩
    case n => exact fun m => Nat.lt_irrefl _ (hfp _ m)
    case st => exact (Walks.list (prog := prog) (w := w) (A := A.in1) hh _ l hlI (intItems xs)).frame _ _ _ st fun b _ o e => Heap.get?_push_of_some _ e
    case q =>
      refine h v h' tk (fun z => h0 (by simpa [intItems] using z)) (fun z => by simpa [intItems] using h1 (by simpa [intItems] using z)) fun b o e => ?_
      refine old_kept (s := s) (l := l) (h' := h') (fun b o m e => kp b o m (Nat.ne_of_lt (Heap.lt_size e)) (Heap.get?_push_of_some _ e)) b o e
  simp only [checkBuiltinCall, F.kind_max]
  cases hsig : Manifest.signature? "max" with
  | none => exact wpAny_pure go
  | some sig =>
    have ha' : Bind.checkArgs "max" sig ⟨[.ref l], [("default", d)]⟩ = pure () := by
      have := mxk_args (.ref l) d
      simpa only [argsOk, hsig] using this
    simp only [ha']
    exact wpAny_pure go
end
end Dl

set_option Elab.async false
set_option linter.all false
set_option maxRecDepth 100000
set_option maxHeartbeats 4000000
/-! enumerate of a tuple; the greatest of a list with a value for none -/
namespace Dl
open PySem PySem.Spec PyProof.Rows L2 Glay Lw
open AutoSeq1 (wpAny_loadPart')
/-- the tuple's iterator, then the pairs' one -/
def enI (h : Heap) (l : Addr) : Heap := h.push { cls := .type "tuple_iterator", data := .fields #[.ref l, .int 0 0] }
def enH (h : Heap) (l : Addr) : Heap := (enI h l).push { cls := .type "enumerate", data := .fields #[.none, .bool false, .ref h.objs.size, rawInt 0, .none, .none] }
theorem enT_new (l : Addr) (its : Array Value) (n : Nat) (dc : Option Addr) (sl : Array (Option Value)) :
    Meets (Builtin.«enumerate.__new__» ⟨[.type "enumerate", .ref l], []⟩) (fun _ R s => s.heap.get? l = some { cls := .type "tuple", dict := dc, data := .seq its n, slots := sl } ∧ R (.ok (.ret (.ref (enI s.heap l).objs.size))) { s with heap := enH s.heap l }) :=
  .of_wp fun prog w A R s z => by
    obtain ⟨hp, g, d, tk, os⟩ := s
    obtain ⟨e0, z⟩ := z
    have hsub := sub_enumerate
    have tl : Heap.IsTuple (Shared.heap ⟨hp, g, d, tk, os⟩) l its := ⟨_, e0, rfl, n, rfl⟩
    wp_walk using wpAny_loadPart' e0
    refine wpAny_stack_any fun st => wpAny_pure ?_
    split
    · rename_i c _ _ _ _ _
      cases (c == Value.type "enumerate") <;>
      · wp_walk using wpAny_loadPart' e0, wpAny_pyIter_tuple tl
        exact ⟨_, rfl, z⟩
    · wp_walk using wpAny_loadPart' e0, wpAny_pyIter_tuple tl
      exact ⟨_, rfl, z⟩
section
variable {prog : Program} {w : World} {A : Around} {E : Value → Shared → Prop} {s : Shared}
theorem enT_call {l : Addr} {its : Array Value} {Q : Value → Shared → Prop} (hL : s.heap.IsTuple l its)
    (q : ∀ h', IsEnum h' (s.heap.objs.size + 1) s.heap.objs.size 0 .none → h'.IsTupleIter s.heap.objs.size l 0 → (∀ b o, s.heap.get? b = some o → h'.get? b = some o) → Q (.ref (s.heap.objs.size + 1)) { s with heap := h' }) :
    wpAny (model prog w) A (call (.type "enumerate") [.ref l]) Q E s := by
  obtain ⟨⟨c, dc, dt, sl⟩, e0, ec, n, ed⟩ := hL
  replace ec : c = .type "tuple" := ec
  replace ed : dt = .seq its n := ed
  subst ec ed
  refine callType_new F.called_enumerate (by decide) (F.typeCall_enumerate_1 _) (F.newCall_enumerate_1 _) (fun obj => F.args_object_init_2 obj _) F.entry_enumerate_new (enT_new l its n dc sl) ⟨e0, ?_⟩
  have ez : (enI s.heap l).objs.size = s.heap.objs.size + 1 := Heap.size_push ..
  show _ ∧ _
  rw [ez]
  have en : IsEnum (enH s.heap l) (s.heap.objs.size + 1) s.heap.objs.size 0 .none := by
    have := Heap.get?_push_size (enI s.heap l) (o := { cls := .type "enumerate", data := .fields #[.none, .bool false, .ref s.heap.objs.size, rawInt 0, .none, .none] }) rfl
    rw [ez] at this
    exact this
  exact ⟨⟨_, en, rfl⟩, q _ en ⟨_, Heap.get?_push_of_some _ (Heap.get?_push_size _ rfl), rfl, rfl⟩ fun b o x => Heap.get?_push_of_some _ (Heap.get?_push_of_some _ x)⟩
end
theorem enT_draws {prog : Program} {w : World} {A : Around} (hh : A.handled = none) (it l : Addr) (ne : l ≠ it) (its : Array Value) :
    Draws prog w A it [it, l] its.size (fun i v => its[i]? = some v) (fun i h => h.IsTupleIter it l i ∧ h.IsTuple l its) where
  live := fun _ _ st => ⟨_, st.1.choose_spec.1⟩
  frame := fun _ _ _ st k => ⟨st.1.at fun o e => k it (by simp) o e, let ⟨o, e, r⟩ := st.2; ⟨o, k l (by simp) o e, r⟩⟩
  item := fun i s Q E hi st q => RZ.nextOf_tuple_item st.1 st.2 (x := its[i]) (by simp [hi]) fun h' it' sb => q _ h' s.toks (by simp [hi]) ⟨it', st.2.extBut sb.extBut ne⟩ sb
  done := fun s Q E st q => RZ.nextOf_tuple_end hh st.1 st.2 (by simp) q
/-- the tuple at a, each item in a new pair -/
def IteT (K : PySem.W.Frag) (a : Addr) : It :=
  ⟨fun i H => ∃ (xs : List V) (x : V), SqT K H a xs ∧ xs[i]? = some x, fun i H v H' => ∃ T x, v = .ref T ∧ H T = none ∧ H' = upd H T (.tup [.int (i : Nat), x]) ∧ ∀ xs, SqT K H a xs → xs[i]? = some x, fun i H => ∃ xs : List V, SqT K H a xs ∧ xs.length = i⟩
theorem enT_turn {P : Program} {w : World} {K : PySem.W.Frag} {elts : List Expr} {kk : Nat} {tpos : Pos} (a e it : Addr) :
    Turn P w K (.Tuple elts kk tpos) (IteT K a) [e, it] e (fun i h => (∃ old, IsEnum h e it ((i : Nat) : Int) old) ∧ h.IsTupleIter it a i ∧ e ≠ it ∧ a ≠ it ∧ a ≠ e) where
  mem := List.mem_cons_self ..
  obj := fun i h st b hb => by
    obtain ⟨⟨old, he⟩, ⟨o, ho, hc, hd⟩, _⟩ := st
    rcases List.mem_cons.mp hb with z | z
    · subst z
      exact ⟨_, he, fun v q => nomatch q⟩
    · have z := List.mem_singleton.mp z
      subst z
      exact ⟨o, ho, fun v q => by rw [hd] at q; cases q⟩
  keep := fun i h h' st k => let ⟨⟨old, he⟩, hi, n1, n2, n3⟩ := st; ⟨⟨old, k e (by simp) _ he⟩, hi.at fun o q => k it (by simp) o q, n1, n2, n3⟩
  item := by
    rintro X rfl rfl rfl hc i pins s σ H E I hf ⟨⟨old, he⟩, hi, n1, n2, n3⟩ ⟨xs, x, hq, hx⟩
    obtain ⟨its, rv, p, hz⟩ := I.tuple hq
    obtain ⟨u, hu, ru⟩ := rv.get hx
    have le : e < s.heap.objs.size := Heap.lt_size he
    have li : it < s.heap.objs.size := Heap.lt_size hi.choose_spec.1
    have lt : i < its.toArray.size := by
      have := (List.getElem?_eq_some_iff.mp hu).1
      simpa using this
    refine wpAny_pyNext_enum_itemD (enT_draws (A := X.A.in1) (I.ok.hd hc) it a n2 its.toArray) he ⟨hi, p⟩ lt n1 (by simp [n1, n3.symm]) fun y h' tk py ho hs hT hsz hk => ?_
    have ey : y = u := by
      have : some y = some u := py.symm.trans (by simpa using hu)
      exact Option.some.inj this
    subst ey
    refine ⟨_, rfl, wpAny_letOwnedTupleGo_enum (s := { s with heap := h', toks := tk + 1 }) ho fun h2 he2 sb => ?_⟩
    have hT2 : h2.get? s.heap.objs.size = some { cls := .type "tuple", data := .seq #[.int i tk, y] } := (sb.2 _ (Nat.ne_of_gt le)).trans hT
    have new : ObjOk X.prog X.w (upd H s.heap.objs.size (.tup [.int (i : Nat), x])) h2 s.heap.objs.size (.tup [.int (i : Nat), x]) := ⟨by show 2 ≤ sizeLine; decide, [.int i tk, y], .cons ⟨_, rfl⟩ (.cons ru .nil), ⟨_, hT2, rfl, _, rfl⟩⟩
    have I2 : Inv X pins σ (upd H s.heap.objs.size (.tup [.int (i : Nat), x])) { s with heap := h2, toks := tk + 1 } :=
      I.turnedNew (ch := [e, it]) (fun b ob nb q => (sb.2 b (fun z => nb (by simp [z]))).trans (hk b ob (fun z => nb (by simp [z])) (fun z => nb (by simp [z])) q)) hf (Nat.le_refl _) new
    refine ⟨.ref s.heap.objs.size, _, I2, rfl, ⟨_, x, rfl, I.hok.fresh (Nat.le_refl _), rfl, fun ys hy => by rw [I.tuple_inj hy hq]; exact hx⟩, ⟨⟨y, ?e⟩, hs.1.at fun o q => (sb.2 it n1.symm).trans q, n1, n2, n3⟩, fun b hb => ?n⟩
    case e =>
      have e1 : ((i + 1 : Nat) : Int) = (i : Int) + 1 := by omega
      rw [e1]
      exact he2
    case n =>
      have lb : b < s.heap.objs.size := by
        rcases List.mem_cons.mp hb with z | z
        · exact z ▸ le
        · exact (List.mem_singleton.mp z) ▸ li
      rw [upd_ne (Nat.ne_of_lt lb)]
      exact (hf b hb).1
  done := by
    rintro X rfl rfl rfl hc i pins s σ H E I hf ⟨⟨old, he⟩, hi, n1, n2, n3⟩ ⟨xs, hq, hx⟩
    obtain ⟨its, rv, p, hz⟩ := I.tuple hq
    obtain ⟨f0, f1, f2, f3, f4, f5⟩ := hf it (by simp)
    have ei : i = its.toArray.size := by
      have := rv.length
      simp only [List.size_toArray]
      omega
    refine wpAny_pyNext_enum_endD (enT_draws (A := X.A.in1) (I.ok.hd hc) it a n2 its.toArray) he ⟨ei ▸ hi, p⟩ fun h' eb => ⟨rfl, I.turned (t' := s.toks) (fun b o nb q => eb b o nb q) f0 f1 f3 f4 f5⟩
  self := fun A i s Q E st q => wpAny_pyIter_enum st.1.choose_spec q
def iEnT (K : PySem.W.Frag) (ta : TA) : TI := fun σ H R => ta σ H fun vs H1 => ∃ a xs, vs = [.ref a] ∧ SqT K H1 a xs ∧ R (IteT K a) H1
theorem pi_enT {X : Cx} {e : Expr} {ta : TA} {p pos tpos : Pos} {elts : List Expr} {kk : Nat} {K : PySem.W.Frag} (eK : X.K = K) (hg : Gl X "enumerate") (hm : X.mg "enumerate" = none) (ha : PA X [e] ta) (hs : starEach [e] X.env = [(false, eval e X.env)] := by rfl) :
    PI X (.Tuple elts kk tpos) (.Call (.Name "enumerate" p) [e] [] pos) (iEnT K ta) := by
  subst eK
  refine ⟨fun pins s σ H R I h => Call_ (ld_blt I hg hm boot_enumerate (PyProof.Rows.callWith_type1 (thn (ha.run pos pins s σ H _ I h) fun us s1 ⟨vs, H1, I1, r1, a, xs, ex, hq, q⟩ => ?_) hs rfl))⟩
  subst ex
  cases r1 with
  | cons r rr =>
    cases rr
    cases r
    obtain ⟨its, rv, tp, hz⟩ := I1.tuple hq
    have la : a < s1.heap.objs.size := Heap.lt_size tp.choose_spec.1
    refine enT_call tp fun h' he hit hk => wpAny_pyIter_enum he ?_
    refine ⟨s1.heap.objs.size + 1, [s1.heap.objs.size + 1, s1.heap.objs.size], _, _, H1, rfl, I1.kept (t' := s1.toks) hk, enT_turn a (s1.heap.objs.size + 1) s1.heap.objs.size, ⟨⟨.none, he⟩, hit, Nat.succ_ne_self _, Nat.ne_of_lt la, Nat.ne_of_lt (Nat.lt_succ_of_lt la)⟩, fun b hb => ?_, q⟩
    have hle : s1.heap.objs.size ≤ b := by
      rcases List.mem_cons.mp hb with z | z
      · rw [z]; exact Nat.le_add_right _ _
      · rw [List.mem_singleton.mp z]; exact Nat.le_refl _
    exact I1.fpOk hle (I1.hok.fresh hle)
/-! readings -/
/-- the places and the items -/
def enD (L : List PyData) : List PyData := zipD (rngL 0 L.length) L
theorem enD_len (L : List PyData) : (enD L).length = L.length := by
  show (zipD _ _).length = _
  rw [zipD_len, rngL_len]
  omega
section
variable {K : PySem.W.Frag} {G : Pa} {δ τ : List Sl} {t : Nat} {R : RX} {te : TE} {ta tk : TA}
theorem src_enT {a : Addr} {L : List PyData} : Src K G (IteT K a) [.dat (.tuple L)] [.ref a] (enD L) := by
  refine ⟨rfl, fun _ => rfl, fun i H δ τ τ0 t σ vs vs0 l0 R0 => ?_⟩
  obtain ⟨p, ws, ea, hw, hq⟩ := RV.itemsT (R0.nth (pin := []) (pv := []) l0)
  cases ea
  rw [enD_len]
  refine ⟨fun hi => ⟨?_, fun x H' d hd hy => ?_⟩, fun hi => ⟨ws, hw, by rw [hq.len]; omega⟩⟩
  · obtain ⟨v, hv, _⟩ := hq.get (List.getElem?_eq_getElem (show i < L.length by omega))
    exact ⟨ws, v, hw, hv⟩
  · obtain ⟨T, x1, rfl, nT, rfl, e1⟩ := hy
    obtain ⟨x0, y0, hx0, hy0, rfl⟩ := zipD_at hd
    obtain ⟨v, hv, qv⟩ := hq.get hy0
    have := e1 ws hw
    rw [hv] at this
    cases this
    have e0 : x0 = .int (i : Nat) := by
      rw [(rngL_at hx0).2, Int.zero_add]
    subst e0
    exact R0.tup nT (.cons (.int _) (.cons qv .nil))
theorem di_enT {Ri : List PyData → List Sl → Nat → Prop} (q : DenA K G ta δ τ t fun xs δ1 t1 => ∃ L, xs = [.dat (.tuple L)] ∧ Ri (enD L) δ1 t1) : DI K G (iEnT K ta) δ τ t Ri := fun σ vs H Q R0 k =>
  q σ vs H _ R0 fun us H1 xs δ1 t1 ⟨L, e, q1⟩ l R1 => by
    subst e
    obtain ⟨u, rfl⟩ := one_arg (xs := []) l
    obtain ⟨p, ws, rfl, hp, _⟩ := RV.itemsT R1.head
    exact ⟨p, ws, rfl, hp, k _ _ _ _ _ _ _ q1 src_enT R1⟩
end
/-! max with a value for none -/
section
variable {prog : Program} {w : World} {A : Around} {E : Value → Shared → Prop} {s : Shared} {l : Addr} {Q : Value → Shared → Prop} {its : List Value} {ns : List Int}
/-- what the greatest is -/
def MxD (ns : List Int) (d m : Int) : Prop := (ns = [] ∧ m = d) ∨ (m ∈ ns ∧ ∀ y, y ∈ ns → y ≤ m)
theorem mxk_raw {d0 : Int} {t0 : Tok} (hh : A.handled = none) (hl : s.heap.IsList l its.toArray) (hi : IntsAre its ns)
    (q : ∀ h' tk m t', (∀ b o, s.heap.get? b = some o → h'.get? b = some o) → MxD ns d0 m → Q (.int m t') { s with heap := h', toks := tk }) :
    wpAny (model prog w) A (call (.builtin "max") [.ref l] [("default", .int d0 t0)]) Q E s := by
  obtain ⟨xs, e⟩ := hi.allInts.items
  have en : numsOf (intItems xs).toList = ns := e ▸ hi.numsOf
  rw [nums_intItems] at en
  subst en
  rw [e] at hl
  refine mxk_ints (d := .int d0 t0) hh hl fun v h' tk h0 h1 kp => ?_
  by_cases z : xs.size = 0
  · rw [h0 z]
    exact q h' tk d0 t0 kp (.inl ⟨by simpa using z, rfl⟩)
  · have hv := h1 (by omega)
    obtain ⟨t, rfl⟩ := intItems_at hv
    obtain ⟨g1, g2⟩ := argBest_gt (numAt xs) (xs.size - 1)
    refine q h' tk _ t kp (.inr ⟨?_, fun a ha => ?_⟩)
    · rw [numAt_eq]
      exact PySem.getD_mem (by rw [List.length_map, Array.length_toList]; omega)
    · obtain ⟨j, lj, rfl⟩ := mem_getD ha
      rw [List.length_map, Array.length_toList] at lj
      exact numAt_eq .. ▸ g2 j (by omega)
end
def tMaxD (K : PySem.W.Frag) (ta tk : TA) : TE := fun σ H Q => ta σ H fun vs H1 => tk σ H1 fun zs H2 => ∃ (a : Addr) (ns : List Int) (d : Int), vs = [.ref a] ∧ zs = [.int d] ∧ SqL K H2 a (ns.map V.int) ∧ ∀ m, MxD ns d m → Q (.int m) H2
theorem pe_maxd {X : Cx} {K : PySem.W.Frag} {e ed : Expr} {p kp pos : Pos} {ta : TA} {td : TE} (eK : X.K = K) (hc : X.calm = true) (hg : Gl X "max") (hm : X.mg "max" = none) (hv : bootBuiltins "max" = some (.builtin "max")) (ha : PA X [e] ta) (hd : PE X ed td)
    (he : backTo pos (starEach (e :: []) X.env) = (false, eval e X.env) :: backTo pos (starEach [] X.env) := by rfl) (hpl : (backTo pos (starEach (e :: []) X.env)).any (·.1) = false := by rfl) :
    PE X (.Call (.Name "max" p) [e] [⟨some "default", ed, kp⟩] pos) (tMaxD K ta (tCons td tNil)) := by
  subst eK
  refine ⟨fun pins s σ H Q I h => wpAny_Call_Name_kw (ld_blt I hg hm hv ?_ (by decide) (by decide))⟩
  refine PyProof.Rows.callWith_kw (thn (ha.run pos pins s σ H _ I h) fun us s1 ⟨vs, H1, I1, r1, q1⟩ => thn ((pk_cons hd pk_nil).run pos pins s1 σ H1 _ I1 q1) fun ws s2 ⟨zs, H2, I2, r2, a, ns, d, e1, e2, hS, q2⟩ => ?_) he hpl rfl rfl
  subst e1 e2
  obtain rfl := Vals.ref1 r1
  obtain ⟨u, rfl, t, rfl⟩ := vals1 r2
  obtain ⟨its, rv, hl, _⟩ := I2.list hS
  exact mxk_raw (I2.ok.hd hc) hl.isList rv.ints fun h' tk m t' kp hm => ⟨.int m, H2, I2.kept kp, ⟨_, rfl⟩, q2 m hm⟩
section
variable {K : PySem.W.Frag} {G : Pa} {δ τ : List Sl} {t : Nat} {R : RX} {ta tk : TA}
theorem den_maxd (q : DenA K G ta δ τ t fun xs δ1 t1 => DenA K G tk δ1 (xs ++ τ) t1 fun zs δ2 t2 => ∃ (x : Sl) (ns : List Int) (d : Int), xs = [x] ∧ zs = [.dat (.int d)] ∧ x.dv = some (.list (ns.map .int)) ∧ ∀ m, MxD ns d m → R (.dat (.int m)) δ2 t2) :
    Den K G (tMaxD K ta tk) δ τ t R := fun σ vs H Q R0 k =>
  q σ vs H _ R0 fun us H1 xs δ1 t1 q1 l R1 => q1 σ (us ++ vs) H1 _ R1 fun ws H2 zs δ2 t2 ⟨x, ns, d, ex, ez, hx, q2⟩ l2 R2 => by
    subst ex ez
    obtain ⟨u, rfl⟩ := one_arg (xs := []) l
    obtain ⟨v, rfl⟩ := one_arg (xs := []) l2
    have R3 : Rl K G δ2 (.dat (.int d) :: x :: τ) t2 σ (v :: u :: vs) H2 := R2
    obtain ⟨p, ws, rfl, hp, hq⟩ := RV.items R3.h2 hx
    rw [hq.ints_of] at hp
    refine ⟨p, ns, d, rfl, by rw [RV.int R3.head], SqL.of hp, fun m hm => k _ _ _ _ _ (q2 m hm) (R3.pop.pop.sc (.int _))⟩
end
section
variable {K : PySem.W.Frag} {G : Pa} {δ τ : List Sl} {t : Nat} {R : RX}
/-- list(own list): both stay -/
theorem se_listO {i : Nat} {p : Addr} {xs : List PyData} (e : sget δ i = some (.own p xs)) (q : ∀ p', R (.own p' xs) δ t) : Den K G (tCB (rListOf K) (tCons (tOwn i) tNil)) δ τ t R := fun σ vs H Q R0 k => by
  obtain ⟨hv, us, hp, hq⟩ := own_at R0 (by rw [← sget_eq]; exact e)
  exact ⟨.ref p, hv, p, us, rfl, .inl (SqL.of hp), fun a n => k _ _ _ _ _ (q a) (R0.lst n hq)⟩
theorem ex_T1 {P : List PyData → Prop} {d : List PyData} (q : P d) : ∃ d', [Sl.dat (PyData.tuple d)] = [.dat (.tuple d')] ∧ P d' := ⟨d, rfl, q⟩
end
end Dl

set_option Elab.async false
set_option linter.all false
set_option maxRecDepth 100000
set_option maxHeartbeats 4000000
/-! t[c::2] and sum(t), t a tuple -/
namespace Dl
open PySem PySem.Spec PyProof.Rows L2 Glay Lw HT
/-- every second one, the first among them -/
def skip2 {α : Type} : List α → List α
  | [] => []
  | [a] => [a]
  | a :: _ :: l => a :: skip2 l
theorem skip2_pick {α : Type} : ∀ l : List α, (List.range ((l.length + 1) / 2)).filterMap (fun k => l[2 * k]?) = skip2 l
  | [] => by simp [skip2]
  | [a] => by simp [skip2, List.range_succ]
  | a :: b :: l => by
    have e : ((a :: b :: l).length + 1) / 2 = (l.length + 1) / 2 + 1 := by
      simp only [List.length_cons]
      omega
    rw [e, List.range_succ_eq_map, List.filterMap_cons]
    show a :: List.filterMap _ (List.map _ _) = a :: skip2 l
    rw [List.filterMap_map, ← skip2_pick l]
    rfl
theorem skip2_len {α : Type} : ∀ l : List α, (skip2 l).length ≤ l.length
  | [] => Nat.le_refl _
  | [a] => Nat.le_refl _
  | a :: b :: l => by
    have := skip2_len l
    simp only [skip2, List.length_cons]
    omega
theorem skip2_map {α β : Type} (f : α → β) : ∀ l : List α, skip2 (l.map f) = (skip2 l).map f
  | [] => rfl
  | [a] => rfl
  | a :: b :: l => by
    show f a :: skip2 (l.map f) = f a :: (skip2 l).map f
    rw [skip2_map f l]
/-- so many places -/
def plc (n c : Nat) : Nat := (n - c + 1) / 2
theorem pick_skip (xs : Array Value) (c : Nat) : ((List.range (plc xs.size c)).filterMap fun (k : Nat) => xs[(min (c : Int) (xs.size : Int) + (k : Int) * 2).toNat]?).toArray = (skip2 (xs.toList.drop c)).toArray := by
  congr 1
  have h := skip2_pick (xs.toList.drop c)
  rw [List.length_drop, Array.length_toList] at h
  rw [← h]
  unfold plc
  by_cases z : c ≤ xs.size
  · congr 1
    funext k
    rw [List.getElem?_drop, Array.getElem?_toList]
    congr 1
    omega
  · rw [show (xs.size - c + 1) / 2 = 0 by omega]
    rfl
section
variable {prog : Program} {w : World} {A : Around} {E : Value → Shared → Prop} {s : Shared}
theorem sliceApplied_skip {sl : Addr} {n c : Nat} {tk : Tok} {vl vu : Value} {Q : Int × Int × Nat → Shared → Prop} (hs : s.heap.IsSliceOf sl vl vu (.int 2 tk)) (pl : IsPart vl (some (c : Int))) (pu : IsPart vu none) (h : Q (min (c : Int) (n : Int), 2, plc n c) s) :
    wpAny (model prog w) A (Builtin.Slice.sliceApplied (.ref sl) (pure (n : Int))) Q E s := by
  obtain ⟨os, hos, hcs, hds⟩ := id hs
  unfold Builtin.Slice.sliceApplied Builtin.Slice.sliceFields
  refine wpAny_bind (wpAny_bind (wpAny_field hos hds (x := vl) rfl (wpAny_bind (wpAny_field hos hds (x := vu) rfl (wpAny_bind (wpAny_field hos hds (x := .int 2 tk) rfl (wpAny_pure ?_)))))))
  refine wpAny_bind (slicePart_ (.int 2 tk) ?_)
  show wpAny _ _ (if ((2 : Int) == 0) = true then _ else _) _ _ s
  rw [if_neg (by decide)]
  refine wpAny_bind (slicePart_ pl (wpAny_bind (slicePart_ pu (wpAny_bind (wpAny_pure ?_)))))
  show wpAny _ _ (pure ((if (c : Int) < 0 then max ((c : Int) + (n : Int)) 0 else min (c : Int) (n : Int)), (2 : Int), Builtin.Slice.slicePlaces (if (c : Int) < 0 then max ((c : Int) + (n : Int)) 0 else min (c : Int) (n : Int)) (n : Int) 2)) _ _ s
  rw [if_neg (by omega)]
  have e : Builtin.Slice.slicePlaces (min (c : Int) (n : Int)) (n : Int) 2 = plc n c := by
    unfold Builtin.Slice.slicePlaces plc
    rw [if_pos (by decide)]
    by_cases z : min (c : Int) (n : Int) < (n : Int)
    · rw [if_pos z]
      omega
    · rw [if_neg z]
      omega
  rw [e]
  exact wpAny_pure h
theorem getItem_tuple_skip {t sl : Addr} {items : Array Value} {c : Nat} {vl vu : Value} {tk : Tok} {Q : Value → Shared → Prop} (ht : IsTup s.heap t items) (hs : s.heap.IsSliceOf sl vl vu (.int 2 tk)) (pl : IsPart vl (some (c : Int))) (pu : IsPart vu none)
    (h : Q (.ref s.heap.objs.size) { s with heap := s.heap.push { cls := .type "tuple", data := .seq (skip2 (items.toList.drop c)).toArray } })
    (hsz : items.size ≤ sizeLine) : wpAny (model prog w) A (getItem (.ref t) (.ref sl)) Q E s := by
  have htake : sizeOk (.seq (skip2 (items.toList.drop c)).toArray) := by
    show (skip2 (items.toList.drop c)).toArray.size ≤ sizeLine
    have := skip2_len (items.toList.drop c)
    rw [List.length_drop, Array.length_toList (xs := items)] at this
    rw [List.size_toArray]
    omega
  obtain ⟨os, hos, hcs, hds⟩ := id hs
  have hTs : s.TypeIs (.ref sl) "slice" := ⟨os, hos, hcs⟩
  unfold getItem
  try with_reducible refine wpAny_holding ?_
  first | refine wpAny_bind (wpAny_pure ?_) | skip
  refine wpAny_bind (wpAny_sequenceKey ht.typeIs (by decide) ?_)
  refine wpAny_bind (wpAny_callSpecial?_slot (name := Str.ofString "__getitem__") ht.typeIs PyProof.Rows.slot_tuple_getitem
    (wpAny_call_entry PyProof.Rows.slot_tuple_getitem ht.typeIs entry_tuple_getitem ?_ (args_tuple_getitem _ _)))
  show wpAny _ _ (Builtin.Tuple.tupleItemsOf (.ref t) >>= _) _ _ s
  refine wpAny_bind (tupleItemsOf_ ht ?_)
  refine wpAny_bind (wpAny_typeOf hTs ?_)
  rw [if_pos (by decide)]
  refine wpAny_bind (sliceApplied_skip hs pl pu ?_)
  have hno : ¬ (((min (c : Int) (items.size : Int) == 0) && (2 : Int) == 1 && plc items.size c == items.size) = true) := by
    intro q
    rw [Bool.and_eq_true, Bool.and_eq_true] at q
    exact absurd q.1.2 (by decide)
  show wpAny _ _ (if ((min (c : Int) (items.size : Int) == 0) && (2 : Int) == 1 && plc items.size c == items.size) = true then _ else _) _ _ s
  rw [if_neg hno, pick_skip]
  first
    | exact wpAny_bind (m := Builtin.Tuple.tupleExact _) (wpAny_newObj_type (wpAny_pure ⟨_, rfl, wpAny_pure h⟩) htake)
    | exact wpAny_bind (m := Builtin.Tuple.tupleExact _) (wpAny_newObj_type (wpAny_bind (wpAny_pure (wpAny_pure ⟨_, rfl, wpAny_pure h⟩))) htake)
    | exact wpAny_bind (wpAny_bind (m := Builtin.Tuple.tupleExact _) (wpAny_newObj_type (wpAny_pure (wpAny_pure ⟨_, rfl, wpAny_pure h⟩)) htake))
    | exact wpAny_bind (wpAny_bind (m := Builtin.Tuple.tupleExact _) (wpAny_newObj_type (wpAny_pure ⟨_, rfl, wpAny_pure h⟩) htake))
theorem sum_tupG {l : Addr} {xs : Array (Int × Tok)} {Q : Value → Shared → Prop} (hh : A.handled = none) (hl : s.heap.IsTuple l (intItems xs))
    (q : ∀ h' tk t', (∀ b o, s.heap.get? b = some o → h'.get? b = some o) → Q (.int (preSum (numAt xs) xs.size) t') { s with heap := h', toks := tk }) :
    wpAny (model prog w) A (call (.builtin "sum") [.ref l]) Q E s := by
  have lt : l < s.heap.objs.size := Heap.lt_size hl.choose_spec.1
  refine call_sum_walkG (wpAny_pyIter_tuple hl ?_)
  refine ⟨_, _, _, _, _, _, numAt xs, rfl, Walks.tuple (A := A.in1) hh _ l (Nat.ne_of_lt lt) (intItems xs), ⟨⟨_, Heap.get?_push_size _ rfl, rfl, rfl⟩, hl.push _⟩, fun b hb => ?_, (fun _ _ => intItems_at), fun h' tk t' hk => ?_⟩
  · show b < (s.heap.push _).objs.size
    rw [Heap.size_push]
    rcases List.mem_cons.mp hb with z | z
    · rw [z]; exact Nat.lt_succ_self _
    · rw [List.mem_singleton.mp z]; exact Nat.lt_succ_of_lt lt
  · have := q h' tk t' fun b o e => hk b o (fun m => absurd (List.mem_singleton.mp m ▸ Heap.lt_size e) (Nat.lt_irrefl _)) (Heap.get?_push_of_some _ e)
    simpa [intItems] using this
theorem sum_tup_raw {l : Addr} {its : List Value} {ns : List Int} {Q : Value → Shared → Prop} (hh : A.handled = none) (hl : s.heap.IsTuple l its.toArray) (hi : IntsAre its ns)
    (q : ∀ h' tk t', (∀ b o, s.heap.get? b = some o → h'.get? b = some o) → Q (.int ns.sum t') { s with heap := h', toks := tk }) : wpAny (model prog w) A (call (.builtin "sum") [.ref l]) Q E s := by
  obtain ⟨xs, e⟩ := hi.allInts.items
  have en : numsOf (intItems xs).toList = ns := e ▸ hi.numsOf
  rw [nums_intItems] at en
  rw [e] at hl
  refine sum_tupG hh hl fun h' tk t' hk => ?_
  have := q h' tk t' hk
  rw [preSum_eq, List.take_of_length_le (by simp), en]
  exact this
end
def rSumT (K : PySem.W.Frag) : List V → Hp → VK → Prop := fun vs H Q => ∃ (a : Addr) (ns : List Int), vs = [V.ref a] ∧ SqT K H a (ns.map V.int) ∧ Q (.int ns.sum) H
theorem sumT_k {X : Cx} {K : PySem.W.Frag} (e : X.K = K) (hc : X.calm = true) : CallR X (.builtin "sum") (rSumT K) := by
  subst e
  rintro pins s σ H vs us Q I r ⟨a, ns, rfl, hs, q⟩
  obtain ⟨its, rv, hl, _⟩ := I.tuple hs
  rw [Vals.ref1 r]
  exact sum_tup_raw (I.ok.hd hc) hl rv.ints fun h' tk t' hk => ⟨.int _, H, I.kept hk, ⟨_, rfl⟩, q⟩
def tSkT (K : PySem.W.Frag) (c : Nat) (te : TE) : TE := fun σ H Q => te σ H fun x H1 => ∃ a xs, x = .ref a ∧ SqT K H1 a xs ∧ ∀ p, H1 p = none → Q (.ref p) (upd H1 p (.tup (skip2 (xs.drop c))))
theorem vals_skip : ∀ {xs : List V} {us : List Value}, Vals xs us → Vals (skip2 xs) (skip2 us)
  | _, _, .nil => .nil
  | _, _, .cons h .nil => .cons h .nil
  | _, _, .cons h (.cons _ t) => .cons h (vals_skip t)
theorem vals_drop : ∀ {xs : List V} {us : List Value} (n : Nat), Vals xs us → Vals (xs.drop n) (us.drop n)
  | _, _, 0, h => h
  | _, _, _ + 1, .nil => .nil
  | _, _, n + 1, .cons _ t => vals_drop n t
theorem pe_skT {X : Cx} {K : PySem.W.Frag} {e : Expr} {te : TE} {c : Nat} {k1 k2 : Nat} {p1 p2 p3 pos : Pos} (eK : X.K = K) (he : PE X e te) : PE X (.Subscript e (.Slice (some (.Constant (.int (c : Int)) k1 p1)) none (some (.Constant (.int 2) k2 p2)) p3) pos) (tSkT K c te) := by
  subst eK
  refine ⟨fun pins s σ H Q I h => ?_⟩
  refine Subscript_ (thn (he.run pins s σ H _ I h) fun v s1 ⟨x, H1, I1, r1, q1⟩ => ?_)
  obtain ⟨a, xs, ex, hx, q⟩ := q1
  subst ex
  cases r1
  have hlo : PO X (some (.Constant (.int (c : Int)) k1 p1)) (tPart (tC (.int (c : Int)))) := po_some pe_int
  have hst : PO X (some (.Constant (.int 2) k2 p2)) (tPart (tC (.int 2))) := po_some pe_int
  refine wpAny_Slice (thn (hlo.run pins s1 σ H1 (fun o H2 => o = some (c : Int) ∧ H2 = H1) I1 ⟨(c : Int), rfl, rfl, rfl⟩) fun vl s2 ⟨l, H2, I2, pl, el, e2⟩ => ?_)
  subst el e2
  refine thn (po_none.run pins s2 σ H2 (fun o H3 => o = none ∧ H3 = H2) I2 ⟨rfl, rfl⟩) fun vu s3 ⟨u, H3, I3, pu, eu, e3⟩ => ?_
  subst eu e3
  refine thn (hst.run pins s3 σ H3 (fun o H4 => o = some 2 ∧ H4 = H3) I3 ⟨2, rfl, rfl, rfl⟩) fun vs s4 ⟨o, H4, I4, ps, eo, e4⟩ => ?_
  subst eo e4
  have I5 : Inv X pins σ H4 { s4 with heap := s4.heap.push { cls := .type "slice", data := .fields #[vl, vu, vs] } } := I4.kept (t' := s4.toks) fun b ob q => Heap.get?_push_of_some _ q
  obtain ⟨its, r, ht, hz⟩ := I5.tuple hx
  have hlen := r.length
  cases ps with
  | int _ tk =>
    show wpAny (model X.prog X.w) X.A (subscriptTail e (.Slice (some (.Constant (.int (c : Int)) k1 p1)) none (some (.Constant (.int 2) k2 p2)) p3) (.ref a) (.ref s4.heap.objs.size)) (EP X pins σ Q) X.xe { s4 with heap := s4.heap.push { cls := .type "slice", data := .fields #[vl, vu, .int 2 tk] } }
    refine tail_any (ops := [.ref a, .ref s4.heap.objs.size]) ht.typeIs (PyProof.Rows.slot_tuple_getitem.lookup) ?_ (by with_unfolding_all rfl)
    refine getItem_tuple_skip ht (Heap.IsSliceOf.new _ vl vu _) pl pu ?_ (by rw [List.size_toArray]; omega)
    refine ⟨.ref _, _, I5.laid (t' := s4.toks) (o := .tup (skip2 (xs.drop c))) (fun b ob q => Heap.get?_push_of_some _ q) (Nat.le_refl _) ?_, rfl, q _ (I5.hok.fresh (Nat.le_refl _))⟩
    exact ⟨Nat.le_trans (skip2_len _) (by rw [List.length_drop]; omega), _, vals_skip (vals_drop c r), IsTup.new _ _⟩
section
variable {K : PySem.W.Frag} {G : Pa} {δ τ : List Sl} {t : Nat} {R : RX} {te : TE}
theorem DqAll.skip2 {H : Hp} : ∀ {us : List V} {ds : List PyData}, DqAll K H us ds → DqAll K H (Dl.skip2 us) (Dl.skip2 ds)
  | _, _, .nil => .nil
  | _, _, .cons h .nil => .cons h .nil
  | _, _, .cons h (.cons _ t) => .cons h (DqAll.skip2 t)
theorem DqAll.dropN {H : Hp} : ∀ {us : List V} {ds : List PyData} (n : Nat), DqAll K H us ds → DqAll K H (us.drop n) (ds.drop n)
  | _, _, 0, h => h
  | _, _, _ + 1, .nil => .nil
  | _, _, n + 1, .cons _ t => DqAll.dropN n t
theorem den_skT {c : Nat} (q : Den K G te δ τ t fun x δ1 t1 => ∃ ds, x = .dat (.tuple ds) ∧ R (.dat (.tuple (Dl.skip2 (ds.drop c)))) δ1 t1) : Den K G (tSkT K c te) δ τ t R := fun σ vs H Q R0 k =>
  q σ vs H _ R0 fun u H1 x δ1 t1 ⟨ds, e, q1⟩ R1 => by
    subst e
    obtain ⟨p, us, rfl, hp, hq⟩ := RV.itemsT R1.head
    exact ⟨p, us, rfl, hp, fun a n => k _ _ _ _ _ q1 (R1.pop.tup n (((hq.dropN c).skip2).mono weak _))⟩
theorem dcb_sumT {ns : List Int} (q : R (.dat (.int ns.sum)) δ t) : Dcb K G (rSumT K) [.dat (.tuple (ns.map .int))] δ τ t R := fun σ vs H us Q l R0 k => by
  obtain ⟨u, rfl⟩ := one_arg (xs := []) l
  obtain ⟨p, ws, rfl, hp, hq⟩ := RV.itemsT R0.head
  rw [hq.ints_of] at hp
  exact ⟨p, ns, rfl, hp, k _ _ _ _ _ q (R0.pop.sc (.int _))⟩
end
end Dl

set_option Elab.async false
set_option linter.all false
set_option maxRecDepth 100000
set_option maxHeartbeats 4000000
/-! sorted(numbers), however many; a statement that is never reached -/
namespace Dl
open PySem PySem.Spec PyProof.Rows L2 Glay Lw HT
section
variable {X : Cx}
theorem sortI_k {K : PySem.W.Frag} (e : X.K = K) : CallR X (.builtin "sorted") (rSortedI K) := by subst e; exact cr_sortedI
end
section
variable {K : PySem.W.Frag} {G : Pa} {δ τ : List Sl} {t : Nat} {R : RX} {x : Sl}
theorem dcb_sortI {ns : List Int} (hx : x.dv = some (.list (ns.map PyData.int))) (q : ∀ (ns' : List Int), ns'.Perm ns → ns'.Pairwise (· ≤ ·) → ∀ p, R (.own p (ns'.map PyData.int)) δ t) : Dcb K G (rSortedI K) [x] δ τ t R := fun σ vs H us Q l R0 k => by
  obtain ⟨u, rfl⟩ := one_arg (xs := []) l
  obtain ⟨p, ws, rfl, hp, hq⟩ := R0.head.items hx
  have := hq.ints_of
  subst this
  exact ⟨p, ns, rfl, SqL.of hp, fun ns' a pm pw n => k _ _ _ _ _ (q ns' pm pw a) (R0.pop.lst n (DqAll.ints ns'))⟩
end
end Dl

set_option Elab.async false
set_option linter.all false
set_option maxRecDepth 100000
set_option maxHeartbeats 4000000
/-! enumerate of a list; the lowest bit of a number -/
namespace Dl
open PySem PySem.Spec PyProof.Rows L2 Glay Lw HT
section
variable {X : Cx}
theorem enL_k {K : PySem.W.Frag} {e : Expr} {ta : TA} {p pos tpos : Pos} {elts : List Expr} {kk : Nat} (eK : X.K = K) (hg : Gl X "enumerate") (hm : X.mg "enumerate" = none) (ha : PA X [e] ta) (hs : starEach [e] X.env = [(false, eval e X.env)] := by rfl) :
    PI X (.Tuple elts kk tpos) (.Call (.Name "enumerate" p) [e] [] pos) (iEnum K ta) := by
  subst eK
  exact pi_enum hg hm ha hs
end
section
variable {K : PySem.W.Frag} {G : Pa} {δ τ : List Sl} {t : Nat} {R : RX} {te : TE} {ta tk : TA}
theorem src_enL {a : Addr} {L : List PyData} : Src K G (Ite K a) [.dat (.list L)] [.ref a] (enD L) := by
  refine ⟨rfl, fun _ => rfl, fun i H δ τ τ0 t σ vs vs0 l0 R0 => ?_⟩
  obtain ⟨p, ws, ea, hw, hq⟩ := RV.items (R0.nth (pin := []) (pv := []) l0) rfl
  cases ea
  rw [enD_len]
  refine ⟨fun hi => ⟨?_, fun x H' d hd hy => ?_⟩, fun hi => ⟨ws, SqL.of hw, by rw [hq.len]; omega⟩⟩
  · obtain ⟨v, hv, _⟩ := hq.get (List.getElem?_eq_getElem (show i < L.length by omega))
    exact ⟨ws, v, SqL.of hw, hv⟩
  · obtain ⟨T, x1, rfl, nT, rfl, e1⟩ := hy
    obtain ⟨x0, y0, hx0, hy0, rfl⟩ := zipD_at hd
    obtain ⟨v, hv, qv⟩ := hq.get hy0
    have := e1 ws (SqL.of hw)
    rw [hv] at this
    cases this
    have e0 : x0 = .int (i : Nat) := by
      rw [(rngL_at hx0).2, Int.zero_add]
    subst e0
    exact R0.tup nT (.cons (.int _) (.cons qv .nil))
theorem di_enL {Ri : List PyData → List Sl → Nat → Prop} (q : DenA K G ta δ τ t fun xs δ1 t1 => ∃ x L, xs = [x] ∧ x.dv = some (.list L) ∧ Ri (enD L) δ1 t1) : DI K G (iEnum K ta) δ τ t Ri := fun σ vs H Q R0 k =>
  q σ vs H _ R0 fun us H1 xs δ1 t1 ⟨x, L, e, hx, q1⟩ l R1 => by
    subst e
    obtain ⟨u, rfl⟩ := one_arg (xs := []) l
    have R2 : Rl K G δ1 (.dat (.list L) :: τ) t1 σ (u :: vs) H1 := by
      have := Rl.softTop (s := x) R1
      rwa [soft_dv hx] at this
    obtain ⟨p, ws, rfl, hp, _⟩ := RV.items R2.head rfl
    exact ⟨p, ws, rfl, SqL.of hp, k _ _ _ _ _ _ _ q1 src_enL R2⟩
theorem ex_one {P : Sl → Prop} {x : Sl} (q : P x) : ∃ x', [x] = [x'] ∧ P x' := ⟨x, rfl, q⟩
end
/-! ### the lowest bit -/
theorem intBits_pow (k : Nat) : Builtin.Int.intBits (2 ^ k) = k + 1 := by
  unfold Builtin.Int.intBits
  have h : (2 : Int) ^ k ≠ 0 := Int.ne_of_gt (Int.pow_pos (by decide))
  rw [if_neg (by simpa using h), Int.natAbs_pow]
  show (2 ^ k : Nat).log2 + 1 = _
  rw [Nat.log2_two_pow]
/-- how often two divides -/
def twos (n : Int) : Nat := Builtin.Int.intBits (Builtin.bitAnd n (-n)) - 1
theorem split_two : ∀ (b : Nat) (n : Int), 0 < n → n < 2 ^ b → ∃ (k : Nat) (a : Int), n = 2 ^ k * (2 * a + 1) ∧ 0 ≤ a ∧ k < b
  | 0, n, h0, h1 => by
    have : (2 : Int) ^ 0 = 1 := rfl
    omega
  | b + 1, n, h0, h1 => by
    rcases Int.emod_two_eq n with h | h
    · obtain ⟨k, a, e, a0, kb⟩ := split_two b (n / 2) (by omega) (by rw [Int.pow_succ] at h1; omega)
      refine ⟨k + 1, a, ?_, a0, by omega⟩
      rw [Int.pow_succ, Int.mul_comm (2 ^ k) 2, Int.mul_assoc, ← e]
      omega
    · exact ⟨0, n / 2, by rw [Int.pow_zero]; omega, by omega, by omega⟩
theorem twos_is (k : Nat) (a : Int) : twos (2 ^ k * (2 * a + 1)) = k := by
  unfold twos
  rw [PySem.W.kbt_low, intBits_pow]
  rfl
/-- a number below a power: its odd part, and how often two divides it -/
theorem twos_split {b : Nat} {n : Int} (h0 : 0 < n) (h1 : n < 2 ^ b) : ∃ a : Int, n = 2 ^ twos n * (2 * a + 1) ∧ 0 ≤ a ∧ twos n < b := by
  obtain ⟨k, a, e, a0, kb⟩ := split_two b n h0 h1
  have := twos_is k a
  rw [← e] at this
  rw [this]
  exact ⟨a, e, a0, kb⟩
theorem bits_low {b : Nat} {n : Int} (h0 : 0 < n) (h1 : n < 2 ^ b) : ((Builtin.Int.intBits (Builtin.bitAnd n (-n)) : Nat) : Int) - 1 = (twos n : Int) := by
  obtain ⟨k, a, e, a0, kb⟩ := split_two b n h0 h1
  have t := twos_is k a
  rw [← e] at t
  rw [t, e, PySem.W.kbt_low, intBits_pow]
  omega
end Dl

set_option Elab.async false
set_option linter.all false
set_option maxRecDepth 100000
set_option maxHeartbeats 4000000
/-! defs that may raise an error of a class of the program; errors caught -/
namespace Dl
open PySem PySem.Spec PyProof.Rows L2 Glay Lw HT
/-! ### such promises, where no repr goes on -/
structure GOkX (P : Program) (w : World) (K : PySem.W.Frag) (mg : Str → Option Value) (base : Heap) (k : Nat) (f : Addr) (fd : FuncData) (ps : List Str) (sp : Sp) : Prop where
  many : ∀ {vs H Q E}, sp vs H Q E → vs.length = ps.length
  goes : ∀ {A : Around} {outer s H args us vs Q E}, Room k A → A.guards = some [] → Env0 P w K mg base A outer s H → BindsTo s fd args (ps.zip us) → Vals vs us → sp vs H Q E →
    codeAny (model P w) A (.call (.ref f) args) (CR (L2.CX P w) outer P w H s Q E) s
section
variable {P : Program} {w : World} {K : PySem.W.Frag} {mg : Str → Option Value} {base : Heap} {k : Nat} {f : Addr} {fd : FuncData} {N ps : List Str} {sp : Sp}
theorem okGX {x qual : Str} {st : Stmt} (F : Fun K x qual st f fd) (S : FnScope N ps (defScope st)) (many : ∀ {vs H Q E}, sp vs H Q E → vs.length = ps.length)
    (body : ∀ (cdv : Value) (A : Around) (outer : List Env) (s : Shared) (H : Hp) (vs : List V) (Q : VK) (E : XK), A.guards = some [] → Room k (A.deeper (envOfC qual (defScope st) s.heap.objs.size f cdv)) → sp vs H Q E →
      ∃ t, PSs (cxOf (L2.CX P w) P w K mg base N qual (defScope st) f cdv A outer s H E) (defBody st) t ∧ t { nx := fun _ H' => Q .non H', rt := Q } (start N vs) H) :
    GOkX P w K mg base (k + 1) f fd ps sp := by
  obtain ⟨oc, od, kV, doc, pm, an, cdv, ct, osl, rfl, look, isCode⟩ := F.ex
  refine ⟨many, ?_⟩
  intro A outer s H args us vs Q E room quiet e0 bound rel want
  have inK : K.In s.heap := e0.mod.kin.keeps fun b o e => (e0.bs b o e).1
  have noLid : s.heap.NoLimit := e0.mod.nolimit.keeps fun b o e => (e0.bs b o e).1
  have places : ∀ y ∈ ps.zip us, (defScope st).names.lookup y.1 = some .local ∨ ((defScope st).names.lookup y.1 = some .cell ∧ ((cellsFrom (s.heap.objs.size + 1) (defScope st).names []).lookup y.1).isSome = true) := by
    rintro ⟨n, v⟩ hy
    cases S.par n (List.of_mem_zip hy).1 with
    | inl q => exact .inl q
    | inr q => exact .inr ⟨q, PySem.W.cellsFrom_some _ _ _ (.inl q)⟩
  refine codeAny_call_function room.depth (inK _ _ look) rfl S.co S.gen rfl (PySem.W.codeRec_of inK isCode) (bound _ _ _ _ ?_)
  refine wpAny_newFunctionEnv_cells S.kind places ?_
  intro env he s1 x
  subst he
  refine ⟨noLid.keeps x.toInCall.keep, codeAny_func ?_⟩
  obtain ⟨t, runs, reads⟩ := body cdv A outer s H vs Q E quiet (room.deeper _) want
  have I := inv_start (CX := L2.CX P w) (cd := cdv) (f := f) (E := E) (qual := qual) S room.hd e0 (many want) rel x
  have back : ∀ {σ' : L2.St} {H' : Hp} {v : V} {u : Value} {s' : Shared}, Inv (cxOf (L2.CX P w) P w K mg base N qual (defScope st) f cdv A outer s H E) [] σ' H' s' → RelV v u → Q v H' → CE outer P w H s Q u s' := by
    intro σ' H' v u s' J rv q
    exact ⟨v, H', J.os, J.bare, J.base, J.hok, rv, q⟩
  refine wpAny_mono (runs.run [] s1 (start N vs) H _ I reads) ?_ fun _ _ h => h
  intro fl s' hs
  match fl, hs with
  | .ret u, ⟨v, σ', H', J, rv, q⟩ => exact back J rv q
  | .next, ⟨σ', H', J, q⟩ => exact back (v := .non) (u := .none) J rfl q
  | .brk, ⟨_, _, _, q⟩ => exact q.elim
  | .cont, ⟨_, _, _, q⟩ => exact q.elim
end
/-- f(..), what it raises wished for -/
def tCallX (sp : Sp) (W : WX) (t : TA) : TE := fun σ H Q => t σ H fun vs H1 => sp vs H1 Q fun cls d H' => W cls d σ H'
section
variable {X : Cx} {k : Nat} {f : Addr} {fd : FuncData} {ps : List Str} {sp : Sp} {x : Str} {p pos : Pos} {e : Expr} {es : List Expr} {t : TA} {W : WX} {st : Stmt}
theorem callGX (D : Df X.K X.mg x st ps f fd) (F : GOkX X.prog X.w X.K X.mg X.base k f fd ps sp) (hr : Room k X.A) (hq : X.A.guards = some []) (hg : Gl X x) (tk : Takes X W) (ha : PA X (e :: es) t)
    (hdb : (x == ("__debug__" : Str)) = false := by decide) (he : starEach (e :: es) X.env = (false, eval e X.env) :: starEach es X.env := by rfl) (hpl : (backTo pos (starEach es X.env)).any (·.1) = false := by rfl) :
    PE X (.Call (.Name x p) (e :: es) [] pos) (tCallX sp W t) := by
  refine ⟨fun pins s σ H Q I h => ?_⟩
  refine wpAny_Call_Name_kw (ld_glob I hg D.place ?_ hdb)
  refine PySem.W.callWith_K (h₀ := X.base) I.ok.mod.kin D.fn.kp (thn (ha.run pos pins s σ H _ I h) fun us s1 ⟨vs, H1, I1, r, q⟩ => ⟨I1.kIn, ?_⟩) he hpl
  have hl : us.length = ps.length := r.length.symm.trans (F.many q)
  have b := D.bs s1 us I1.kIn (by rw [List.append_nil]; exact hl)
  rw [List.append_nil] at b
  refine wpAny_call (codeAny_mono (F.goes hr hq I1.env0 b r q) fun r s' hh => ?_)
  cases r with
  | error e => exact tk e s' (XE.of_call I1 (fun _ _ _ h => h) hh)
  | ok fl =>
    cases fl with
    | ret u => exact I1.after hh
    | next => exact False.elim hh
    | brk => exact False.elim hh
    | cont => exact False.elim hh
end
/-! ### told by data -/
/-- the result, or the error's class and fields -/
abbrev XSp := List Sl → Nat → (Sl → Nat → Prop) → (Addr → List (Str × V) → Nat → Prop) → Prop
def outE (K : PySem.W.Frag) (G : Pa) (CE : Addr → List (Str × V) → Nat → Prop) (E : XK) : Prop := ∀ C d fs H' t', CE C fs t' → H' d = some (.xd fs) → ¬ G.O d → Rl K G [] [] t' [] [] H' → E (.ref C) (some d) H'
def spDX (K : PySem.W.Frag) (S : XSp) : Sp := fun vs H Q E => ∃ (G : Pa) (xs : List Sl) (t : Nat) (C : Sl → Nat → Prop) (CE : Addr → List (Str × V) → Nat → Prop), S xs t C CE ∧ xs.length = vs.length ∧ Rl K G [] xs t [] vs H ∧
  (∀ p, cnt p xs = 0) ∧ (∀ v H' x t', C x t' → Rl K G [] [x] t' [] [v] H' → Q v H') ∧ outE K G CE E
section
variable {P : Program} {w : World} {K : PySem.W.Frag} {mg : Str → Option Value} {base : Heap} {k : Nat} {f : Addr} {fd : FuncData} {N ps : List Str} {S : XSp}
theorem okDX {x qual : Str} {st : Stmt} (F : Fun K x qual st f fd) (Sc : FnScope N ps (defScope st)) (many : ∀ {xs t C CE}, S xs t C CE → xs.length = ps.length)
    (body : ∀ (G : Pa) (cdv : Value) (A : Around) (outer : List Env) (s : Shared) (H : Hp) (E : XK) (xs : List Sl) (t : Nat) (C : Sl → Nat → Prop) (CE : Addr → List (Str × V) → Nat → Prop), A.guards = some [] → Room k (A.deeper (envOfC qual (defScope st) s.heap.objs.size f cdv)) → S xs t C CE → outE K G CE E →
      ∃ tS, PSs (cxOf (L2.CX P w) P w K mg base N qual (defScope st) f cdv A outer s H E) (defBody st) tS ∧ DS K G tS (dst N xs) [] t ⟨fun _ t' => C (.dat .none) t', C, fun _ _ => False, fun _ _ => False⟩) :
    GOkX P w K mg base (k + 1) f fd ps (spDX K S) := by
  refine okGX F Sc (fun h => ?_) fun cdv A outer s H vs Q E hq hr h => ?_
  · obtain ⟨G, xs, t, C, CE, h1, h2, _⟩ := h
    rw [← h2]
    exact many h1
  · obtain ⟨G, xs, t, C, CE, h1, h2, R, no, q, qe⟩ := h
    obtain ⟨tS, runs, ds⟩ := body G cdv A outer s H E xs t C CE hq hr h1 qe
    refine ⟨tS, runs, ?_⟩
    have hpl : ps.length ≤ N.length := by have := congrArg List.length Sc.pre; rw [List.length_take] at this; omega
    have R0 : Rl K G (dst N xs) [] t (L2.start N vs) [] H := by
      refine R.less (fun p => ?_) (fun m => dst_rs (by rw [many h1]; exact hpl) (tm_to m R.tm)) fun _ => .nil
      have := cnt_dst (p := p) (ns := N) (xs := xs)
      have := no p
      simp only [cnt]
      omega
    have ret : ∀ v H' x δ' t' σ', C x t' → Rl K G δ' (x :: []) t' σ' (v :: []) H' → Q v H' := fun v H' x δ' t' σ' c R' =>
      q v H' x t' c (R'.less (fun p => by simp only [cnt]; omega) (fun _ => .nil) fun m => tm_to m R'.tm)
    exact ds _ [] H _ R0 (fun σ' H' δ' t' c R' => ret _ _ _ _ _ _ c (R'.sc .non)) (fun v H' x δ' t' σ' c R' => ret _ _ _ _ _ _ c R') (fun _ _ _ _ z => z.elim) fun _ _ _ _ z => z.elim
end
/-! ### errors made -/
/-- `self.f = f` alone -/
def spInit (C : Addr) (fn : Str) : Sp := fun vs H Q _ => ∃ (a : Addr) (v : V), vs = [.ref a, v] ∧ H a = some (exo a C none) ∧ ∀ dx, H dx = none → dx ≠ a → Q .non (upd (upd H dx (exd dx [(fn, v)])) a (exo a C (some dx)))
/-- a class of errors with one field, that its __init__ stores -/
structure ErrC (P : Program) (w : World) (K : PySem.W.Frag) (mg : Str → Option Value) (base : Heap) (x : Str) (C : Addr) (fn : Str) : Prop where
  T : OexC K C
  xf : XfC K C
  no : PySem.W.findIn K (.ref C) fn = some none
  isE : ExcC K C
  gC : mg x = some (.ref C)
  exm : PySem.W.exmOne K (.ref C) (.ref C) = some true
  ini : ∃ fI fd, PySem.W.findIn K (.ref C) "__init__" = some (some (.ref fI)) ∧ PySem.W.typeIn K (.ref fI) = some (.type "function") ∧ FnOk P w K mg base CX0 1 fI fd ["self", fn] (spInit C fn) ∧ Binds K fd ["self", fn] []
def tRaiseO (C : Addr) (fn : Str) (E : XK) (ta : TA) : TS := fun _ σ H => tMkO C (spInit C fn) [] ta σ H fun cls d H' => E cls d H'
section
variable {X : Cx} {x fn : Str} {C : Addr} {e : Expr} {es : List Expr} {ta : TA} {p pos pos2 : Pos} {E : XK}
theorem psRaiseX (Z : ErrC X.prog X.w X.K X.mg X.base x C fn) (hr : Room 2 X.A) (hc : X.calm = true) (tk : Takes X fun cls d _ H => E cls d H) (hg : Gl X x) (ha : PA X (e :: es) ta)
    (hdb : (x == ("__debug__" : Str)) = false := by decide) (he : starEach (e :: es) X.env = (false, eval e X.env) :: starEach es X.env := by rfl) (hpl : (backTo pos (starEach es X.env)).any (·.1) = false := by rfl) :
    PS X (.Raise (some (.Call (.Name x p) (e :: es) [] pos)) none pos2) (tRaiseO C fn E ta) := by
  obtain ⟨fI, fd, iC, tI, F1, hb⟩ := Z.ini
  exact ps_raise hc tk (pmk_oex Z.T iC tI F1 hr hb .nil (fun _ _ _ _ _ _ _ h => h.elim) hg Z.gC ha hdb he hpl)
end
section
variable {K : PySem.W.Frag} {G : Pa} {δ τ : List Sl} {t : Nat} {D : DEnds} {R : RX} {ta : TA} {te : TE}
theorem ds_raise {C : Addr} {fn : Str} {E : XK} {CE : Addr → List (Str × V) → Nat → Prop} (hE : outE K G CE E) (q : DenA K G ta δ τ t fun xs _ t1 => ∃ v : Int, xs = [.dat (.int v)] ∧ CE C [(fn, .int v)] t1) : DS K G (tRaiseO C fn E ta) δ τ t D := fun σ vs H E' R0 k1 k2 k3 k4 =>
  q σ vs H _ R0 fun us H1 xs δ1 t1 ⟨v, ex, c⟩ l R1 => by
    subst ex
    obtain ⟨u, rfl⟩ := one_arg (xs := []) l
    have hu := RV.int R1.head
    subst hu
    refine ⟨by simp, fun a ha => ⟨a, .int v, rfl, upd_same, fun dx n ne => ⟨rfl, dx, [(fn, .int v)], ?_, ?_, ?_, ?_⟩⟩⟩
    · exact upd_same
    · rw [upd_ne ne]
      exact upd_same
    · rwa [upd_ne ne] at n
    · have n1 : H1 dx = none := by rwa [upd_ne ne] at n
      have eh : upd (del (upd (upd (upd H1 a (exo a C none)) dx (exd dx [(fn, .int v)])) a (exo a C (some dx))) a) dx (.xd [(fn, .int v)]) = upd H1 dx (.xd [(fn, .int v)]) := funext fun b => by
        by_cases hb : b = dx
        · subst hb
          rw [upd_same, upd_same]
        · rw [upd_ne hb, upd_ne hb]
          by_cases hba : b = a
          · subst hba
            rw [del_same, ha]
          · rw [del_ne hba, upd_ne hba, upd_ne hb, upd_ne hba]
      rw [eh]
      have R2 : Rl K G [] [] t1 [] [] H1 := R1.less (fun p => by simp only [cnt]; omega) (fun _ => .nil) fun _ => .nil
      exact hE C dx _ _ t1 c upd_same (fun z => R1.live dx z n1) (R2.grow (same_upd n1))
end
def clsB : Stmt → List Stmt
  | .ClassDef _ _ _ body _ _ _ _ _ _ _ => body
  | _ => []
/-! ### errors caught -/
/-- isinstance(e, c), e the error that the suite holds, with a dict of its own -/
def rIsX (K : PySem.W.Frag) (C a : Addr) (cls : Value) (d : Option Addr) : List V → Hp → VK → Prop := fun xs H Q => ∃ (c : V) (cv : Value) (b : Bool) (dd : Addr) (fs : List (Str × V)), xs = [.ref a, c] ∧ (∀ u, RelV c u → u = cv) ∧ cls = .ref C ∧ d = some dd ∧ H dd = some (.xd fs) ∧ PySem.W.kitOne K (.ref C) cv = some b ∧ Q (.bl b) H
theorem call_isX {X : Cx} {a C : Addr} {d : Option Addr} {oe : Obj} {cls : Value} {pn : List (Addr × Obj)} (Z : ExcC X.K C) (hz : Zc cls d oe) (hf : ∃ vs, oe.data = .fields vs) : CallR (X.suite a ((a, oe) :: pn)) (.builtin "isinstance") (rIsX X.K C a cls d) := by
  intro pins s σ H xs us Q I r h
  obtain ⟨c, cv, b, dd, fs, rfl, hcv, ec, ed, hd, e, q⟩ := h
  subst ec
  subst ed
  cases r with
  | cons rx rr =>
    cases rr with
    | cons rt rr =>
      cases rr
      cases rx
      have ec := hcv _ rt
      subst ec
      obtain ⟨hget, _⟩ := I.pin (a, oe) (List.mem_append.mpr (.inl List.mem_cons_self))
      obtain ⟨vs, hv⟩ := hf
      obtain ⟨mA, hns, _⟩ := (show ObjOk X.prog X.w H s.heap dd (.xd fs) from I.hok dd _ hd)
      obtain ⟨od, ho, _⟩ := lookIn_ns hns
      have J : PySem.W.InstAt s.heap a oe C (some od) := ⟨hget, hz.1, by unfold PySem.W.notCls; rw [hv] <;> rfl, by rw [hz.2]; exact ho⟩
      have hcl : (PySem.W.clsIn X.K C).isSome = true := by
        obtain ⟨cd, hc, _⟩ := PySem.W.any_some Z.hd
        rw [hc]
        rfl
      exact PySem.W.kia_one (PySem.W.kitx_exc hcl Z.hg Z.hk Z.hs Z.ha Z.hn Z.ht Z.hm) I.kIn J e (fun z => nomatch z) fun tk => ⟨.bl b, H, I.kept (t' := tk) fun _ _ z => z, rfl, q⟩
section
variable {K : PySem.W.Frag} {G : Pa} {δ τ : List Sl} {t : Nat} {D : DEnds} {R : RX} {ta : TA} {te : TE} {a C : Addr} {d : Addr} {i : Nat}
/-- where a suite begins: from here on the heap stays -/
theorem Rl.here {σ : L2.St} {vs : List V} {H : Hp} (R0 : Rl K G δ τ t σ vs H) (own0 : ∀ p, cnt p δ + cnt p τ = 0) : Rl K ⟨G.dr, G.O, H, G.tb⟩ δ τ t σ vs H := by
  have e : Pr ⟨G.dr, G.O, H, G.tb⟩ δ τ = Pr G δ τ := rfl
  refine ⟨pmap R0.sl fun _ _ _ _ h => ?_, pmap R0.tm fun _ _ _ _ h => h.swapG rfl, R0.nd, R0.off, fun p h => by have := own0 p; omega, R0.live, Frm.of (Same.refl H), R0.dw⟩
  rcases h with h | ⟨v, e, h⟩
  · exact .inl h
  · exact .inr ⟨v, e, h.swapG rfl⟩
theorem Rl.there {σ : L2.St} {vs : List V} {H H' : Hp} (f : Frm G G.H0 H) (dw : DrOk G H t) {t' : Nat} (R0 : Rl K ⟨G.dr, G.O, H, G.tb⟩ δ τ t' σ vs H') : Rl K G δ τ t' σ vs H' := by
  refine ⟨pmap R0.sl fun _ _ _ _ h => ?_, pmap R0.tm fun _ _ _ _ h => h.swapG rfl, R0.nd, R0.off, fun p h => ?_, R0.live, f.trans fun b o nb e => R0.old b o nb e, R0.dw⟩
  · rcases h with h | ⟨v, e, h⟩
    · exact .inl h
    · exact .inr ⟨v, e, h.swapG rfl⟩
  · have n := R0.new p h
    have nO := R0.off p h
    cases q : G.H0 p with
    | none => rfl
    | some o =>
      have := f p o (fun z => nO (dw.dr z).1) q
      have n : H p = none := n
      rw [this] at n
      cases n
/-- try: return f(..) except C as e: return .. -/
theorem ds_tryRet {S : XSp} {Cc : Value} {ts : Addr → Value → Option Addr → TS} (own0 : ∀ p, cnt p δ + cnt p τ = 0)
    (q : DenA K G ta δ τ t fun xs δ1 t1 => δ1 = δ ∧ S (xs.map Sl.soft) t1 D.rt fun Cl fs t' => PySem.W.exmOne K (.ref Cl) Cc = some true ∧
      ∀ (a d : Addr) (G' : Pa), G'.H0 d = some (.xd fs) → ¬ G'.O d → DS K G' (ts a (.ref Cl) (some d)) (δ.set i (.raw (.ref a))) τ t' ⟨fun _ _ => False, D.rt, fun _ _ => False, fun _ _ => False⟩) :
    DS K G (fun E σ H => tRet (tCallX (spDX K S) (wAs K Cc i ts (fun _ _ _ _ => False) E) ta) E σ H) δ τ t D := fun σ vs H E R0 k1 k2 k3 k4 =>
  q σ vs H _ R0 fun us H1 xs δ1 t1 ⟨eδ, hS⟩ l R1 => by
    subst eδ
    have R2 := R1.softAll l
    have l' : (xs.map Sl.soft).length = us.length := by rw [List.length_map]; exact l
    have R3 := R2.drop l'
    refine ⟨⟨G.dr, Pr G δ1 τ, H1, G.tb⟩, xs.map Sl.soft, t1, _, _, hS, l', R2.into l' (fun p => cnt_soft xs), fun p => cnt_soft xs, fun v H' x t' c R' => k2 _ _ _ δ1 _ _ c (R3.back R'), fun Cl d fs H' t' c hd nO R' => ?_⟩
    have f : Frm G H1 H' := fun b o z e => R'.old b o (fun y => z (isDr_to (G' := G) (G := ⟨G.dr, Pr G δ1 τ, H1, G.tb⟩) rfl rfl y)) e
    have dw : DrOk G H' t' := ⟨fun d r c e => by
      obtain ⟨a, b, c', _⟩ := R3.dw.1 d r c e
      exact ⟨a, b, c', (R'.dw.1 d r c e).2.2.2⟩, fun P q m => ⟨(R3.dw.2 P q m).1, (R'.dw.2 P q m).2⟩⟩
    have R4 : Rl K G δ1 τ t' σ vs H' := R3.step f dw
    obtain ⟨ce, suite⟩ := c
    refine ⟨true, ce, fun _ a ha => ?_, fun z => nomatch z⟩
    have R5 : Rl K ⟨G.dr, G.O, H', G.tb⟩ (δ1.set i (.raw (.ref a))) τ t' (σ.set i (some (.ref a))) vs H' := Rl.put i ((R4.here own0).push (s := .raw (.ref a)) rfl fun _ => rfl)
    exact suite a d ⟨G.dr, G.O, H', G.tb⟩ hd (fun z => nO (.inl z)) _ vs H' _ R5 (fun _ _ _ _ z => z.elim) (fun v H'' x δ' t'' σ' c R6 => k2 _ _ _ _ _ _ c (Rl.there R4.old dw R6)) (fun _ _ _ _ z => z.elim) fun _ _ _ _ z => z.elim
/-- the error's field -/
theorem den_xf {fn : Str} {v : Int} {fs : List (Str × V)} (e : δ[i]? = some (.raw (.ref a))) (hd : G.H0 d = some (.xd fs)) (nO : ¬ G.O d) (l : fs.lookup fn = some (.int v)) (q : R (.dat (.int v)) δ t) : Den K G (tXf a (.ref C) (some d) C fn (tVar i)) δ τ t R := fun σ vs H Q R0 k => by
  obtain ⟨u, hu, hr⟩ := rd_at R0 e (by intro z; cases z)
  have hr : u = .ref a := hr
  subst hr
  exact ⟨_, hu, rfl, rfl, d, fs, .int v, rfl, R0.old d _ (fun z => nO (R0.dw.dr z).1) hd, l, k _ _ _ _ _ q (R0.sc (.int v))⟩
theorem dcb_isX {fs : List (Str × V)} {c : Addr} {b : Bool} (hd : G.H0 d = some (.xd fs)) (nO : ¬ G.O d) (hb : PySem.W.kitOne K (.ref C) (.ref c) = some b) (q : R (.dat (.bool b)) δ t) : Dcb K G (rIsX K C a (.ref C) (some d)) [.raw (.ref a), .raw (.ref c)] δ τ t R := fun σ vs H us Q l R0 k => by
  obtain ⟨u, v, rfl⟩ := two_args l
  have h1 : u = .ref a := R0.head
  have h2 : v = .ref c := Rl.h2 (x := .raw (.ref c)) (y := .raw (.ref a)) R0
  subst h1 h2
  exact ⟨.ref c, .ref c, b, d, fs, rfl, fun w r => by cases r; rfl, rfl, rfl, R0.old d _ (fun z => nO (R0.dw.dr z).1) hd, hb, k _ _ _ _ _ q (R0.pop.pop.sc (.bl b))⟩
end
end Dl

set_option Elab.async false
set_option linter.all false
set_option maxRecDepth 100000
set_option maxHeartbeats 4000000
/-! an own list given to a def that returns an integer stays own; a dict of the top -/
namespace Dl
open PySem PySem.Spec PyProof.Rows L2 Glay Lw HT
section
variable {K : PySem.W.Frag} {G G1 : Pa} {δ τ : List Sl} {t t' : Nat} {σ : L2.St} {vs : List V} {v : V} {H H' : Hp}
theorem Rl.keep {n : Int} (R : Rl K G δ τ t σ vs H) (e : G1.dr = G.dr) (eb : G1.tb = G.tb) (e0 : G1.H0 = H) (R' : Rl K G1 [] [.dat (.int n)] t' [] [v] H') : Rl K G δ (.dat (.int n) :: τ) t' σ (v :: vs) H' := by
  have f : Frm G H H' := fun b o z h => R'.old b o (fun y => z (isDr_to (G' := G) (G := G1) e.symm eb.symm y)) (by rw [e0]; exact h)
  have dw : DrOk G H' t' := ⟨fun d r c h => by
    obtain ⟨a, b, c', _⟩ := R.dw.1 d r c h
    exact ⟨a, b, c', (R'.dw.1 d r c (by rw [e]; exact h)).2.2.2⟩, fun P q m => ⟨(R.dw.2 P q m).1, (R'.dw.2 P q (by rw [eb]; exact m)).2⟩⟩
  have hv : v = .int n := RV.int R'.head
  subst hv
  exact (R.step f dw).sc (.int n)
end
section
variable {K : PySem.W.Frag} {G : Pa} {δ τ : List Sl} {t : Nat} {R : RX}
def tCallK (sp : Sp) (ta : TA) : TE := tCall sp [] E0 ta
theorem asK {X : Cx} {e : Expr} {sp : Sp} {ta : TA} (h : PE X e (tCall sp [] E0 ta)) : PE X e (tCallK sp ta) := h
theorem den_callK {S : DSp} {i j k : Nat} {p : Addr} {d b : PyData} {xs : List PyData} (e1 : sget δ i = some (.dat d)) (e2 : sget δ j = some (.own p xs)) (e3 : sget δ k = some (.dat b))
    (q : S [.dat d, .dat (.list xs), .dat b] t fun x t' => ∃ n : Int, x = .dat (.int n) ∧ R (.dat (.int n)) δ t') : Den K G (tCallK (spD K S) (tCons (tVar i) (tCons (tOwn j) (tCons (tVar k) tNil)))) δ τ t R := fun σ vs H Q R0 k0 => by
  rw [sget_eq] at e1 e2 e3
  have lt : j < δ.length := (List.getElem?_eq_some_iff.mp e2).1
  have R1 := R0.softAt e2
  have nj : ∀ {m : Nat} {c : PyData}, δ[m]? = some (.dat c) → (δ.set j (.dat (.list xs)))[m]? = some (.dat c) := fun {m c} h => by
    rw [List.getElem?_set_ne (fun z => by subst z; rw [e2] at h; cases h)]
    exact h
  obtain ⟨v3, h3, r3⟩ := rd_at R1 (nj e3) (fun z => nomatch z)
  have R2 := R1.dat r3
  obtain ⟨v2, h2, r2⟩ := rd_at R2 (i := j) (s := .dat (.list xs)) (by rw [List.getElem?_set_self lt]; rfl) (fun z => nomatch z)
  have R3 := R2.dat r2
  obtain ⟨v1, h1, r1⟩ := rd_at R3 (nj e1) (fun z => nomatch z)
  have R4 := R3.dat r1
  refine ⟨v1, h1, v2, h2, v3, h3, ?_⟩
  refine ⟨_, [.dat d, .dat (.list xs), .dat b], t, _, q, rfl, Rl.into (xs := [.dat d, .dat (.list xs), .dat b]) (us := [v1, v2, v3]) R4 rfl (fun _ => rfl), ⟨fun _ => rfl, fun _ h => nomatch h⟩, fun v H' x t' c R' => ?_⟩
  obtain ⟨n, rfl, c⟩ := c
  exact k0 v H' _ δ t' c (R0.keep (G1 := ⟨G.dr, Pr G (δ.set j (Sl.own p xs).soft) τ, H, G.tb⟩) rfl rfl rfl R')
theorem dop_ixD {w : World} {g : Addr} {z : Str} {n : Int} (h : KDct K w g z (.int n)) (q : R (.dat (.int n)) δ t) : Dop K G (rIxD K w) (.raw (.ref g)) (.dat (.str z)) δ τ t R := fun σ vs H u v Q R0 k => by
  have hu : u = .ref g := R0.h2
  have hv : v = .str z := RV.str R0.head
  subst hu
  subst hv
  exact ⟨g, z, _, rfl, rfl, h, k _ _ _ _ _ q (R0.pop.pop.sc (.int n))⟩
end
end Dl

set_option Elab.async false
set_option linter.all false
set_option maxRecDepth 100000
set_option maxHeartbeats 4000000
/-! how often a number stands in a list -/
namespace Dl
open PySem PySem.Spec PyProof.Rows L2 Glay Lw HT
theorem mt_count_k {X : Cx} {K : PySem.W.Frag} (e : X.K = K) : MtR X "list.count" (rCntI K) := by
  subst e
  exact mt_lcount
section
variable {K : PySem.W.Frag} {G : Pa} {δ τ : List Sl} {t : Nat} {R : RX} {te ti : TE}
theorem den_cnt (q : Den K G te δ τ t fun x δ1 t1 => ∃ ns : List Int, x.dv = some (.list (ns.map .int)) ∧ Den K G ti δ1 (x :: τ) t1 fun y δ2 t2 => ∃ k : Int, y = .dat (.int k) ∧ R (.dat (.int (ns.count k : Nat))) δ2 t2) :
    Den K G (tBM K "list" (rCntI K) te (tCons ti tNil)) δ τ t R := fun σ vs H Q R0 k0 =>
  q σ vs H _ R0 fun u H1 x δ1 t1 ⟨ns, hx, q1⟩ R1 => by
    obtain ⟨p, us, rfl, hp, hq⟩ := R1.head.items hx
    refine ⟨.inl ⟨rfl, us, SqL.of hp⟩, q1 σ (.ref p :: vs) H1 _ R1 fun v H2 y δ2 t2 ⟨k, hy, q2⟩ R2 => ?_⟩
    subst hy
    have hv : v = .int k := RV.int R2.head
    subst hv
    obtain ⟨p', us', e', hp', hq'⟩ := R2.pop.head.items hx
    cases e'
    rw [hq'.ints_of] at hp'
    exact ⟨p, ns, k, rfl, rfl, SqL.of hp', k0 _ _ _ _ _ q2 (R2.pop.pop.sc (.int _))⟩
end
end Dl

set_option Elab.async false
set_option linter.all false
set_option maxRecDepth 100000
set_option maxHeartbeats 4000000
/-! sorted(set(list of ints)), with fewer than 64 members -/
namespace Dl
open PySem PySem.Spec PyProof.Rows L2 Glay Lw HT
/-- a new set's object -/
abbrev newSet (w : World) : Obj := { cls := .type "set", dict := none, data := .set #[] 0 (.fresh 0 0 (!w.params.followText "set-order")) }
/-- so many members, all of them of the list -/
def Few (ns : List Int) (c : Nat) : Prop := ∃ ms : List Int, ms.Nodup ∧ ms.length = c ∧ ∀ m ∈ ms, m ∈ ns
section
variable {P : Program} {w : World} {A : Around} {E : Value → Shared → Prop} {s : Shared}
theorem upd_loopF {I : Addr} {fp wr : List Addr} {G : Array GenState → Array GenState → Prop} {n : Nat} {Pv : Nat → Value → Prop} {St : Nat → Shared → Prop} {R : Result → Shared → Prop}
    (W : WalksS P w A.in1 I fp wr G n Pv St) (S : Addr) (off : S ∉ fp) (ns : List Int) (len : n = ns.length) (room : ns.length + 1 < scanBound) (items : ∀ i v, Pv i v → ∃ k t, ns[i]? = some k ∧ v = .int k t) :
    ∀ (k i : Nat) (s : Shared), n - i = k → i ≤ n → St i s → (∃ c, Few (ns.take i) c ∧ c ≤ i ∧ SetR w s.heap S (fun j => decide (j ∈ ns.take i)) c) →
      (∀ s' c, Moved (S :: wr) G s s' → Few ns c → SetR w s'.heap S (fun j => decide (j ∈ ns)) c → R (.ok (.ret .none)) s') →
      codeAny (model P w) A (.builtin "set.update.loop" ⟨[.ref S, .ref I], []⟩) R s := by
  have offw : S ∉ wr := fun z => off (W.sub _ z)
  intro k
  induction k with
  | zero =>
    rintro i s ek il st ⟨c, few, cl, RS⟩ fin
    obtain rfl : i = n := by omega
    refine codeAny_builtin F.entry_set_update_loop ?_
    rw [Around.under_plainId F.plain_set_update_loop _]
    refine wpAny_bind (m := pyNext (.ref I)) (W.done s _ _ st fun s' mv => ?_)
    rw [List.take_of_length_le (Nat.le_of_eq len.symm)] at RS few
    exact wpAny_pure (fin s' c (mv.mono fun b hb => List.mem_cons_of_mem _ hb) few (RS.at fun o e => mv.heap S o offw e))
  | succ k ih =>
    rintro i s ek il st ⟨c, few, cl, RS⟩ fin
    have lt : i < n := by omega
    refine codeAny_builtin F.entry_set_update_loop ?_
    rw [Around.under_plainId F.plain_set_update_loop _]
    refine wpAny_bind (m := pyNext (.ref I)) (W.item i s _ _ lt st fun v s' pv st' mv => ?_)
    obtain ⟨z, tz, ez, rfl⟩ := items i v pv
    have RS1 : SetR w s'.heap S (fun j => decide (j ∈ ns.take i)) c := RS.at fun o e => mv.heap S o offw e
    show wpAny _ A.in1 (holding [Value.int z tz] (setAdd S (.int z tz)) >>= _) _ _ s'
    refine wpAny_bind (wpAny_holding ?_)
    unfold setAdd
    refine wpAny_holding (wpAny_bind ((intKind P w).pyHash (k := z) (intKind_is _ _ _ _) ?_))
    refine setR_add_hashed (s := { s' with toks := s'.toks + 1 }) RS1 (by omega) fun h' sb RS2 => ?_
    have tk : ns.take (i + 1) = ns.take i ++ [z] := by
      rw [List.take_add_one, ez]
      rfl
    have RS3 : SetR w h' S (fun j => decide (j ∈ ns.take (i + 1))) (if decide (z ∈ ns.take i) = true then c else c + 1) := RS2.congr fun j => by
      rw [tk]
      simp [List.mem_append]
    have few3 : Few (ns.take (i + 1)) (if decide (z ∈ ns.take i) = true then c else c + 1) := by
      obtain ⟨ms, nd, lm, sub⟩ := few
      rw [tk]
      by_cases hz : z ∈ ns.take i
      · rw [if_pos (decide_eq_true hz)]
        exact ⟨ms, nd, lm, fun m hm => List.mem_append_left _ (sub m hm)⟩
      · rw [if_neg (by rw [decide_eq_false hz]; decide)]
        refine ⟨z :: ms, List.nodup_cons.mpr ⟨fun h => hz (sub z h), nd⟩, by rw [List.length_cons, lm], fun m hm => ?_⟩
        rcases List.mem_cons.mp hm with rfl | hm
        · exact List.mem_append_right _ (List.mem_singleton.mpr rfl)
        · exact List.mem_append_left _ (sub m hm)
    refine wpAny_pure ⟨plainId_quiet F.plain_set_update_loop _, ih (i + 1) _ (by omega) lt (W.frame _ s' _ _ st' (Nat.le_succ _) fun b hb o e => ?_) ⟨_, few3, by split <;> omega, RS3⟩ fun s'' c2 mv2 few2 RS4 => ?_⟩
    · rw [sb.2 b fun z => off (z ▸ hb)]
      exact e
    · refine fin s'' c2 (Moved.trans W.gtrans ((mv.mono fun b hb => List.mem_cons_of_mem _ hb).then_heap (Nat.le_succ _) fun b o hb e => ?_) mv2) few2 RS4
      rw [sb.2 b fun z => hb (z ▸ List.mem_cons_self)]
      exact e
set_option maxHeartbeats 3200000 in
theorem call_set_lstI {l : Addr} {us : Array Value} (ns : List Int) {Q : Value → Shared → Prop} (quiet : A.handled = none) (isl : s.heap.IsList l us) (are : IntsAre us.toList ns) (room : ns.length + 1 < scanBound)
    (k : ∀ (h' : Heap) (tk c : Nat), SetR w h' s.heap.objs.size (fun j => decide (j ∈ ns)) c → Few ns c → (∀ b o, s.heap.get? b = some o → h'.get? b = some o) → Q (.ref s.heap.objs.size) { s with heap := h', toks := tk }) :
    wpAny (model P w) A (call (.type "set") [.ref l]) Q E s := by
  have lu : us.size = ns.length := by
    have q := IntsAre.length are
    rwa [Array.length_toList] at q
  obtain ⟨c, tl, mro⟩ := F.called_set.mro
  have f1 := F.called_set.made
  have f2 := F.called_set.sub
  refine wpAny_call (codeAny_of_tree ?_)
  change wpAny _ _ (callAny (.type "set") ⟨[.ref l], []⟩) _ _ _
  refine wpAny_pure ⟨Code.quiet_builtin _ (by decide +kernel), codeAny_builtin PySem.F.entry_type_call ?_⟩
  rw [Around.under_plain (weight_type_call_type "set" [.ref l] []) rfl]
  have f3 := F.called_set.notType
  have f4 := F.called_set.canCreate
  have f5 := F.typeCall_set_1 (.ref l)
  repeat (any_goals (first | assumption | wp_step))
  refine codeAny_mono (code_set_led1 (.ref l) (E := E) (Q₁ := fun u s₁ => u = .ref s.heap.objs.size ∧ s₁ = { s with heap := s.heap.push (newSet w) }) ⟨rfl, rfl⟩) fun r s₁ hr => ?_
  match r, hr with
  | .error e, hr => exact hr
  | .ok .next, hr => exact hr.elim
  | .ok .brk, hr => exact hr.elim
  | .ok .cont, hr => exact hr.elim
  | .ok (.ret u), hr =>
    obtain ⟨rfl, rfl⟩ := hr
    have at1 : (s.heap.push (newSet w)).get? s.heap.objs.size = some (newSet w) := Heap.get?_push_size _ rfl
    have ty1 : Shared.TypeIs { s with heap := s.heap.push (newSet w) } (.ref s.heap.objs.size) "set" := ⟨_, at1, rfl⟩
    have f6 := F.called_set.init.lookup
    have f7 := F.called_set.init.bind (.ref s.heap.objs.size)
    repeat (any_goals (first | assumption | wp_step))
    refine codeAny_mono (codeAny_call_builtin (R := wants (fun r s₂ => r = .none ∧ ∃ h' tk c, s₂ = { s with heap := h', toks := tk } ∧ SetR w h' s.heap.objs.size (fun j => decide (j ∈ ns)) c ∧ Few ns c ∧
        (∀ b o, s.heap.get? b = some o → h'.get? b = some o)) E) F.called_set.init.plain F.entry_set_init (check_set_init_1 ty1 ?_)) fun r₂ s₂ hr₂ => ?_
    · obtain ⟨⟨oc, od, oda, osl⟩, gl, hc, nl, hd⟩ := isl
      simp only at hc hd
      subst hc
      subst hd
      have gl1 : (s.heap.push (newSet w)).get? l = some { cls := .type "list", dict := od, data := .seq us nl, slots := osl } := Heap.get?_push_of_some _ gl
      have f8 := F.sub_list_set
      have f9 := F.sub_list_frozenset
      have f10 : (Value.type "list" == Value.type "dict") = false := by decide
      have il : (s.heap.push (newSet w)).IsList l us := ⟨_, gl1, rfl, nl, rfl⟩
      unfold Builtin.«set.__init__» noKeywords Builtin.Frozenset.updateFrom
      generalize hPI : pyIter = PI
      wp_walk
      subst hPI
      refine wpAny_pyIter_list il (wpAny_bind (wpAny_runValue ?_))
      have ls : l < s.heap.objs.size := Heap.lt_size gl
      have sz : (s.heap.push (newSet w)).objs.size = s.heap.objs.size + 1 := Heap.size_push ..
      have lne : l ≠ (s.heap.push (newSet w)).objs.size := by
        rw [sz]
        exact Nat.ne_of_lt (Nat.lt_succ_of_lt ls)
      refine upd_loopF ((Walks.list (by simp [quiet]) _ l lne us).toS) s.heap.objs.size (fun z => ?_) ns lu room (fun i v hv => ?_) (us.size - 0) 0 _ (by omega) (Nat.zero_le _)
        ⟨⟨_, Heap.get?_push_size _ rfl, rfl, rfl⟩, (il.push _)⟩ ⟨0, ⟨[], List.nodup_nil, rfl, fun m hm => nomatch hm⟩, Nat.le_refl 0, setR_new_at (Heap.get?_push_of_some _ at1)⟩ fun s' c' mv few RS => ?_
      · simp only [List.mem_cons, List.not_mem_nil, or_false] at z
        rcases z with z | z
        · rw [sz] at z
          exact Nat.ne_of_lt (Nat.lt_succ_self _) z
        · exact Nat.ne_of_gt ls z
      · have hi : i < ns.length := by
          rw [← lu]
          exact (Array.getElem?_eq_some_iff.mp hv).1
        obtain ⟨tv, ev⟩ := PyProof.Rows.IntsAre.int_at are i v (by rw [Array.getElem?_toList]; exact hv)
        rw [List.getD_eq_getElem?_getD, List.getElem?_eq_getElem hi] at ev
        exact ⟨ns[i], tv, List.getElem?_eq_getElem hi, ev⟩
      · obtain ⟨h', g2, d2, tk2, os2⟩ := s'
        obtain rfl : g2 = s.gens := mv.gens
        obtain rfl : d2 = s.drawn := mv.drawn
        obtain rfl : os2 = s.os := mv.os
        refine wpAny_pure (wpAny_pure ⟨rfl, h', tk2, c', rfl, RS, few, fun b o e => ?_⟩)
        have hb : b < s.heap.objs.size := Heap.lt_size e
        refine mv.heap b o (fun z => ?_) (Heap.get?_push_of_some _ (Heap.get?_push_of_some _ e))
        simp only [List.mem_cons, List.not_mem_nil, or_false] at z
        rcases z with z | z
        · exact Nat.ne_of_lt hb z
        · rw [sz] at z
          exact Nat.ne_of_lt (Nat.lt_succ_of_lt hb) z
    · match r₂, hr₂ with
      | .error e, hr₂ => exact hr₂
      | .ok .next, hr₂ => exact hr₂.elim
      | .ok .brk, hr₂ => exact hr₂.elim
      | .ok .cont, hr₂ => exact hr₂.elim
      | .ok (.ret v), hr₂ =>
        obtain ⟨rfl, h', tk, c', rfl, RS, few, kp⟩ := hr₂
        repeat (any_goals (first | assumption | wp_step))
        exact k _ _ _ RS few kp
end
/-- set(list of ints) -/
def rSetLI (K : PySem.W.Frag) (w : World) : List V → Hp → VK → Prop := fun xs H Q => ∃ (a : Addr) (ns : List Int), xs = [.ref a] ∧ SqL K H a (ns.map V.int) ∧ ns.length ≤ 4000 ∧
  ∀ p c, H p = none → Few ns c → Q (.ref p) (upd H p (SetO w p (fun j => decide (j ∈ ns)) c))
theorem cr_setLI {X : Cx} (hc : X.calm = true) : CallR X (.type "set") (rSetLI X.K X.w) := by
  intro pins s σ H xs us Q I r h
  obtain ⟨a, ns, rfl, hs, few, q⟩ := h
  rw [Vals.ref1 r]
  obtain ⟨its, rv, hl, _⟩ := I.list hs
  have are := ints_of_vals rv
  refine call_set_lstI ns (I.ok.hd hc) hl.isList (by simpa using are) (by unfold scanBound; omega) fun h' tk c RS fw kp => ?_
  exact ⟨.ref _, upd H s.heap.objs.size (SetO X.w s.heap.objs.size (fun j => decide (j ∈ ns)) c), I.laid (t' := tk) kp (Nat.le_refl _) (setO_new RS), rfl, q _ _ (I.hok.fresh (Nat.le_refl _)) fw⟩
theorem setLI_k {X : Cx} {K : PySem.W.Frag} {w : World} (e : X.K = K) (ew : X.w = w) (hc : X.calm = true) : CallR X (.type "set") (rSetLI K w) := by
  subst e
  subst ew
  exact cr_setLI hc
theorem sortS_k {X : Cx} {w : World} (ew : X.w = w) (hc : X.calm = true) : CallR X (.builtin "sorted") (rSortedSet w) := by
  subst ew
  exact cr_sortedSet hc
/-- members of a list within a few numbers are few -/
theorem nodup_few {α : Type} [DecidableEq α] : ∀ {ms L : List α}, ms.Nodup → (∀ m ∈ ms, m ∈ L) → ms.length ≤ L.length
  | [], _, _, _ => Nat.zero_le _
  | m :: ms, L, nd, sub => by
    have h1 := List.nodup_cons.mp nd
    have hm := sub m List.mem_cons_self
    have ih := nodup_few (ms := ms) (L := L.erase m) h1.2 fun x hx => (List.mem_erase_of_ne fun e => h1.1 (by rw [← e]; exact hx)).mpr (sub x (List.mem_cons_of_mem _ hx))
    rw [List.length_erase_of_mem hm] at ih
    have := List.length_pos_of_mem hm
    rw [List.length_cons]
    omega
section
variable {K : PySem.W.Frag} {G : Pa} {δ τ : List Sl} {t : Nat} {R : RX} {te : TE}
/-- sorted(set(..)) -/
theorem den_sset {w : World} (q : Den K G te δ τ t fun x δ1 t1 => ∃ ns L : List Int, x.dv = some (.list (ns.map .int)) ∧ ns.length ≤ 4000 ∧ (L.length < 64 ∧ ∀ n ∈ ns, n ∈ L) ∧
      ∀ ms : List Int, ms.Pairwise (· < ·) → (∀ k, k ∈ ms ↔ k ∈ ns) → ∀ p, R (.own p (ms.map .int)) δ1 t1) :
    Den K G (tCB (rSortedSet w) (tCons (tCB (rSetLI K w) (tCons te tNil)) tNil)) δ τ t R := fun σ vs H Q R0 k0 =>
  q σ vs H _ R0 fun u H1 x δ1 t1 ⟨ns, L, hx, ln, ⟨l64, sub⟩, q1⟩ R1 => by
    obtain ⟨p, us, rfl, hp, hq⟩ := R1.head.items hx
    have := hq.ints_of
    subst this
    refine ⟨p, ns, rfl, SqL.of hp, ln, fun s c ns0 few => ?_⟩
    obtain ⟨ms, nd, lm, inn⟩ := few
    have c64 : c < 64 := by
      have := nodup_few nd fun m hm => sub m (inn m hm)
      omega
    refine ⟨s, _, c, rfl, upd_same, c64, fun ms' p' pw mem _ np => ?_⟩
    have R2 := (R1.pop.grow (same_upd (o := SetO w s (fun j => decide (j ∈ ns)) c) ns0))
    exact k0 _ _ _ _ _ (q1 ms' pw (fun k => by rw [mem k]; exact decide_eq_true_iff) p') (R2.lst np (DqAll.ints ms'))
end
end Dl

set_option Elab.async false
set_option linter.all false
set_option maxRecDepth 100000
set_option maxHeartbeats 4000000
/-! instances of classes of the program: read, made, asked -/
namespace Dl
open PySem PySem.Spec PyProof.Rows L2 Glay Lw HT
/-! ### attributes -/
abbrev Fds := List (PyData × PyData)
abbrev obD (C : Addr) (ps : Fds) : PyData := .dict ((.none, .int (C : Int)) :: ps)
/-- the attribute f is d -/
inductive Fg (f : Str) (d : PyData) : Fds → Prop
  | here {ps : Fds} : Fg f d ((.str f, d) :: ps)
  | there {g : Str} {e : PyData} {ps : Fds} : f ≠ g → Fg f d ps → Fg f d ((.str g, e) :: ps)
/-- no attribute f -/
inductive Fn (f : Str) : Fds → Prop
  | nil : Fn f []
  | cons {g : Str} {e : PyData} {ps : Fds} : f ≠ g → Fn f ps → Fn f ((.str g, e) :: ps)
theorem lk_ne {f g : Str} {v : V} {us : List (Str × V)} (h : f ≠ g) : ((g, v) :: us).lookup f = us.lookup f := by
  rw [List.lookup_cons]
  have : (f == g) = false := beq_eq_false_iff_ne.mpr h
  rw [this]
theorem lk_eq {f : Str} {v : V} {us : List (Str × V)} : ((f, v) :: us).lookup f = some v := by
  rw [List.lookup_cons]
  have : (f == f) = true := beq_self_eq_true f
  rw [this]
theorem DqFs.at_ {K : PySem.W.Frag} {H : Hp} {f : Str} {d : PyData} : ∀ {us : List (Str × V)} {ps : Fds}, DqFs K H us ps → Fg f d ps → ∃ v, us.lookup f = some v ∧ Dq K H v d
  | _, _, .cons h t, .here => ⟨_, lk_eq, h⟩
  | _, _, .cons _ t, .there n g => by
    rw [lk_ne n]
    exact t.at_ g
theorem DqFs.no {K : PySem.W.Frag} {H : Hp} {f : Str} : ∀ {us : List (Str × V)} {ps : Fds}, DqFs K H us ps → Fn f ps → us.lookup f = none
  | _, _, .nil, _ => rfl
  | _, _, .cons _ t, .cons n g => by
    rw [lk_ne n]
    exact t.no g
theorem DqFs.len {K : PySem.W.Frag} {H : Hp} : ∀ {us : List (Str × V)} {ps : Fds}, DqFs K H us ps → us.length = ps.length
  | _, _, .nil => rfl
  | _, _, .cons _ t => congrArg (· + 1) t.len
theorem DqFs.put {K : PySem.W.Frag} {H : Hp} {f : Str} {v : V} {d : PyData} (hv : Dq K H v d) : ∀ {us : List (Str × V)} {ps : Fds}, DqFs K H us ps → Fn f ps → DqFs K H (putF f v us) (ps ++ [(.str f, d)])
  | _, _, .nil, _ => .cons hv .nil
  | (g, u) :: us, _, .cons h t, .cons n q => by
    unfold putF
    rw [if_neg fun z => n z.symm]
    exact .cons h (t.put hv q)
section
variable {K : PySem.W.Frag} {G : Pa} {H : Hp} {s : Sl} {v : V}
theorem RV.ob {O : Addr → Prop} {C : Addr} {ps : Fds} (h : RV K G O H s v) (e : s.dv = some (obD C ps)) : ∃ a dx us, v = .ref a ∧ H a = some (.ins C dx us) ∧ hid O H a = some (.ins C dx us) ∧ DqFs K (hid O H) us ps := by
  cases s with
  | dat d' =>
    cases e
    cases h with
    | dct _ z => cases z
    | obj _ h q => exact ⟨_, _, _, rfl, hid_le _ _ h, h, q⟩
  | own p xs => cases e
  | any => cases e
  | drw => cases e
  | raw _ => cases e
  | pin _ => cases e
  | pinT _ => cases e
  | rg _ _ => cases e
end
/-! ### calls of methods, where no repr goes on -/
section
variable {X : Cx} {k : Nat} {f C p : Addr} {fd : FuncData} {ps : List Str} {sp : Sp} {x m : Str} {pos apos : Pos} {e o : Expr} {es : List Expr} {ta : TE} {t : TA}
theorem run_fnG {pins : List (Addr × Obj)} {σ : L2.St} {H : Hp} {s : Shared} {Q : VK} {us : List Value} {vs : List V} (F : GOk X.prog X.w X.K X.mg X.base k f fd ps sp) (hr : Room k X.A) (hq : X.A.guards = some []) (hb : Binds X.K fd ps [])
    (I : Inv X pins σ H s) (r : Vals vs us) (h : sp vs H Q E0) : wpAny (model X.prog X.w) X.A (call (.ref f) us) (EP X pins σ Q) X.xe s := by
  have hl : us.length = ps.length := r.length.symm.trans (F.many h)
  have b := hb s us I.kIn (by rw [List.append_nil]; exact hl)
  rw [List.append_nil] at b
  refine wpAny_call (codeAny_mono (F.goes hr hq I.env0 b r h) fun fin s' hf => ?_)
  match fin, hf with
  | .error _, hf => exact hf.elim
  | .ok (.ret u), hf => exact I.after hf
/-- the same one builtin deeper -/
theorem run_fnG1 {pins : List (Addr × Obj)} {σ : L2.St} {H : Hp} {s : Shared} {Q : VK} {E' : Value → Shared → Prop} {us : List Value} {vs : List V} (F : GOk X.prog X.w X.K X.mg X.base k f fd ps sp) (hr : Room (k + 1) X.A) (hq : X.A.guards = some []) (hb : Binds X.K fd ps [])
    (I : Inv X pins σ H s) (r : Vals vs us) (h : sp vs H Q E0) : wpAny (model X.prog X.w) X.A.in1 (call (.ref f) us) (EP X pins σ Q) E' s := by
  have hl : us.length = ps.length := r.length.symm.trans (F.many h)
  have b := hb s us I.kIn (by rw [List.append_nil]; exact hl)
  rw [List.append_nil] at b
  refine wpAny_call (codeAny_mono (F.goes hr.in1 hq I.env0.in1 b r h) fun fin s' hf => ?_)
  match fin, hf with
  | .error _, hf => exact hf.elim
  | .ok (.ret u), hf => exact I.after hf
/-- a method's def, by what the class and the text say -/
structure Mt (K : PySem.W.Frag) (C : Addr) (m qual : Str) (st : Stmt) (ps : List Str) (f : Addr) (fd : FuncData) : Prop where
  fn : Fun K m qual st f fd
  me : Meth K C m f
  bs : Binds K fd ps []
  cl : Cls K C
variable {qual : Str} {st : Stmt}
theorem methG {pl : Sem Bool} (D : Mt X.K C m qual st ps f fd) (F : GOk X.prog X.w X.K X.mg X.base k f fd ps sp) (hr : Room k X.A) (hq : X.A.guards = some []) (he : PE X o ta) (ha : PA X (e :: es) t)
    (hst : starEach (e :: es) X.env = (false, eval e X.env) :: starEach es X.env := by rfl) (hpl : (backTo pos (starEach es X.env)).any (·.1) = false := by rfl)
    (ht : eval (.Call (.Attribute o m apos) (e :: es) [] pos) X.env = (do
      let ov ← eval o X.env
      standAt apos.atName
      let (g, fst) ← holding [ov] (getMethod ov m pl)
      callWith pos g fst (backTo pos (starEach (e :: es) X.env)) (backToKw pos (keywordEach [] X.env))) := by rfl) :
    PE X (.Call (.Attribute o m apos) (e :: es) [] pos) (tMeth C m sp [] E0 ta t) := by
  constructor
  intro pins s σ H Q I h
  refine PySem.W.methodCall_KW (pl := pl) (thn (he.run pins s σ H _ I h) ?_) ht
  rintro u s1 ⟨y, H1, I1, ry, a, dx, fs, rfl, ea, l, q⟩
  cases ry
  refine getmeth_ok I1 ea D.cl D.me l (PySem.W.callWith_K (first := [.ref a]) (h₀ := X.base) I.ok.mod.kin D.me.kp (thn (ha.run pos pins s1 σ H1 _ I1 q) ?_) hst hpl)
  rintro us s2 ⟨vs, H2, I2, r, q2⟩
  refine ⟨I2.kIn, run_fnG (us := .ref a :: us) (vs := .ref a :: vs) F hr hq D.bs I2 (.cons rfl r) ?_⟩
  rw [List.append_nil] at q2
  exact q2
theorem methG0 {pl : Sem Bool} (D : Mt X.K C m qual st ps f fd) (F : GOk X.prog X.w X.K X.mg X.base k f fd ps sp) (hr : Room k X.A) (hq : X.A.guards = some []) (he : PE X o ta)
    (ht : eval (.Call (.Attribute o m apos) [] [] pos) X.env = (do
      let ov ← eval o X.env
      standAt apos.atName
      let (g, fst) ← holding [ov] (getMethod ov m pl)
      callWith pos g fst (backTo pos (starEach [] X.env)) (backToKw pos (keywordEach [] X.env))) := by rfl) :
    PE X (.Call (.Attribute o m apos) [] [] pos) (tMeth C m sp [] E0 ta tNil) := by
  constructor
  intro pins s σ H Q I h
  refine PySem.W.methodCall_KW (pl := pl) (thn (he.run pins s σ H _ I h) ?_) ht
  rintro u s1 ⟨y, H1, I1, ry, a, dx, fs, rfl, ea, l, q⟩
  cases ry
  exact getmeth_ok I1 ea D.cl D.me l (PySem.W.callWith_K0 (first := [.ref a]) I1.kIn D.me.kp (run_fnG (us := [.ref a]) (vs := [.ref a]) F hr hq D.bs I1 (.cons rfl .nil) q))
/-- a property's getter -/
structure Pp (K : PySem.W.Frag) (C : Addr) (m qual : Str) (st : Stmt) (f : Addr) (fd : FuncData) : Prop where
  fn : Fun K m qual st f fd
  pr : ∃ p, PropOf K C m p f
  bs : Binds K fd ["self"] []
  cl : Cls K C
theorem propG (D : Pp X.K C m qual st f fd) (F : GOk X.prog X.w X.K X.mg X.base k f fd ["self"] sp) (hr : Room (k + 1) X.A) (hq : X.A.guards = some []) (he : PE X e ta)
    (hab : attributeBase e m X.env (eval e X.env) = eval e X.env := by rfl) : PE X (.Attribute e m pos) (tProp C sp [] E0 ta) := by
  constructor
  intro pins s σ H Q I h
  refine attr_of hab (thn (he.run pins s σ H _ I h) ?_)
  rintro u s1 ⟨y, H1, I1, ry, a, dx, fs, rfl, ea, q⟩
  cases ry
  obtain ⟨p, P⟩ := D.pr
  obtain ⟨mA, O, _, _, _, _⟩ := ins_get I1.hok ea
  obtain ⟨od, J, _⟩ := O.look
  obtain ⟨rest, hrec⟩ := P.rec_
  have I2 := I1.tok (s1.toks + 1)
  have hc : (PySem.W.clsIn X.K C).isSome = true := by
    obtain ⟨cd, z, _⟩ := PySem.W.any_some D.cl.hd
    rw [z]
    rfl
  have b := D.bs { s1 with toks := s1.toks + 1 } [.ref a] I2.kIn rfl
  refine PySem.W.get_bind I1.kIn J (PySem.W.plainGet_of (D.cl.get m)).1 (PySem.W.findObj_data hc P.at_ P.get P.tak) (PySem.W.plainGet_of (D.cl.get m)).2 (wpAny_call (PySem.W.prop_get (s := { s1 with toks := s1.toks + 1 }) I1.kIn hrec ?_))
  refine codeAny_mono (F.goes (us := [.ref a]) (vs := [.ref a]) hr.in1 hq I2.env0.in1 b (.cons rfl .nil) q) fun fin s' hf => ?_
  match fin, hf with
  | .error _, hf => exact hf.elim
  | .ok (.ret w), hf =>
    obtain ⟨z, H', I3, rz, qz⟩ := I2.after hf
    show wpAny _ _ (handedOut w) _ _ _
    rw [PySem.W.handedOut_of (handed_of rz)]
    exact wpAny_pure ⟨z, H', I3, rz, qz⟩
/-- C(..) -/
structure MkC (K : PySem.W.Frag) (mg : Str → Option Value) (x : Str) (C : Addr) (qual : Str) (st : Stmt) (ps : List Str) (f : Addr) (fd : FuncData) : Prop where
  fn : Fun K "__init__" qual st f fd
  how : Mk K C f
  bs : Binds K fd ps []
  cl : Cls K C
  at_ : mg x = some (.ref C)
theorem quiet_make {A : Around} {C : Addr} {us : List Value} {kw : List (Str × Value)} (hq : A.guards = some []) : (A.under (.builtin "type.__call__" ⟨.ref C :: us, kw⟩)).guards = some [] := by
  have z : Code.guards (.builtin "type.__call__" ⟨.ref C :: us, kw⟩) = [] := by
    unfold Code.guards
    rw [if_neg (by simp [Code.isGuard, guardIds])]
  unfold Around.under
  dsimp only
  rw [z, hq]
  rfl
theorem makeG (D : MkC X.K X.mg x C qual st ps f fd) (F : GOk X.prog X.w X.K X.mg X.base k f fd ps sp) (hr : Room (k + 1) X.A) (hq : X.A.guards = some []) (hg : Gl X x) (ha : PA X (e :: es) t)
    (hdb : (x == ("__debug__" : Str)) = false := by decide) (he : starEach (e :: es) X.env = (false, eval e X.env) :: starEach es X.env := by rfl) (hpl : (backTo pos (starEach es X.env)).any (·.1) = false := by rfl) :
    PE X (.Call (.Name x apos) (e :: es) [] pos) (tMake C sp [] E0 t) := by
  constructor
  intro pins s σ H Q I h
  refine wpAny_Call_Name_kw (ld_glob I hg D.at_ ?_ hdb)
  refine PySem.W.callWith_K (h₀ := X.base) I.ok.mod.kin D.how.kp (thn (ha.run pos pins s σ H _ I h) ?_) he hpl
  rintro us s1 ⟨vs, H1, I1, r, q⟩
  refine ⟨I1.kIn, ?_⟩
  have hs := q (s1.heap.objs.size + 1) s1.heap.objs.size (I1.hok.fresh (Nat.le_succ _)) (I1.hok.fresh (Nat.le_refl _)) (Nat.ne_of_lt (Nat.lt_succ_self _))
  rw [List.append_nil] at hs
  have I2 := Inv.made (C := C) I1
  have r2 : Vals (V.ref (s1.heap.objs.size + 1) :: vs) (Value.ref (s1.heap.objs.size + 1) :: us) := .cons rfl r
  have hl := r2.length.symm.trans (F.many hs)
  have b := D.bs _ (Value.ref (s1.heap.objs.size + 1) :: us) I2.kIn (by rw [List.append_nil]; exact hl)
  rw [List.append_nil] at b
  refine wpAny_call (make_map (f := f) I1.kIn D.how.makes D.how.init (beq_iff_eq.mp D.how.fn) (codeAny_mono (F.goes (hr.make C us []) (quiet_make hq) (I2.env0.make C us []) b r2 hs) fun fin s' hf => ?_))
  match fin, hf with
  | .error _, hf => exact hf.elim
  | .ok (.ret w), hf =>
    obtain ⟨z, H', I3, rz, ez, qz⟩ := I2.after hf
    subst ez
    exact ⟨rz, ⟨V.ref (s1.heap.objs.size + 1), H', I3, rfl, qz⟩⟩
/-- o(..), o an instance -/
def tInst (C : Addr) (sp : Sp) (ta : TE) (t : TA) : TE := fun σ H Q => ta σ H fun x H1 => ∃ a, x = .ref a ∧ t σ H1 fun vs H2 => (∃ dx fs, H2 a = some (.ins C dx fs)) ∧ sp (.ref a :: vs) H2 Q E0
theorem instG {fe : Expr} (D : Mt X.K C "__call__" qual st ps f fd) (fi : PySem.W.fnIn X.K f = true) (F : GOk X.prog X.w X.K X.mg X.base k f fd ps sp) (hr : Room k X.A) (hq : X.A.guards = some []) (hf : PE X fe ta) (ha : PA X (e :: es) t)
    (ht : eval (.Call fe (e :: es) [] pos) X.env = (do callWith pos (← eval fe X.env) [] (backTo pos (starEach (e :: es) X.env)) (backToKw pos (keywordEach [] X.env))) := by rfl)
    (he : starEach (e :: es) X.env = (false, eval e X.env) :: starEach es X.env := by rfl) (hpl : (backTo pos (starEach es X.env)).any (·.1) = false := by rfl) : PE X (.Call fe (e :: es) [] pos) (tInst C sp ta t) := by
  constructor
  intro pins s σ H Q I h
  refine Call_ (thn (hf.run pins s σ H _ I h) ?_) ht
  rintro u s1 ⟨y, H1, I1, ry, a, rfl, q⟩
  cases ry
  refine StX.callO_with (thn (ha.run pos pins s1 σ H1 _ I1 q) ?_) he hpl
  rintro us s2 ⟨vs, H2, I2, r, ⟨dx, fs, ea⟩, q2⟩
  obtain ⟨mA, O, _⟩ := ins_get I2.hok ea
  obtain ⟨od, J, _⟩ := O.look
  have r2 : Vals (V.ref a :: vs) (Value.ref a :: us) := .cons rfl r
  have hl := r2.length.symm.trans (F.many q2)
  have b := D.bs s2 (.ref a :: us) I2.kIn (by rw [List.append_nil]; exact hl)
  rw [List.append_nil] at b
  refine ⟨⟨C, _, od, J, rfl⟩, wpAny_call (PySem.W.kco_code I2.kIn J rfl D.me.at_ D.me.fn fi (codeAny_mono (F.goes hr hq I2.env0 b r2 q2) fun fin s' hf => ?_))⟩
  match fin, hf with
  | .error _, hf => exact hf.elim
  | .ok (.ret u), hf => exact I2.after hf
/-! ### operators and comparisons of two instances of one class -/
def rOp2 (C : Addr) (sp : Sp) : R2 := fun x y H Q => ∃ a dx fs b dy gs, x = .ref a ∧ y = .ref b ∧ H a = some (.ins C dx fs) ∧ H b = some (.ins C dy gs) ∧ sp [.ref a, .ref b] H Q E0
theorem ins_inst {pins : List (Addr × Obj)} {σ : L2.St} {H : Hp} {s : Shared} {a dx : Addr} {fs : List (Str × V)} (I : Inv X pins σ H s) (ea : H a = some (.ins C dx fs)) : ∃ ox od, PySem.W.InstAt s.heap a ox C od := by
  obtain ⟨mA, O, _⟩ := ins_get I.hok ea
  obtain ⟨od, J, _⟩ := O.look
  exact ⟨_, _, J⟩
theorem op_insG {op : Operator} (hm : PySem.dunder op.info.2 = m) (D : Mt X.K C m qual st ps f fd) (sf : PySem.W.selfFirst X.K C = true) (F : GOk X.prog X.w X.K X.mg X.base k f fd ps sp) (hr : Room k X.A) (hq : X.A.guards = some []) : OpR X (binaryOp op) (rOp2 C sp) := by
  intro pins s σ H x y v u Q I rx ry h
  obtain ⟨a, dx, fs, b, dy, gs, rfl, rfl, ea, eb, q⟩ := h
  cases rx
  cases ry
  obtain ⟨ox, od, J⟩ := ins_inst I ea
  obtain ⟨oy, oe, J'⟩ := ins_inst I eb
  obtain ⟨m', hF⟩ := I.fr
  subst hm
  refine PySem.W.binop_K hF I.ok.mod.kin J J'.type sf D.me.at_ D.me.fn (wpAny_mono (run_fnG (us := [.ref a, .ref b]) (vs := [.ref a, .ref b]) F hr hq D.bs I (.cons rfl (.cons rfl .nil)) q) (fun w' s' z => ?_) fun _ _ e => e)
  obtain ⟨z', H', I', rz, qz⟩ := z
  exact SlX.cmpback rz ⟨z', H', I', rz, qz⟩
theorem eq_insG (D : Mt X.K C "__eq__" qual st ps f fd) (F : GOk X.prog X.w X.K X.mg X.base k f fd ps sp) (hr : Room k X.A) (hq : X.A.guards = some []) : OpR X (compareOp .Eq) (rOp2 C sp) := by
  intro pins s σ H x y v u Q I rx ry h
  obtain ⟨a, dx, fs, b, dy, gs, rfl, rfl, ea, eb, q⟩ := h
  cases rx
  cases ry
  obtain ⟨ox, od, J⟩ := ins_inst I ea
  obtain ⟨oy, oe, J'⟩ := ins_inst I eb
  obtain ⟨m', hF⟩ := I.fr
  show wpAny (model X.prog X.w) X.A (richCompare .Eq (.ref a) (.ref b)) _ _ _
  refine PySem.W.cmp_K (op := .Eq) (tb := .ref C) hr.units0 hF I.ok.mod.kin J J'.type (by simp [PySem.W.notFirst]) D.me.at_ D.me.fn (wpAny_mono (run_fnG (us := [.ref a, .ref b]) (vs := [.ref a, .ref b]) F hr hq D.bs I (.cons rfl (.cons rfl .nil)) q) (fun w' s' z => ?_) fun _ _ e => e)
  obtain ⟨z', H', I', rz, qz⟩ := z
  exact SlX.cmpback rz ⟨z', H', I', rz, qz⟩
/-- `!=` by the class's own `__eq__` -/
structure NeC (K : PySem.W.Frag) (C : Addr) : Prop where
  ne : PySem.W.findIn K (.ref C) "__ne__" = some (some (.builtin "object.__ne__"))
  ob : PySem.W.mroIn K C (.type "object") = some true
section
variable {prog : Program} {w : World} {A : Around} {E : Value → Shared → Prop} {s : Shared} {K : PySem.W.Frag} {a b C g : Addr} {ox oy : Obj} {od oe : Option Obj} {Q : Value → Shared → Prop}
theorem ne_insK (hu : A.units + 1 < cLine) (Y : K.In s.heap) (J : PySem.W.InstAt s.heap a ox C od) (J' : PySem.W.InstAt s.heap b oy C oe) (N : NeC K C) (he : PySem.W.findIn K (.ref C) "__eq__" = some (some (.ref g))) (hf : PySem.W.isFn K (.ref g) = true)
    (h : wpAny (model prog w) A.in1 (call (.ref g) [.ref a, .ref b]) (fun v s' => ∃ r, v = .bool r ∧ Q (.bool (!r)) s') E s) : wpAny (model prog w) A (compareOp .NotEq (.ref a) (.ref b)) Q E s := by
  have inner : wpAny (model prog w) A.in1 (Builtin.«object.__ne__» ⟨[.ref a, .ref b], []⟩) (fun fin s' => ∃ r, fin = .done (.ret (.bool r)) ∧ Q (.bool r) s') E s := by
    unfold Builtin.«object.__ne__»
    refine wpAny_bind (m := slotArgs "__ne__" 1 _) (wpAny_pure ?_)
    refine wpAny_bind (wpAny_cRoomFor (show A.in1.units < cLine from hu) ?_)
    refine wpAny_bind (PySem.W.ifBound_K Y J he hf (wpAny_mono h (fun v s' z => ?_) fun _ _ e => e))
    obtain ⟨r, rfl, q⟩ := z
    refine wpAny_bind (m := truthy (.bool r)) (wpAny_truthy_bool ?_)
    exact wpAny_pure ⟨_, rfl, q⟩
  have called : wpAny (model prog w) A (call (.builtin "object.__ne__") [.ref a, .ref b]) (fun v s' => ∃ r, v = .bool r ∧ Q v s') E s := by
    refine wpAny_call (codeAny_call_builtin PySem.F.cmp_object.ne.plain PySem.F.cmpEntry_ne (PySem.W.check_slot (owner := "object") (n := "__ne__") PySem.F.cmpKind_ne PySem.F.cmpSplit_ne (J.type.andThen (PySem.W.looks_mroIn Y N.ob)) (PySem.F.cmpArgs_ne _ _) (wpAny_mono inner (fun fin s' z => ?_) fun _ _ e => e)))
    obtain ⟨r, rfl, q⟩ := z
    exact ⟨_, rfl, q⟩
  have one : wpAny (model prog w) A (tryCompare (.ref a) "__ne__" (.ref b)) (fun r s' => ∃ v, r = some v ∧ Q v s') E s := by
    unfold tryCompare
    simp only [callSpecialIfBound?, bindSpecialIfBound?]
    refine wpAny_bind (wpAny_holding (wpAny_bind (wpAny_bind (wpAny_bind (J.type.here ((PySem.W.looks_findIn Y N.ne).here ?_))))))
    refine wpAny_bind (wpAny_askSetting (wpAny_ite ?_))
    have fin : ∀ (R : Option Value → Shared → Prop), (∀ r s', Q (.bool r) s' → R (some (.bool r)) s') → wpAny (model prog w) A (call (.builtin "object.__ne__") ([.ref a] ++ [.ref b]) >>= fun v => pure (some v)) R E s := fun R k =>
      wpAny_bind (wpAny_mono called (fun v s' z => by
        obtain ⟨r, rfl, q⟩ := z
        exact wpAny_pure (k r s' q)) fun _ _ e => e)
    simp only [PySem.F.cmp_object.ne.bind]
    split
    · exact wpAny_bind (wpAny_pure (wpAny_pure (fin _ fun r s' q => wpAny_pure ⟨_, rfl, q⟩)))
    · exact wpAny_tryCatch (wpAny_bind (wpAny_pure (wpAny_pure (fin _ fun r s' q => wpAny_pure ⟨_, rfl, q⟩))))
  show wpAny (model prog w) A (richCompare .NotEq (.ref a) (.ref b)) Q E s
  unfold richCompare
  simp only [oneThing_ref]
  refine wpAny_holding (wpAny_bind (wpAny_cRoomFor (Nat.lt_of_succ_lt hu) ?_))
  refine wpAny_bind (J.type.here (wpAny_bind (J'.type.here ?_)))
  rw [if_neg (by simp)]
  refine wpAny_bind (wpAny_pure ?_)
  simp only [Bool.false_eq_true, if_false]
  refine wpAny_bind (wpAny_mono one (fun r s' z => ?_) fun _ _ e => e)
  obtain ⟨v, rfl, q⟩ := z
  exact wpAny_pure q
end
theorem ne_insG (N : NeC X.K C) (D : Mt X.K C "__eq__" qual st ps f fd) (F : GOk X.prog X.w X.K X.mg X.base k f fd ps sp) (hr : Room (k + 1) X.A) (hq : X.A.guards = some []) :
    OpR X (compareOp .NotEq) (fun x y H Q => rOp2 C (fun vs H Q' E => sp vs H (fun z H' => ∃ r, z = .bl r ∧ Q' (.bl (!r)) H') E) x y H Q) := by
  intro pins s σ H x y v u Q I rx ry h
  obtain ⟨a, dx, fs, b, dy, gs, rfl, rfl, ea, eb, q⟩ := h
  cases rx
  cases ry
  obtain ⟨ox, od, J⟩ := ins_inst I ea
  obtain ⟨oy, oe, J'⟩ := ins_inst I eb
  refine ne_insK (by have := hr.un; omega) I.kIn J J' N D.me.at_ D.me.fn (wpAny_mono (run_fnG1 (us := [.ref a, .ref b]) (vs := [.ref a, .ref b]) F hr hq D.bs I (.cons rfl (.cons rfl .nil)) q) (fun w' s' z => ?_) fun _ _ e => e)
  obtain ⟨z', H', I', rz, r, rfl, qz⟩ := z
  cases rz
  exact ⟨r, rfl, .bl (!r), H', I', rfl, qz⟩
end
end Dl

set_option Elab.async false
set_option linter.all false
set_option maxRecDepth 100000
set_option maxHeartbeats 4000000
/-! instances told by data -/
namespace Dl
open PySem PySem.Spec PyProof.Rows L2 Glay Lw HT
section
variable {K : PySem.W.Frag} {G : Pa} {δ τ : List Sl} {t : Nat} {R : RX} {te : TE} {ta : TA} {C : Addr}
theorem den_fld {f : Str} (q : Den K G te δ τ t fun x δ1 t1 => ∃ (C : Addr) (ps : Fds) (d : PyData), x.dv = some (obD C ps) ∧ (Cls K C ∧ NoAttr K C f) ∧ Fg f d ps ∧ R (.dat d) δ1 t1) : Den K G (tFld K te f) δ τ t R := fun σ vs H Q R0 k =>
  q σ vs H _ R0 fun u H1 x δ1 t1 ⟨C, ps, d, hx, ⟨c, n⟩, g, q1⟩ R1 => by
    obtain ⟨a, dx, us, rfl, ha, hh, hf⟩ := R1.head.ob hx
    obtain ⟨v, hv, qv⟩ := hf.at_ g
    exact ⟨a, C, dx, us, v, rfl, ha, c, n, hv, k _ _ _ _ _ q1 (R1.pop.dat (qv.mono weak _))⟩
theorem ex_fld {x : Sl} {f : Str} {C : Addr} {ps : Fds} {d : PyData} {Q : PyData → Prop} (h0 : x.dv = some (obD C ps)) (h1 : Cls K C ∧ NoAttr K C f) (h2 : Fg f d ps) (q : Q d) : ∃ (C : Addr) (ps : Fds) (d : PyData), x.dv = some (obD C ps) ∧ (Cls K C ∧ NoAttr K C f) ∧ Fg f d ps ∧ Q d := ⟨C, ps, d, h0, h1, h2, q⟩
/-- what goes into a call and comes back -/
theorem Rl.callD {R' : RX} {S : DSp} {σ : L2.St} {xs : List Sl} {us vs : List V} {H : Hp} {Q : VK} (R : Rl K G δ (xs ++ τ) t σ (us ++ vs) H) (l : xs.length = us.length) (s : S (xs.map Sl.soft) t fun x t' => R' x δ t')
    (k : ∀ v H' x δ' t', R' x δ' t' → Rl K G δ' (x :: τ) t' σ (v :: vs) H' → Q v H') : spD K S [] us H Q E0 := by
  have R2 := R.softAll l
  have l' : (xs.map Sl.soft).length = us.length := by rw [List.length_map]; exact l
  have R3 := R2.drop l'
  exact ⟨⟨G.dr, Pr G δ τ, H, G.tb⟩, xs.map Sl.soft, t, _, s, l', R2.into l' (fun p => cnt_soft xs), ⟨fun p => cnt_soft xs, fun _ h => nomatch h⟩, fun v H' x t' c R4 => k v H' x δ t' c (R3.back R4)⟩
theorem den_meth {m : Str} {S : DSp} (q : Den K G te δ τ t fun x δ1 t1 => ∃ ps : Fds, x.dv = some (obD C ps) ∧ Fn m ps ∧ DenA K G ta δ1 (x :: τ) t1 fun xs δ2 t2 => S ((x :: xs).map Sl.soft) t2 fun y t' => R y δ2 t') : Den K G (tMeth C m (spD K S) [] E0 te ta) δ τ t R := fun σ vs H Q R0 k =>
  q σ vs H _ R0 fun u H1 x δ1 t1 ⟨ps, hx, no, q1⟩ R1 => by
    obtain ⟨a, dx, us, rfl, ha, hh, hf⟩ := R1.head.ob hx
    refine ⟨a, dx, us, rfl, ha, hf.no no, q1 σ (.ref a :: vs) H1 _ R1 fun ws H2 xs δ2 t2 q2 l R2 => ?_⟩
    rw [List.append_nil]
    exact Rl.callD (xs := x :: xs) (us := .ref a :: ws) (R2.up1 l) (congrArg (· + 1) l) q2 k
theorem ex_om {x : Sl} {m : Str} {ps : Fds} {Q : Prop} (h0 : x.dv = some (obD C ps)) (h1 : Fn m ps) (q : Q) : ∃ ps : Fds, x.dv = some (obD C ps) ∧ Fn m ps ∧ Q := ⟨ps, h0, h1, q⟩
theorem den_prop {S : DSp} (q : Den K G te δ τ t fun x δ1 t1 => (∃ ps : Fds, x.dv = some (obD C ps)) ∧ S [x.soft] t1 fun y t' => R y δ1 t') : Den K G (tProp C (spD K S) [] E0 te) δ τ t R := fun σ vs H Q R0 k =>
  q σ vs H _ R0 fun u H1 x δ1 t1 ⟨⟨ps, hx⟩, q1⟩ R1 => by
    obtain ⟨a, dx, us, rfl, ha, hh, hf⟩ := R1.head.ob hx
    exact ⟨a, dx, us, rfl, ha, Rl.callD (xs := [x]) (us := [.ref a]) R1 rfl q1 k⟩
theorem ex_op {x : Sl} {ps : Fds} {Q : Prop} (h0 : x.dv = some (obD C ps)) (q : Q) : (∃ ps : Fds, x.dv = some (obD C ps)) ∧ Q := ⟨⟨ps, h0⟩, q⟩
theorem den_inst {S : DSp} (q : Den K G te δ τ t fun x δ1 t1 => (∃ ps : Fds, x.dv = some (obD C ps)) ∧ DenA K G ta δ1 (x :: τ) t1 fun xs δ2 t2 => S ((x :: xs).map Sl.soft) t2 fun y t' => R y δ2 t') : Den K G (tInst C (spD K S) te ta) δ τ t R := fun σ vs H Q R0 k =>
  q σ vs H _ R0 fun u H1 x δ1 t1 ⟨⟨ps, hx⟩, q1⟩ R1 => by
    obtain ⟨a, dx, us, rfl, ha, hh, hf⟩ := R1.head.ob hx
    refine ⟨a, rfl, q1 σ (.ref a :: vs) H1 _ R1 fun ws H2 xs δ2 t2 q2 l R2 => ?_⟩
    have R3 : Rl K G δ2 (x :: (xs ++ τ)) t2 σ (.ref a :: (ws ++ vs)) H2 := R2.up1 l
    obtain ⟨a', dx', us', e', ha', _, _⟩ := R3.head.ob hx
    cases e'
    exact ⟨⟨dx', us', ha'⟩, Rl.callD (xs := x :: xs) (us := .ref a :: ws) R3 (congrArg (· + 1) l) q2 k⟩
theorem dop_ins {S : DSp} {x y : Sl} {ps qs : Fds} (hx : x.dv = some (obD C ps)) (hy : y.dv = some (obD C qs)) (q : S [x.soft, y.soft] t fun z t' => R z δ t') : Dop K G (rOp2 C (spD K S)) x y δ τ t R := fun σ vs H u v Q R0 k => by
  obtain ⟨a, dx, us, rfl, ha, _, _⟩ := R0.h2.ob hx
  obtain ⟨b, dy, ws, rfl, hb, _, _⟩ := R0.head.ob hy
  exact ⟨a, dx, us, b, dy, ws, rfl, rfl, ha, hb, Rl.callD (xs := [x, y]) (us := [.ref a, .ref b]) (Rl.up1 (xs := [y]) (us := [.ref b]) R0 rfl) rfl q k⟩
theorem dop_insN {S : DSp} {x y : Sl} {ps qs : Fds} (hx : x.dv = some (obD C ps)) (hy : y.dv = some (obD C qs)) (q : S [x.soft, y.soft] t fun z t' => ∃ b, z = .dat (.bool b) ∧ R (.dat (.bool (!b))) δ t') :
    Dop K G (fun x y H Q => rOp2 C (fun vs H Q' E => spD K S [] vs H (fun z H' => ∃ r, z = .bl r ∧ Q' (.bl (!r)) H') E) x y H Q) x y δ τ t R := fun σ vs H u v Q R0 k => by
  obtain ⟨a, dx, us, rfl, ha, _, _⟩ := R0.h2.ob hx
  obtain ⟨b, dy, ws, rfl, hb, _, _⟩ := R0.head.ob hy
  refine ⟨a, dx, us, b, dy, ws, rfl, rfl, ha, hb, Rl.callD (R' := fun z δ' t' => ∃ b, z = .dat (.bool b) ∧ R (.dat (.bool (!b))) δ' t') (xs := [x, y]) (us := [.ref a, .ref b]) (Rl.up1 (xs := [y]) (us := [.ref b]) R0 rfl) rfl q fun v H' z δ' t' hz R1 => ?_⟩
  obtain ⟨b, rfl, hR⟩ := hz
  have := RV.bool R1.head
  subst this
  exact ⟨b, rfl, k _ _ _ _ _ hR (R1.pop.sc (.bl _))⟩
end
/-! ### instances made -/
abbrev ISp := List Sl → Nat → (Fds → Nat → Prop) → Prop
/-- the instance under way -/
structure Ob (K : PySem.W.Frag) (G : Pa) (a C dx : Addr) (ps : Fds) : Prop where
  o : G.O a
  nd : ¬ isDr G a
  at_ : ∃ us, G.H0 a = some (.ins C dx us) ∧ DqFs K (hid G.O G.H0) us ps
structure Up (a : Addr) (G G' : Pa) : Prop where
  dr : G'.dr = G.dr
  O : G'.O = G.O
  tb : G'.tb = G.tb
  old : ∀ b o, b ≠ a → ¬ isDr G b → G.H0 b = some o → G'.H0 b = some o
theorem Up.rfl {a : Addr} {G : Pa} : Up a G G := ⟨.refl _, .refl _, .refl _, fun _ _ _ _ h => h⟩
theorem Up.isDr {a b : Addr} {G G' : Pa} (u : Up a G G') : isDr G' b ↔ isDr G b := ⟨isDr_to u.dr.symm u.tb.symm, isDr_to u.dr u.tb⟩
theorem Up.trans {a : Addr} {G G1 G2 : Pa} (u : Up a G G1) (v : Up a G1 G2) : Up a G G2 := ⟨v.dr.trans u.dr, v.O.trans u.O, v.tb.trans u.tb, fun b o n d h => v.old b o n (fun z => d (u.isDr.mp z)) (u.old b o n d h)⟩
def spI (K : PySem.W.Frag) (C : Addr) (S : ISp) : Sp := fun vs H Q _ => ∃ (G : Pa) (a dx : Addr) (ws : List V) (xs : List Sl) (t : Nat) (CC : Fds → Nat → Prop), S xs t CC ∧ vs = .ref a :: ws ∧ xs.length = ws.length ∧ Ob K G a C dx [] ∧ Rl K G [] xs t [] ws H ∧
  (∀ p, cnt p xs = 0) ∧ ∀ G' H' ps t', CC ps t' → Up a G G' → Ob K G' a C dx ps → Rl K G' [] [] t' [] [] H' → Q .non H'
/-- statements behind which the ground may be another one -/
def DSg (K : PySem.W.Frag) (G : Pa) (ts : TS) (δ : List Sl) (t : Nat) (N : Pa → List Sl → Nat → Prop) : Prop :=
  ∀ σ H (E : Ends), Rl K G δ [] t σ [] H → (∀ G' σ' H' δ' t', N G' δ' t' → Rl K G' δ' [] t' σ' [] H' → E.nx σ' H') → ts E σ H
section
variable {K : PySem.W.Frag} {G : Pa} {δ : List Sl} {t : Nat} {N : Pa → List Sl → Nat → Prop} {a C dx : Addr}
theorem dsg_seq {x y : TS} (q : DSg K G x δ t fun G' δ' t' => DSg K G' y δ' t' N) : DSg K G (tSeq x y) δ t N := fun σ H E R0 k =>
  q σ H { E with nx := y E } R0 fun G' σ' H' δ' t' d R1 => d σ' H' E R1 k
theorem dsg_of {x : TS} (q : DS K G x δ [] t ⟨fun δ1 t1 => N G δ1 t1, fun _ _ => False, fun _ _ => False, fun _ _ => False⟩) : DSg K G x δ t N := fun σ H E R0 k =>
  q σ [] H E R0 (fun σ' H' δ' t' d R1 => k G σ' H' δ' t' d R1) (fun _ _ _ _ _ _ z => z.elim) (fun _ _ _ _ z => z.elim) fun _ _ _ _ z => z.elim
theorem Rl.softD {τ : List Sl} {σ : L2.St} {vs : List V} {H : Hp} (R : Rl K G δ τ t σ vs H) : Rl K G (δ.map Sl.soft) τ t σ vs H := by
  have go : ∀ n, n ≤ δ.length → Rl K G ((δ.take n).map Sl.soft ++ δ.drop n) τ t σ vs H := by
    intro n
    induction n with
    | zero => intro _; simpa using R
    | succ n ih =>
      intro hn
      have R1 := ih (by omega)
      have hl : ((δ.take n).map Sl.soft).length = n := by rw [List.length_map, List.length_take]; omega
      have hd : δ.drop n = δ[n] :: δ.drop (n + 1) := List.drop_eq_getElem_cons (by omega)
      have e : ((δ.take n).map Sl.soft ++ δ.drop n)[n]? = some δ[n] := by
        rw [hd, List.getElem?_append_right (by omega), hl, Nat.sub_self]
        rfl
      have R2 := R1.softAt e
      have e2 : ((δ.take n).map Sl.soft ++ δ.drop n).set n (δ[n]).soft = (δ.take (n + 1)).map Sl.soft ++ δ.drop (n + 1) := by
        rw [hd, List.set_append_right _ _ (by omega), hl, Nat.sub_self, List.set_cons_zero, List.take_succ_eq_append_getElem (by omega), List.map_append, List.append_assoc]
        rfl
      rw [e2] at R2
      exact R2
  have := go δ.length (Nat.le_refl _)
  rw [List.take_length, List.drop_length, List.append_nil] at this
  exact this
theorem TbOk.keepI {H H' : Hp} (T : TbOk G H) (k : ∀ b o, H b = some o → (∀ C dx us, o ≠ .ins C dx us) → H' b = some o) : TbOk G H' := fun P q m => by
  obtain ⟨o, ps, a1, a2, a3⟩ := T P q m
  refine ⟨o, ps, k _ _ a1 (fun _ _ _ z => by cases z), a2, fun pos cv hc => ?_⟩
  obtain ⟨c, b1, b2⟩ := a3 pos cv hc
  exact ⟨c, b1, k _ _ b2 fun _ _ _ z => by
    unfold LamX.CodeO at z
    cases z⟩
theorem DrOk.keepI {H : Hp} {us : List (Str × V)} (D : DrOk G H t) (ha : H a = some (.ins C dx us)) {ws : List (Str × V)} : DrOk G (upd H a (.ins C dx ws)) t := by
  have k : ∀ b o, H b = some o → (∀ C dx us, o ≠ .ins C dx us) → upd H a (.ins C dx ws) b = some o := fun b o e n => by
    rw [upd_ne fun z => by
      rw [z, ha] at e
      exact n _ _ _ (Option.some.inj e).symm]
    exact e
  refine ⟨fun d r c e => ?_, D.2.keepI k⟩
  obtain ⟨od, o_r, oc, u, hu, cells, rests, h1, h2, h3, h4, h5, h6, h7⟩ := D.1 d r c e
  exact ⟨od, o_r, oc, u, hu, cells, rests, h1, h2, h3, k _ _ h4 (fun _ _ _ z => by cases z), k _ _ h5 (fun _ _ _ z => by cases z), k _ _ h6 (fun _ _ _ z => by cases z), h7⟩
/-- self.f = e -/
theorem dsg_fld {f : Str} {te : TE} {i : Nat} {ps : Fds} (B : Ob K G a C dx ps) (few : ps.length ≤ 900) (no : Fn f ps) (cl : Cls K C ∧ NoAttr K C f)
    (q : Den K G te δ [] t fun y δ1 t1 => ∃ d, y.dv = some d ∧ δ1[i]? = some (.raw (.ref a)) ∧ ∀ G', Up a G G' → Ob K G' a C dx (ps ++ [(.str f, d)]) → N G' (δ1.map Sl.soft) t1) : DSg K G (sFld K (tVar i) te f) δ t N := fun σ H E R0 k =>
  q σ [] H _ R0 fun u H1 y δ1 t1 ⟨d, hy, hi, q1⟩ R1 => by
    obtain ⟨w, hw, hr⟩ := rd_at R1 hi (fun z => nomatch z)
    have hr : w = .ref a := hr
    subst hr
    obtain ⟨us, h0, hf⟩ := B.at_
    have h1 : H1 a = some (.ins C dx us) := R1.old a _ B.nd h0
    refine ⟨_, hw, a, C, dx, us, rfl, h1, cl.1, cl.2, by have := hf.len; omega, ?_⟩
    have R2 := R1.softTop.softD
    have e0 : ∀ b, cnt b (δ1.map Sl.soft) = 0 := fun b => cnt_soft δ1
    have prO : ∀ {τ : List Sl}, (∀ b, cnt b τ = 0) → Pr G (δ1.map Sl.soft) τ = G.O := fun {τ} z => funext fun b => by
      unfold Pr
      rw [e0 b, z b]
      simp
    have y0 : ∀ b, cnt b [y.soft] = 0 := fun b => by
      simp only [cnt, soft_has]
    have dr : ∀ b, ¬ G.O b → ¬ isDr G b := fun b h z => h (R1.dw.dr z).1
    have sm : Same (hid G.O H1) (hid G.O (upd H1 a (.ins C dx (putF f u us)))) := hid_same fun b o h e => by
      rw [upd_ne fun z => h (by rw [z]; exact B.o)]
      exact e
    have sm0 : Same (hid G.O G.H0) (hid G.O (upd H1 a (.ins C dx (putF f u us)))) := hid_same fun b o h e => by
      rw [upd_ne fun z => h (by rw [z]; exact B.o)]
      exact R1.old b o (dr b h) e
    have qy : Dq K (hid G.O H1) u d := by
      have h := R2.head
      have ed : y.soft = .dat d := by
        cases y with
        | dat d' => cases hy; rfl
        | own p xs => cases hy; rfl
        | any => cases hy
        | drw => cases hy
        | raw _ => cases hy
        | pin _ => cases hy
        | pinT _ => cases hy
        | rg _ _ => cases hy
      rw [prO y0, ed] at h
      exact h
    refine k ⟨G.dr, G.O, upd H1 a (.ins C dx (putF f u us)), G.tb⟩ σ _ _ _ (q1 _ ⟨rfl, rfl, rfl, fun b o n nd e => ?_⟩ ⟨B.o, B.nd, putF f u us, upd_same, (hf.mono sm0 _).put (qy.mono sm _) no⟩) ?_
    · show upd H1 a _ b = some o
      rw [upd_ne n]
      exact R1.old b o nd e
    · have R3 := R2.pop
      have D : DrOk G (upd H1 a (.ins C dx (putF f u us))) t1 := DrOk.keepI R3.dw h1
      refine ⟨pmap R3.sl fun j s o e h => ?_, .nil, fun p => by rw [e0 p]; simp [cnt], fun p h => by rw [e0 p] at h; simp [cnt] at h, fun p h => by rw [e0 p] at h; simp [cnt] at h, fun b hb => ?_, Frm.of (Same.refl _), ⟨D.1, D.2⟩⟩
      · have sm2 : Same (hid (Pr G (δ1.map Sl.soft) []) H1) (hid (Pr ⟨G.dr, G.O, upd H1 a (.ins C dx (putF f u us)), G.tb⟩ (δ1.map Sl.soft) []) (upd H1 a (.ins C dx (putF f u us)))) := by
          rw [prO (τ := []) fun _ => rfl]
          have : Pr ⟨G.dr, G.O, upd H1 a (.ins C dx (putF f u us)), G.tb⟩ (δ1.map Sl.soft) [] = G.O := prO (τ := []) fun _ => rfl
          rw [this]
          exact sm
        have h2 := h.to sm2 fun p xs us' z e' => by
          subst z
          have := pos_at e
          rw [e0 p] at this
          exact absurd this (by omega)
        rcases h2 with h2 | ⟨v', e', h2⟩
        · exact .inl h2
        · exact .inr ⟨v', e', h2.swapG rfl⟩
      · show upd H1 a _ b ≠ none
        by_cases z : b = a
        · rw [z, upd_same]
          exact Option.some_ne_none _
        · rw [upd_ne z]
          exact R3.live b hb
end
section
variable {P : Program} {w : World} {K : PySem.W.Frag} {mg : Str → Option Value} {base : Heap} {k : Nat} {f C : Addr} {fd : FuncData} {N ps : List Str} {S : ISp}
/-- an `__init__` that raises nothing here -/
theorem okI {x qual : Str} {st : Stmt} (F : Fun K x qual st f fd) (Sc : FnScope N ps (defScope st)) (many : ∀ {xs t CC}, S xs t CC → xs.length + 1 = ps.length)
    (body : ∀ (G : Pa) (a dx : Addr) (cdv : Value) (A : Around) (outer : List Env) (s : Shared) (H : Hp) (E : XK) (xs : List Sl) (t : Nat) (CC : Fds → Nat → Prop), A.guards = some [] → Room k (A.deeper (envOfC qual (defScope st) s.heap.objs.size f cdv)) → S xs t CC → Ob K G a C dx [] →
      ∃ tS, PSs (cxOf CX0 P w K mg base N qual (defScope st) f cdv A outer s H E).nox (defBody st) tS ∧ DSg K G tS (dst N (.raw (.ref a) :: xs)) t fun G' δ' t' => ∃ qs, CC qs t' ∧ Up a G G' ∧ Ob K G' a C dx qs) :
    GOk P w K mg base (k + 1) f fd ps (spI K C S) := by
  refine okG F Sc (fun h => ?_) fun cdv A outer s H vs Q E hq hr h => ?_
  · obtain ⟨G, a, dx, ws, xs, t, CC, h1, rfl, h3, _⟩ := h
    rw [← many h1, h3]
    rfl
  · obtain ⟨G, a, dx, ws, xs, t, CC, h1, rfl, h3, B, R, no, q⟩ := h
    obtain ⟨tS, runs, ds⟩ := body G a dx cdv A outer s H E xs t CC hq hr h1 B
    refine ⟨tS, runs, ?_⟩
    have hpl : ps.length ≤ N.length := by have := congrArg List.length Sc.pre; rw [List.length_take] at this; omega
    have Rp : Rl K G [] (.raw (.ref a) :: xs) t [] (.ref a :: ws) H := R.push (s := .raw (.ref a)) rfl fun _ => rfl
    have no2 : ∀ p, cnt p (.raw (.ref a) :: xs) = 0 := fun p => by
      simp only [cnt, no p]
      rfl
    have R0 : Rl K G (dst N (.raw (.ref a) :: xs)) [] t (L2.start N (.ref a :: ws)) [] H := by
      refine Rp.less (fun p => ?_) (fun m => dst_rs (by rw [List.length_cons, many h1]; exact hpl) (tm_to m Rp.tm)) fun _ => .nil
      have := cnt_dst (p := p) (ns := N) (xs := .raw (.ref a) :: xs)
      have := no2 p
      simp only [cnt] at *
      omega
    refine ds _ H _ R0 fun G' σ' H' δ' t' ⟨qs, c, u, B'⟩ R' => ?_
    exact q G' H' qs t' c u B' (R'.less (fun p => by simp only [cnt]; omega) (fun _ => .nil) fun _ => .nil)
end
section
variable {K : PySem.W.Frag} {G : Pa} {δ τ xs : List Sl} {t : Nat} {R : RX} {ta : TA} {C : Addr} {σ : L2.St} {us vs : List V} {H H2 : Hp} {O2 : Addr → Prop}
theorem isDr_mk {O : Addr → Prop} {H0 : Hp} {b : Addr} : isDr ⟨G.dr, O, H0, G.tb⟩ b ↔ isDr G b := ⟨isDr_to (G := ⟨G.dr, O, H0, G.tb⟩) (G' := G) rfl rfl, isDr_to (G := G) (G' := ⟨G.dr, O, H0, G.tb⟩) rfl rfl⟩
theorem Rl.enter (R0 : Rl K G δ (xs ++ τ) t σ (us ++ vs) H) (l : xs.length = us.length) (no : ∀ p, cnt p xs = 0) (m : Same (hid (Pr G δ τ) H) (hid O2 H2)) (liv : ∀ b, O2 b → H2 b ≠ none) (dw : DrOk ⟨G.dr, O2, H2, G.tb⟩ H2 t) :
    Rl K ⟨G.dr, O2, H2, G.tb⟩ [] xs t [] us H2 := by
  have ep : Pr G δ (xs ++ τ) = Pr G δ τ := funext fun b => by
    unfold Pr
    rw [cnt_append, no b, Nat.zero_add]
  have e : Pr ⟨G.dr, O2, H2, G.tb⟩ [] xs = O2 := funext fun b => by
    unfold Pr
    rw [no b]
    simp [cnt]
  refine ⟨.nil, ?_, fun p => by rw [no p]; simp [cnt], fun p h => by rw [no p] at h; simp [cnt] at h, fun p h => by rw [no p] at h; simp [cnt] at h, liv, Frm.of (Same.refl H2), dw⟩
  rw [e]
  have tm := (psplitL l R0.tm).1
  rw [ep] at tm
  exact pmap tm fun i s v es h => (h.to m fun p ys ws z _ => by
    subst z
    have := pos_at es
    rw [no p] at this
    exact absurd this (by omega)).swapG rfl
theorem den_make {S : ISp} (OK : OC K C) (q : DenA K G ta δ τ t fun xs δ1 t1 => S (xs.map Sl.soft) t1 fun ps t' => R (.dat (obD C ps)) δ1 t') : Den K G (tMake C (spI K C S) [] E0 ta) δ τ t R := fun σ vs H Q R0 k =>
  q σ vs H _ R0 fun us H1 xs δ1 t1 q1 l R1 a dx na nd ne => by
    rw [List.append_nil]
    have R2 := R1.softAll l
    have l' : (xs.map Sl.soft).length = us.length := by rw [List.length_map]; exact l
    have R3 := R2.drop l'
    have pa := R3.newAt na
    have dr : ∀ b, isDr G b → G.O b ∧ H1 b ≠ none := fun b h => R3.dw.dr h
    have nda : ¬ isDr G a := fun z => (dr a z).2 na
    have h2 : ∀ b o, H1 b = some o → upd (upd H1 dx (.own a)) a (.ins C dx []) b = some o := fun b o e => by
      rw [upd_ne (ne_of_none e na), upd_ne (ne_of_none e nd)]
      exact e
    have m : Same (hid (Pr G δ1 τ) H1) (hid (fun b => Pr G δ1 τ b ∨ b = a) (upd (upd H1 dx (.own a)) a (.ins C dx []))) := fun b o e => by
      by_cases z : Pr G δ1 τ b
      · rw [hid_on z] at e
        cases e
      · rw [hid_off z] at e
        rw [hid_off fun y => y.elim z fun y => by rw [y, na] at e; cases e]
        exact h2 b o e
    have dw2 : DrOk G (upd (upd H1 dx (.own a)) a (.ins C dx [])) t1 := R3.dw.same h2 (Nat.le_refl _)
    have R4 := R2.enter (O2 := fun b => Pr G δ1 τ b ∨ b = a) l' (fun p => cnt_soft xs) m (fun b hb => by
      rcases hb with hb | hb
      · cases z : H1 b with
        | none => exact ((R3.newAt z).1 hb).elim
        | some o =>
          rw [h2 b o z]
          exact Option.some_ne_none _
      · rw [hb, upd_same]
        exact Option.some_ne_none _) ⟨fun d r c e => by
          obtain ⟨x1, x2, x3, x4⟩ := dw2.1 d r c e
          exact ⟨.inl (.inl x1), .inl (.inl x2), .inl (.inl x3), x4⟩, fun P qq mm => ⟨.inl (.inl (dw2.2 P qq mm).1), (dw2.2 P qq mm).2⟩⟩
    refine ⟨⟨G.dr, fun b => Pr G δ1 τ b ∨ b = a, upd (upd H1 dx (.own a)) a (.ins C dx []), G.tb⟩, a, dx, us, _, t1, _, q1, rfl, l', ⟨Or.inr rfl, fun z => nda (isDr_mk.mp z), [], upd_same, .nil⟩, R4, fun p => cnt_soft xs, fun G' H' ps t' c u B R' => ⟨rfl, ?_⟩⟩
    have toG : ∀ b, isDr G' b → isDr G b := fun b z => isDr_mk.mp (u.isDr.mp z)
    have ofG : ∀ b, ¬ isDr G b → ¬ isDr G' b := fun b h z => h (toG b z)
    have f : Frm G H1 H' := fun b o z e => R'.old b o (ofG b z) (u.old b o (ne_of_none e na) (fun y => z (isDr_mk.mp y)) (h2 b o e))
    have dw : DrOk G H' t' := ⟨fun d r c e => by
      obtain ⟨x1, x2, x3, _⟩ := R3.dw.1 d r c e
      exact ⟨x1, x2, x3, (R'.dw.1 d r c (by rw [u.dr]; exact e)).2.2.2⟩, fun P qq mm => ⟨(R3.dw.2 P qq mm).1, (R'.dw.2 P qq (by rw [u.tb]; exact mm)).2⟩⟩
    have R5 := R3.step f dw
    obtain ⟨ws, h0, hf⟩ := B.at_
    refine k (.ref a) H' (.dat (obD C ps)) δ1 t' c (R5.dat (.obj OK (dx := dx) (us := ws) ?_ (hf.mono (fun b o e => ?_) _)))
    · rw [hid_off pa.1]
      exact R'.old a _ B.nd h0
    · by_cases z : G'.O b
      · rw [hid_on z] at e
        cases e
      · rw [hid_off z] at e
        have nz : ¬ Pr G δ1 τ b := fun y => z (by rw [u.O]; exact Or.inl y)
        rw [hid_off nz]
        exact R'.old b o (fun y => z (R'.dw.dr y).1) e
end
end Dl

set_option Elab.async false
set_option linter.all false
set_option maxRecDepth 100000
set_option maxHeartbeats 4000000
/-! x in o, -o, ~o, o << n: by the class's own methods -/
namespace Dl
open PySem PySem.Spec PyProof.Rows L2 Glay Lw HT
section
variable {X : Cx} {k : Nat} {f C : Addr} {fd : FuncData} {ps : List Str} {sp : Sp} {m qual : Str} {st : Stmt}
def rInO (C : Addr) (no : Bool) (sp : Sp) : R2 := fun x y H Q => ∃ b dy gs, y = .ref b ∧ H b = some (.ins C dy gs) ∧ sp [.ref b, x] H (fun z H' => ∃ r, z = .bl r ∧ Q (.bl (if no then !r else r)) H') E0
theorem in_insG (D : Mt X.K C "__contains__" qual st ps f fd) (F : GOk X.prog X.w X.K X.mg X.base k f fd ps sp) (hr : Room k X.A) (hq : X.A.guards = some []) : OpR X (compareOp .In) (rInO C false sp) := by
  intro pins s σ H x y v u Q I rx ry h
  obtain ⟨b, dy, gs, rfl, eb, q⟩ := h
  cases ry
  obtain ⟨oy, oe, J⟩ := ins_inst I eb
  obtain ⟨m', hF⟩ := I.fr
  refine PySem.W.in_K hF I.ok.mod.kin J D.me.at_ D.me.fn (wpAny_mono (run_fnG (us := [.ref b, v]) (vs := [.ref b, x]) F hr hq D.bs I (.cons rfl (.cons rx .nil)) q) (fun w' s' z => ?_) fun _ _ e => e)
  obtain ⟨z', H', I', rz, r, rfl, qz⟩ := z
  cases rz
  exact wpAny_truthy_bool ⟨.bl r, H', I', rfl, qz⟩
theorem nin_insG (D : Mt X.K C "__contains__" qual st ps f fd) (F : GOk X.prog X.w X.K X.mg X.base k f fd ps sp) (hr : Room k X.A) (hq : X.A.guards = some []) : OpR X (compareOp .NotIn) (rInO C true sp) := by
  intro pins s σ H x y v u Q I rx ry h
  obtain ⟨b, dy, gs, rfl, eb, q⟩ := h
  cases ry
  obtain ⟨oy, oe, J⟩ := ins_inst I eb
  obtain ⟨m', hF⟩ := I.fr
  refine PySem.W.notIn_K hF I.ok.mod.kin J D.me.at_ D.me.fn (wpAny_mono (run_fnG (us := [.ref b, v]) (vs := [.ref b, x]) F hr hq D.bs I (.cons rfl (.cons rx .nil)) q) (fun w' s' z => ?_) fun _ _ e => e)
  obtain ⟨z', H', I', rz, r, rfl, qz⟩ := z
  cases rz
  exact wpAny_truthy_bool ⟨.bl (!r), H', I', rfl, qz⟩
/-- -o, ~o -/
def rUnO (C : Addr) (sp : Sp) : V → Hp → VK → Prop := fun x H Q => ∃ a dx fs, x = .ref a ∧ H a = some (.ins C dx fs) ∧ sp [.ref a] H Q E0
theorem neg_insG (D : Mt X.K C "__neg__" qual st ps f fd) (F : GOk X.prog X.w X.K X.mg X.base k f fd ps sp) (hr : Room k X.A) (hq : X.A.guards = some []) : UnR X (unaryOp .USub) (rUnO C sp) := by
  intro pins s σ H x v Q I rx h
  obtain ⟨a, dx, fs, rfl, ea, q⟩ := h
  cases rx
  obtain ⟨ox, od, J⟩ := ins_inst I ea
  unfold unaryOp
  refine wpAny_holding ?_
  dsimp only
  rw [if_neg (by decide)]
  refine wpAny_bind (PySem.W.special_fn I.kIn J D.me.at_ (beq_iff_eq.mp D.me.fn) (wpAny_mono (run_fnG (us := [.ref a]) (vs := [.ref a]) F hr hq D.bs I (.cons rfl .nil) q) (fun w' s' z => ?_) fun _ _ e => e))
  exact wpAny_pure z
theorem inv_insG (D : Mt X.K C "__invert__" qual st ps f fd) (F : GOk X.prog X.w X.K X.mg X.base k f fd ps sp) (hr : Room k X.A) (hq : X.A.guards = some []) : UnR X (unaryOp .Invert) (rUnO C sp) := by
  intro pins s σ H x v Q I rx h
  obtain ⟨a, dx, fs, rfl, ea, q⟩ := h
  cases rx
  obtain ⟨ox, od, J⟩ := ins_inst I ea
  unfold unaryOp
  refine wpAny_holding ?_
  dsimp only
  rw [if_neg (by decide)]
  refine wpAny_bind (PySem.W.special_fn I.kIn J D.me.at_ (beq_iff_eq.mp D.me.fn) (wpAny_mono (run_fnG (us := [.ref a]) (vs := [.ref a]) F hr hq D.bs I (.cons rfl .nil) q) (fun w' s' z => ?_) fun _ _ e => e))
  exact wpAny_pure z
end
section
variable {K : PySem.W.Frag} {G : Pa} {δ τ : List Sl} {t : Nat} {R : RX} {C : Addr}
theorem dop_insIn {no : Bool} {S : DSp} {x y : Sl} {qs : Fds} (hy : y.dv = some (obD C qs)) (q : S [y.soft, x.soft] t fun z t' => ∃ b, z = .dat (.bool b) ∧ R (.dat (.bool (if no then !b else b))) δ t') : Dop K G (rInO C no (spD K S)) x y δ τ t R := fun σ vs H u v Q R0 k => by
  obtain ⟨b, dy, ws, rfl, hb, _, _⟩ := R0.head.ob hy
  refine ⟨b, dy, ws, rfl, hb, Rl.callD (R' := fun z δ' t' => ∃ b, z = .dat (.bool b) ∧ R (.dat (.bool (if no then !b else b))) δ' t') (xs := [y, x]) (us := [.ref b, u]) R0 rfl q fun v H' z δ' t' hz R1 => ?_⟩
  obtain ⟨b, rfl, hR⟩ := hz
  have := RV.bool R1.head
  subst this
  exact ⟨b, rfl, k _ _ _ _ _ hR (R1.pop.sc (.bl _))⟩
theorem dop_insI {S : DSp} {x y : Sl} {qs : Fds} (hy : y.dv = some (obD C qs)) (q : S [y.soft, x.soft] t fun z t' => ∃ b, z = .dat (.bool b) ∧ R (.dat (.bool b)) δ t') : Dop K G (rInO C false (spD K S)) x y δ τ t R := dop_insIn (no := false) hy q
theorem dop_insNI {S : DSp} {x y : Sl} {qs : Fds} (hy : y.dv = some (obD C qs)) (q : S [y.soft, x.soft] t fun z t' => ∃ b, z = .dat (.bool b) ∧ R (.dat (.bool (!b))) δ t') : Dop K G (rInO C true (spD K S)) x y δ τ t R := dop_insIn (no := true) hy q
theorem dun_ins {S : DSp} {x : Sl} {ps : Fds} (hx : x.dv = some (obD C ps)) (q : S [x.soft] t fun z t' => R z δ t') : Dun K G (rUnO C (spD K S)) x δ τ t R := fun σ vs H u Q R0 k => by
  obtain ⟨a, dx, us, rfl, ha, _, _⟩ := R0.head.ob hx
  exact ⟨a, dx, us, rfl, ha, Rl.callD (xs := [x]) (us := [.ref a]) R0 rfl q k⟩
end
section
variable {X : Cx} {K : PySem.W.Frag} {o e value : Expr} {f : Str} {pos pos' : Pos} {ta tv : TE}
theorem fld_k (h : X.K = K) (he : PE X e ta) (hb : attributeBase e f X.env (eval e X.env) = eval e X.env) : PE X (.Attribute e f pos) (tFld K ta f) := by
  subst h
  exact pe_fld he hb
theorem sfld_k (h : X.K = K) (ha : PE X o ta) (hv : PE X value tv) (hs : swapsWith value (some (.Attribute o f pos')) pos.line X.env = pure false) : PS X (.Assign [.Attribute o f pos'] value pos) (sFld K ta tv f) := by
  subst h
  exact ps_fld ha hv hs
end
end Dl

set_option Elab.async false
set_option linter.all false
set_option maxRecDepth 100000
set_option maxHeartbeats 4000000
/-! <= of truth values; an own list becomes told data ahead of a statement -/
namespace Dl
open PySem PySem.Spec PyProof.Rows L2 Glay Lw HT
def rLeB : R2 := fun x y H Q => ∃ i j : Bool, x = .bl i ∧ y = .bl j ∧ Q (.bl (!i || j)) H
theorem op_leB {X : Cx} : OpR X (compareOp .LtE) rLeB := by
  intro pins s σ H x y v u Q I rx ry h
  obtain ⟨i, j, rfl, rfl, q⟩ := h
  cases rx
  cases ry
  refine PyProof.Rows.le_bool ⟨.bl (!i || j), H, I, ?_, q⟩
  cases i <;> cases j <;> rfl
section
variable {K : PySem.W.Frag} {G : Pa} {δ τ : List Sl} {t : Nat} {R : RX}
theorem dop_leB {i j : Bool} (q : R (.dat (.bool (!i || j))) δ t) : Dop K G rLeB (.dat (.bool i)) (.dat (.bool j)) δ τ t R := fun σ vs H u v Q R0 k =>
  ⟨i, j, RV.bool R0.h2, RV.bool R0.head, k _ _ _ _ _ q (R0.pop.pop.sc (.bl _))⟩
theorem ds_soft {ts : TS} {D : DEnds} (i : Nat) {s : Sl} (e : δ[i]? = some s) (q : DS K G ts (δ.set i s.soft) τ t D) : DS K G ts δ τ t D := fun σ vs H E R0 k1 k2 k3 k4 =>
  q σ vs H E (R0.softAt e) k1 k2 k3 k4
end
end Dl

set_option Elab.async false
set_option linter.all false
set_option maxRecDepth 100000
set_option maxHeartbeats 4000000
/-! repr of data with dicts in them -/
namespace Dl
open PySem PySem.Spec PyProof.Rows L2 Glay Lw
mutual
/-- dicts whose keys are numbers and texts, no instances -/
def kd : PyData → Bool
  | .dict ps => kdKv ps
  | .list ds => kdAll ds
  | .tuple ds => kdAll ds
  | .none => true
  | .bool _ => true
  | .int _ => true
  | .str _ => true
def kdAll : List PyData → Bool
  | [] => true
  | d :: ds => kd d && kdAll ds
def kdKv : List (PyData × PyData) → Bool
  | [] => true
  | (.int _, d) :: ps => kd d && kdKv ps
  | (.str _, d) :: ps => kd d && kdKv ps
  | _ => false
end
mutual
/-- a bound of the text's length, dicts too -/
def cst : PyData → Nat
  | .dict ps => 3 + cstKv ps
  | .list ds => 3 + cstAll ds
  | .tuple ds => 3 + cstAll ds
  | .none => 8
  | .bool _ => 8
  | .int _ => 1925
  | .str x => (reprText x).length
def cstAll : List PyData → Nat
  | [] => 0
  | d :: ds => cst d + (2 + cstAll ds)
def cstKv : List (PyData × PyData) → Nat
  | [] => 0
  | (k, d) :: ps => cst k + (cst d + (4 + cstKv ps))
end
theorem len_shownKv : ∀ ps : List (PyData × PyData), (PyData.shownKv ps).length = ps.length
  | [] => rfl
  | (_, _) :: ps => congrArg (· + 1) (len_shownKv ps)
mutual
theorem cst_le : ∀ d : PyData, d.showable = true → d.shown.length ≤ cst d
  | .none, _ => by decide
  | .bool true, _ => by decide
  | .bool false, _ => by decide
  | .int i, h => shown_cost (.int i) h rfl
  | .str x, h => shown_cost (.str x) h rfl
  | .list ds, h => by
    simp only [PyData.showable] at h
    have := cstAll_le ds h
    have b := listText_len_le (PyData.shownAll ds)
    rw [PyData.shownAll_length] at b
    simp only [PyData.shown, cst]
    omega
  | .tuple ds, h => by
    simp only [PyData.showable] at h
    have := cstAll_le ds h
    have b := tupleText_len_le (PyData.shownAll ds)
    rw [PyData.shownAll_length] at b
    simp only [PyData.shown, cst]
    omega
  | .dict ps, h => by
    simp only [PyData.showable] at h
    have := cstKv_le ps h
    have b := dictText_len_le (PyData.shownKv ps)
    rw [len_shownKv] at b
    simp only [PyData.shown, cst]
    omega
theorem cstAll_le : ∀ ds : List PyData, PyData.showableAll ds = true → ((PyData.shownAll ds).map (·.length)).sum + 2 * ds.length ≤ cstAll ds
  | [], _ => Nat.le_refl _
  | d :: ds, h => by
    simp only [PyData.showableAll, Bool.and_eq_true] at h
    have a := cst_le d h.1
    have b := cstAll_le ds h.2
    simp only [PyData.shownAll, cstAll, List.map_cons, List.sum_cons, List.length_cons]
    omega
theorem cstKv_le : ∀ ps : List (PyData × PyData), PyData.showableKv ps = true → ((PyData.shownKv ps).map (·.length)).sum + 2 * ps.length ≤ cstKv ps
  | [], _ => Nat.le_refl _
  | (k, d) :: ps, h => by
    simp only [PyData.showableKv, Bool.and_eq_true] at h
    have a := cst_le k h.1.1
    have b := cst_le d h.1.2
    have c := cstKv_le ps h.2
    have e : (k.shown ++ ": " ++ d.shown).length = k.shown.length + 2 + d.shown.length := by
      rw [strLen_append, strLen_append]
      rfl
    simp only [PyData.shownKv, cstKv, List.map_cons, List.sum_cons, List.length_cons]
    omega
end
section
variable {X : Cx} {h : Heap}
/-- a value that is read as a datum, and shown as it -/
def Sh (X : Cx) (h : Heap) (u : Value) (d : PyData) : Prop := ∃ as bs, Reads h u d as ∧ ReadAtMost h d.depth bs ∧ ReprK X.prog X.w bs h d.depth u d.shown
def ShA (X : Cx) (h : Heap) (us : List Value) (ds : List PyData) : Prop := ∃ as bs, ReadsAll h us ds as ∧ ReadAtMost h (PyData.depthAll ds) bs ∧ ReprAllK X.prog X.w bs h (PyData.depthAll ds) us (PyData.shownAll ds)
def ShE (X : Cx) (h : Heap) (es : List DictEntry) (ps : List (PyData × PyData)) : Prop := ∃ as cs bs, ReadsAll h (es.map (·.key)) (ps.map (·.1)) as ∧ ReadsAll h (es.map (·.val)) (ps.map (·.2)) cs ∧ ReadAtMost h (PyData.depthKv ps) bs ∧
  ReprEntriesK X.prog X.w bs h (PyData.depthKv ps) es (PyData.shownKv ps)
theorem entries_more {P : Program} {w : World} {bs cs : List Addr} {n m : Nat} (q : ∀ b, b ∈ bs → b ∈ cs) (l : n ≤ m) : ∀ {es : List DictEntry} {ts : List Str}, ReprEntriesK P w bs h n es ts → ReprEntriesK P w cs h m es ts
  | _, _, .nil => .nil
  | _, _, .cons a b c => .cons ((a.more q).level_le l) ((b.more q).level_le l) (entries_more q l c)
theorem ram_nil {n : Nat} : ReadAtMost h n [] := by
  intro b z
  cases z
theorem sh_is {u : Value} {d : PyData} {as : List Addr} (r : Reads h u d as) (i : ReprIs X.prog X.w u d.shown) : Sh X h u d := ⟨as, [], r, ram_nil, .of_is i _ _ _⟩
theorem shA_nil : ShA X h [] [] := ⟨_, [], .nil, ram_nil, .nil⟩
theorem shA_cons {u : Value} {us : List Value} {d : PyData} {ds : List PyData} : Sh X h u d → ShA X h us ds → ShA X h (u :: us) (d :: ds)
  | ⟨_, b1, r1, m1, k1⟩, ⟨_, b2, r2, m2, k2⟩ => by
    have l1 : d.depth ≤ PyData.depthAll (d :: ds) := Nat.le_max_left _ _
    have l2 : PyData.depthAll ds ≤ PyData.depthAll (d :: ds) := Nat.le_max_right _ _
    exact ⟨_, b1 ++ b2, .cons r1 r2, (m1.mono l1).append (m2.mono l2), .cons ((k1.more fun _ z => List.mem_append.mpr (.inl z)).level_le l1) (k2.more_le (fun _ z => List.mem_append.mpr (.inr z)) l2)⟩
theorem shE_nil : ShE X h [] [] := ⟨_, _, [], .nil, .nil, ram_nil, .nil⟩
theorem shE_cons {e : DictEntry} {es : List DictEntry} {k d : PyData} {ps : List (PyData × PyData)} : Sh X h e.key k → Sh X h e.val d → ShE X h es ps → ShE X h (e :: es) ((k, d) :: ps)
  | ⟨_, b1, r1, m1, k1⟩, ⟨_, b2, r2, m2, k2⟩, ⟨_, _, b3, r3, r4, m3, k3⟩ => by
    have e0 : PyData.depthKv ((k, d) :: ps) = max (max k.depth d.depth) (PyData.depthKv ps) := rfl
    have l1 : k.depth ≤ PyData.depthKv ((k, d) :: ps) := by omega
    have l2 : d.depth ≤ PyData.depthKv ((k, d) :: ps) := by omega
    have l3 : PyData.depthKv ps ≤ PyData.depthKv ((k, d) :: ps) := by omega
    refine ⟨_, _, b1 ++ (b2 ++ b3), .cons r1 r3, .cons r2 r4, (m1.mono l1).append ((m2.mono l2).append (m3.mono l3)), ?_⟩
    refine .cons ((k1.more fun _ z => ?_).level_le l1) ((k2.more fun _ z => ?_).level_le l2) (entries_more (fun _ z => ?_) l3 k3) <;> simp [z]
/-- what repr of a list, of a tuple, of a dict wants of its parts -/
theorem out_of {a : Addr} {d : PyData} {as bs : List Addr} {n : Nat} (r : Reads h (.ref a) d as) (m : ReadAtMost h n bs) (l : n < d.depth) : a ∉ bs ∧ ReadAtMost h d.depth (a :: bs) :=
  ⟨not_mem_of_deeper r l m, m.cons r (Nat.le_of_lt l)⟩
theorem sh_lst {a : Addr} {o : Obj} {us : List Value} {n : Nat} {ds : List PyData} (h1 : h.get? a = some o) (h2 : o.cls = .type "list") (h3 : o.data = .seq us.toArray n) : ShA X h us ds → Sh X h (.ref a) (.list ds)
  | ⟨_, bs, r, m, k⟩ => by
    have rr : Reads h (.ref a) (.list ds) _ := .list h1 h2 h3 r
    obtain ⟨no, m2⟩ := out_of rr m (Nat.lt_succ_self _)
    cases us with
    | nil =>
      cases r
      refine ⟨_, _, rr, m2, ?_⟩
      rw [show PyData.shown (.list []) = ("[]" : Str) from listText_nil]
      exact .listEmpty h1 h2 h3
    | cons u us => exact ⟨_, _, rr, m2, .list h1 h2 h3 no (by simpa using k.length_eq) fun i y e => k.item i y (by simpa using e)⟩
theorem sh_tup {a : Addr} {o : Obj} {us : List Value} {n : Nat} {ds : List PyData} (h1 : h.get? a = some o) (h2 : o.cls = .type "tuple") (h3 : o.data = .seq us.toArray n) : ShA X h us ds → Sh X h (.ref a) (.tuple ds)
  | ⟨_, bs, r, m, k⟩ => by
    have rr : Reads h (.ref a) (.tuple ds) _ := .tuple h1 h2 h3 r
    obtain ⟨no, m2⟩ := out_of rr m (Nat.lt_succ_self _)
    exact ⟨_, _, rr, m2, .tuple h1 h2 h3 no k⟩
theorem sh_dct {a : Addr} {o : Obj} {es : Array DictEntry} {n : Nat} {ps : List (PyData × PyData)} (h1 : h.get? a = some o) (h2 : o.cls = .type "dict") (h3 : o.data = .dict es n) (ne : (a == sysModules) = false) : ShE X h es.toList ps → Sh X h (.ref a) (.dict ps)
  | ⟨_, _, bs, r, q, m, k⟩ => by
    have rr : Reads h (.ref a) (.dict ps) _ := .dict h1 h2 h3 r q
    obtain ⟨no, m2⟩ := out_of rr m (Nat.lt_succ_self _)
    exact ⟨_, _, rr, m2, .dict h1 h2 h3 ne no k⟩
/-- repr's call, at the top -/
def Top1 (X : Cx) (u : Value) (d : PyData) (s : Shared) : Prop := ∀ (Q : Value → Shared → Prop), (∀ h' t tk, (∀ b o, s.heap.get? b = some o → h'.get? b = some o) → Q (.str d.shown t) { s with heap := h', toks := tk }) → wpAny (model X.prog X.w) X.A (call (.builtin "repr") [u]) Q X.xe s
theorem top_lst {s : Shared} {a : Addr} {o : Obj} {us : List Value} {n : Nat} {ds : List PyData} (hq : X.A.guards = some []) (hu : X.A.units + 100 < cLine) (hd : PyData.depthAll ds ≤ 90) (sz : (PyData.shown (.list ds)).length ≤ sizeLine)
    (h1 : s.heap.get? a = some o) (h2 : o.cls = .type "list") (h3 : o.data = .seq us.toArray n) : ShA X s.heap us ds → Top1 X (.ref a) (.list ds) s
  | ⟨_, bs, r, m, k⟩ => fun Q hQ => by
    have rr : Reads s.heap (.ref a) (.list ds) _ := .list h1 h2 h3 r
    obtain ⟨no, m2⟩ := out_of rr m (Nat.lt_succ_self _)
    refine call_repr_slot (by omega) ⟨o, h1, h2⟩ F.slot_list_repr.toG ?_
    cases us with
    | nil =>
      cases r
      refine call_list_repr_empty ⟨o, h1, h2⟩ h1 h3 ⟨_, _, rfl, ?_⟩
      have := hQ s.heap s.toks (s.toks + 1) fun _ _ e => e
      rw [show PyData.shown (.list []) = ("[]" : Str) from listText_nil] at this
      exact this
    | cons u us =>
      exact call_list_reprK h1 h2 h3 no (by simpa using k.length_eq) (fun i y e => k.item i y (by simpa using e)) hq (fun b _ => Clear.nil b) (by show X.A.units + 1 + _ < _; omega) (fun _ _ e => e) (fun h' t tk kp => ⟨_, _, rfl, hQ h' t tk kp⟩) sz
theorem top_tup {s : Shared} {a : Addr} {o : Obj} {us : List Value} {n : Nat} {ds : List PyData} (hq : X.A.guards = some []) (hu : X.A.units + 100 < cLine) (hd : PyData.depthAll ds ≤ 90) (sz : (PyData.shown (.tuple ds)).length ≤ sizeLine)
    (h1 : s.heap.get? a = some o) (h2 : o.cls = .type "tuple") (h3 : o.data = .seq us.toArray n) : ShA X s.heap us ds → Top1 X (.ref a) (.tuple ds) s
  | ⟨_, bs, r, m, k⟩ => fun Q hQ => by
    have rr : Reads s.heap (.ref a) (.tuple ds) _ := .tuple h1 h2 h3 r
    obtain ⟨no, m2⟩ := out_of rr m (Nat.lt_succ_self _)
    refine call_repr_slot (by omega) ⟨o, h1, h2⟩ F.slot_tuple_repr ?_
    exact call_tuple_reprK h1 h2 h3 no k hq (fun b _ => Clear.nil b) (by show X.A.units + 1 + _ < _; omega) (fun _ _ e => e) (fun h' t tk kp => ⟨_, _, rfl, hQ h' t tk kp⟩) sz
theorem top_dct {s : Shared} {a : Addr} {o : Obj} {es : Array DictEntry} {n : Nat} {ps : List (PyData × PyData)} (hq : X.A.guards = some []) (hu : X.A.units + 100 < cLine) (hd : PyData.depthKv ps ≤ 90) (sz : (PyData.shown (.dict ps)).length ≤ sizeLine)
    (h1 : s.heap.get? a = some o) (h2 : o.cls = .type "dict") (h3 : o.data = .dict es n) (ne : (a == sysModules) = false) : ShE X s.heap es.toList ps → Top1 X (.ref a) (.dict ps) s
  | ⟨_, _, bs, r, q, m, k⟩ => fun Q hQ => by
    have rr : Reads s.heap (.ref a) (.dict ps) _ := .dict h1 h2 h3 r q
    obtain ⟨no, m2⟩ := out_of rr m (Nat.lt_succ_self _)
    refine call_repr_slot (by omega) ⟨o, h1, h2⟩ F.slot_dict_repr ?_
    exact call_dict_reprK h1 h2 h3 ne no k hq (fun b _ => Clear.nil b) (by show X.A.units + 1 + _ < _; omega) (fun _ _ e => e) (fun h' t tk kp => ⟨_, _, rfl, hQ h' t tk kp⟩) sz
end
section
variable {X : Cx} {pins : List (Addr × Obj)} {σ : L2.St} {H : Hp} {s : Shared}
theorem line_of {n : Nat} (h : n ≤ 4000000) : n ≤ sizeLine := Nat.le_trans h (by rw [sizeLine_eq]; decide)
mutual
theorem Dq.sh (I : Inv X pins σ H s) : ∀ {d : PyData} {v : V} {u : Value}, Dq X.K H v d → RelV v u → kd d = true → d.showable = true → cst d ≤ 4000000 → Sh X s.heap u d
  | _, _, _, .non, r, _, _, _ => by
    cases r
    exact sh_is .none .none
  | _, _, _, .bl b, r, _, _, _ => by
    cases r
    exact sh_is (.bool b) (.bool b)
  | _, _, _, .int i, r, _, z, _ => by
    obtain ⟨t, rfl⟩ := r
    exact sh_is (.int i t) (.int t (by simpa only [PyData.showable, decide_eq_true_eq] using z))
  | _, _, _, .str x, r, _, _, l => by
    obtain ⟨t, rfl⟩ := r
    exact sh_is (.str x t) (.str x t (line_of l))
  | _, _, _, .lst h q, r, k, z, l => by
    cases r
    obtain ⟨us, rv, ⟨o, n, h1, h2, _, h3⟩, _⟩ := I.list (SqL.of h)
    simp only [kd] at k
    simp only [PyData.showable] at z
    simp only [cst] at l
    exact sh_lst h1 h2 h3 (DqAll.sh I q rv k z (by omega))
  | _, _, _, .tup h q, r, k, z, l => by
    cases r
    obtain ⟨us, rv, ⟨o, h1, h2, n, h3⟩, _⟩ := I.tuple h
    simp only [kd] at k
    simp only [PyData.showable] at z
    simp only [cst] at l
    exact sh_tup h1 h2 h3 (DqAll.sh I q rv k z (by omega))
  | _, _, _, .dct h q, r, k, z, l => by
    cases r
    obtain ⟨_, ne, vs, rv, o, es, ep, h1, h2, h3, _, h4, _⟩ := dk_of I.hok h
    simp only [kd] at k
    simp only [PyData.showable] at z
    simp only [cst] at l
    exact sh_dct h1 h2.1 h3 ne (DqKv.sh I q rv h4 k z (by omega))
  | _, _, _, .obj _ _ _, _, k, _, _ => by
    simp only [kd] at k
    cases k
theorem DqAll.sh (I : Inv X pins σ H s) : ∀ {ds : List PyData} {vs : List V} {us : List Value}, DqAll X.K H vs ds → Vals vs us → kdAll ds = true → PyData.showableAll ds = true → cstAll ds ≤ 4000000 → ShA X s.heap us ds
  | _, _, _, .nil, .nil, _, _, _ => shA_nil
  | _, _, _, .cons h t, .cons r q, k, z, l => by
    simp only [kdAll, Bool.and_eq_true] at k
    simp only [PyData.showableAll, Bool.and_eq_true] at z
    simp only [cstAll] at l
    exact shA_cons (Dq.sh I h r k.1 z.1 (by omega)) (DqAll.sh I t q k.2 z.2 (by omega))
theorem DqKv.sh (I : Inv X pins σ H s) : ∀ {ps : List (PyData × PyData)} {kvs : List (L2.Key × V)} {vs : List (L2.Key × Value)} {es : List DictEntry}, DqKv X.K H kvs ps → KV kvs vs → Pairs (mixKind X.prog X.w) es vs → kdKv ps = true → PyData.showableKv ps = true → cstKv ps ≤ 4000000 → ShE X s.heap es ps
  | _, _, _, _, .nil, .nil, .nil, _, _, _ => shE_nil
  | _, _, _, _, .int h t, .cons ⟨e1, r⟩ q, .cons a e2 p, k, z, l => by
    simp only [kdKv, Bool.and_eq_true] at k
    simp only [PyData.showableKv, Bool.and_eq_true] at z
    simp only [cstKv] at l
    rw [← e1] at a
    rcases keyIs_shape ((mixKind_is X.prog X.w _ _).symm.trans a) with ⟨i, t1, c, e3⟩ | ⟨x, t1, c, e3⟩
    · obtain rfl := Sum.inl.inj c
      refine shE_cons ?_ (Dq.sh I h (by rw [e2]; exact r) k.1 z.1.2 (by omega)) (DqKv.sh I t q p k.2 z.2 (by omega))
      rw [e3]
      exact sh_is (.int _ t1) (.int t1 (by simpa only [PyData.showable, decide_eq_true_eq] using z.1.1))
    · cases c
  | _, _, _, _, .str h t, .cons ⟨e1, r⟩ q, .cons a e2 p, k, z, l => by
    simp only [kdKv, Bool.and_eq_true] at k
    simp only [PyData.showableKv, Bool.and_eq_true] at z
    simp only [cstKv] at l
    rw [← e1] at a
    rcases keyIs_shape ((mixKind_is X.prog X.w _ _).symm.trans a) with ⟨i, t1, c, e3⟩ | ⟨x, t1, c, e3⟩
    · cases c
    · obtain rfl := Sum.inr.inj c
      refine shE_cons ?_ (Dq.sh I h (by rw [e2]; exact r) k.1 z.1.2 (by omega)) (DqKv.sh I t q p k.2 z.2 (by omega))
      rw [e3]
      exact sh_is (.str _ t1) (.str _ t1 (line_of (Nat.le_trans (Nat.le_add_right _ _) l)))
end
/-- a datum that may be shown, dicts too -/
structure ShowsK (d : PyData) : Prop where
  show_ : d.showable = true
  keyed : kd d = true
  deep : d.depth ≤ 85
  small : cst d ≤ 4000000
end
def rReprK (K : PySem.W.Frag) : List V → Hp → VK → Prop := fun xs H Q => ∃ v d, xs = [v] ∧ Dq K H v d ∧ ShowsK d ∧ Q (.str d.shown) H
section
variable {X : Cx}
theorem call_reprK (hq : X.A.guards = some []) (hu : X.A.units + 100 < cLine) : CallR X (.builtin "repr") (rReprK X.K) := by
  intro pins s σ H xs us Q I r h
  obtain ⟨v, d, rfl, hd, sk, q⟩ := h
  obtain ⟨u, rfl, ru⟩ := vals1 r
  have sz : d.shown.length ≤ sizeLine := line_of (Nat.le_trans (cst_le d sk.show_) sk.small)
  have dd := sk.deep
  have cc := sk.small
  have kk := sk.keyed
  have zz := sk.show_
  cases hd with
  | non =>
    cases (show u = Value.none from ru)
    exact PySem.P.repr_of_none ⟨.str _, H, I.tok _, ⟨_, rfl⟩, q⟩
  | bl b =>
    cases (show u = Value.bool b from ru)
    refine PySem.P.repr_of_bool ⟨.str _, H, I.tok _, ⟨_, rfl⟩, ?_⟩
    cases b <;> exact q
  | int i =>
    obtain ⟨t, rfl⟩ := ru
    exact PySem.P.repr_of_int (by simpa [PyData.showable] using sk.show_) ⟨.str _, H, I.tok _, ⟨_, rfl⟩, q⟩
  | str x =>
    obtain ⟨t, rfl⟩ := ru
    exact PySem.P.repr_of_str ⟨.str _, H, I.tok _, ⟨_, rfl⟩, q⟩ sz
  | lst h t =>
    cases ru
    obtain ⟨us, rv, ⟨o, n, h1, h2, _, h3⟩, _⟩ := I.list (SqL.of h)
    simp only [kd] at kk
    simp only [PyData.showable] at zz
    simp only [cst] at cc
    simp only [PyData.depth] at dd
    exact top_lst hq hu (by omega) sz h1 h2 h3 (DqAll.sh I t rv kk zz (by omega)) _ fun h' t tk kp => ⟨.str _, H, I.kept kp, ⟨_, rfl⟩, q⟩
  | tup h t =>
    cases ru
    obtain ⟨us, rv, ⟨o, h1, h2, n, h3⟩, _⟩ := I.tuple h
    simp only [kd] at kk
    simp only [PyData.showable] at zz
    simp only [cst] at cc
    simp only [PyData.depth] at dd
    exact top_tup hq hu (by omega) sz h1 h2 h3 (DqAll.sh I t rv kk zz (by omega)) _ fun h' t tk kp => ⟨.str _, H, I.kept kp, ⟨_, rfl⟩, q⟩
  | dct h t =>
    cases ru
    obtain ⟨_, ne, vs, rv, o, es, ep, h1, h2, h3, _, h4, _⟩ := dk_of I.hok h
    simp only [kd] at kk
    simp only [PyData.showable] at zz
    simp only [cst] at cc
    simp only [PyData.depth] at dd
    exact top_dct hq hu (by omega) sz h1 h2.1 h3 ne (DqKv.sh I t rv h4 kk zz (by omega)) _ fun h' t tk kp => ⟨.str _, H, I.kept kp, ⟨_, rfl⟩, q⟩
  | obj O h t =>
    simp only [kd] at kk
    cases kk
theorem reprK_k {K : PySem.W.Frag} (e : X.K = K) (hq : X.A.guards = some []) (hu : X.A.units + 100 < cLine) : CallR X (.builtin "repr") (rReprK K) := by subst e; exact call_reprK hq hu
end
section
variable {K : PySem.W.Frag} {G : Pa} {δ τ : List Sl} {t : Nat} {R : RX} {x : Sl}
theorem dcb_reprK {d : PyData} (hx : x.dv = some d) (s : ShowsK d) (q : R (.dat (.str d.shown)) δ t) : Dcb K G (rReprK K) [x] δ τ t R := fun σ vs H us Q l R0 k => by
  obtain ⟨u, rfl⟩ := one_arg (xs := []) l
  exact ⟨u, d, rfl, RV.full R0.head hx, s, k _ _ _ _ _ q (R0.pop.sc (.str _))⟩
end
mutual
theorem kd_flat : ∀ d : PyData, d.canLay0 = true → kd d = true ∧ cst d = cost d
  | .none, _ => ⟨rfl, rfl⟩
  | .bool _, _ => ⟨rfl, rfl⟩
  | .int _, _ => ⟨rfl, rfl⟩
  | .str _, _ => ⟨rfl, rfl⟩
  | .list ds, h => by
    simp only [PyData.canLay0] at h
    obtain ⟨a, b⟩ := kdAll_flat ds h
    exact ⟨a, by simp only [cst, cost, b, Nat.add_comm]⟩
  | .tuple ds, h => by
    simp only [PyData.canLay0] at h
    obtain ⟨a, b⟩ := kdAll_flat ds h
    exact ⟨a, by simp only [cst, cost, b, Nat.add_comm]⟩
  | .dict _, h => by
    simp only [PyData.canLay0] at h
    cases h
theorem kdAll_flat : ∀ ds : List PyData, PyData.canLayAll0 ds = true → kdAll ds = true ∧ cstAll ds = costAll ds
  | [], _ => ⟨rfl, rfl⟩
  | d :: ds, h => by
    simp only [PyData.canLayAll0, Bool.and_eq_true] at h
    obtain ⟨a, b⟩ := kd_flat d h.1
    obtain ⟨a2, b2⟩ := kdAll_flat ds h.2
    refine ⟨by simp only [kdAll, a, a2, Bool.and_self], ?_⟩
    simp only [cstAll, costAll, b, b2]
    omega
end
theorem Shows.k {d : PyData} (h : Shows d) : ShowsK d := by
  obtain ⟨a, b⟩ := kd_flat d h.lay
  exact ⟨h.show_, a, Nat.le_trans h.deep (by decide), by rw [b]; exact h.small⟩
end Dl

set_option Elab.async false
set_option linter.all false
set_option maxRecDepth 100000
set_option maxHeartbeats 4000000
/-! == of data with dicts in them, with texts, empty tuples and lists, tuples of one text -/
namespace Dl
open PySem PySem.Spec PyProof.Rows L2 Glay Lw
section
open PySem.AutoSeq1 PySem.MeetsSeq PySem.MeetsSeq2 PySem.MeetsSeq3 PySem.SeqRoads2 PySem.SeqAt
theorem dct_no_str (a : Addr) (es : Array DictEntry) (n : Nat) (dd : Option Addr) (sl : Array (Option Value)) (x : Str) (t : Tok) :
    Meets (Builtin.«dict.__eq__» ⟨[.ref a, .str x t], []⟩) (fun _ R s => s.heap.get? a = some { cls := .type "dict", dict := dd, data := .dict es n, slots := sl } ∧ R (.ok (.ret .notImplemented)) s) := by
  refine .of_wp fun prog w A R s h => ?_
  obtain ⟨hp, g, d, tk, os⟩ := s
  obtain ⟨hl, h⟩ := h
  have f1 := F.sub_str_dict
  wp_walk using wpAny_loadPart' hl, wpAny_load hl
  exact ⟨_, rfl, h⟩
theorem str_no_dct (a : Addr) (es : Array DictEntry) (n : Nat) (dd : Option Addr) (sl : Array (Option Value)) (x : Str) (t : Tok) :
    Meets (Builtin.«str.__eq__» ⟨[.str x t, .ref a], []⟩) (fun _ R s => s.heap.get? a = some { cls := .type "dict", dict := dd, data := .dict es n, slots := sl } ∧ R (.ok (.ret .notImplemented)) s) := by
  refine .of_wp fun prog w A R s h => ?_
  obtain ⟨hp, g, d, tk, os⟩ := s
  obtain ⟨hl, h⟩ := h
  wp_walk using wpAny_loadPart' hl, wpAny_load hl
  exact ⟨_, rfl, h⟩
variable {A : Around} {s : Shared}
theorem rc_dct_str {a : Addr} {o : Obj} {es : Array DictEntry} {n : Nat} (x : Str) (t : Tok) (h1 : s.heap.get? a = some o) (h2 : o.cls = .type "dict") (h3 : o.data = .dict es n) (hu : A.units < cLine) : RcAt A s (.ref a) (.str x t) false := fun prog w E Q h => by
  obtain ⟨cls, dd, data, sl⟩ := o
  simp only at h2 h3
  subst h2 h3
  refine rc_eq_decline_or (k := false) ⟨_, h1, rfl⟩ (typeIs_str s x t) (by decide) F.sub_str_dict F.slot_dict_eq F.slot_str_eq_refl (fun _ hq => ?_) (fun _ hq => ?_) (fun _ hq => ?_) (.inr hu) h
  · exact call_meets F.slot_dict_eq ⟨_, h1, rfl⟩ F.entry_dict_eq (F.args_dict_eq_2 _ _) (dct_no_str a es n dd sl x t) ⟨h1, hq⟩
  · exact call_meets F.slot_str_eq_refl (typeIs_str s x t) F.entry_str_eq (F.args_str_eq_2 _ _) (str_no_dct a es n dd sl x t) ⟨h1, hq⟩
  · exact wpAny_of_eq (rfl : isSame (.ref a) (.str x t) = pure false) hq
theorem eq_dct_str {a : Addr} {o : Obj} {es : Array DictEntry} {n : Nat} (x : Str) (t : Tok) (h1 : s.heap.get? a = some o) (h2 : o.cls = .type "dict") (h3 : o.data = .dict es n) (hu : A.units < cLine) : EqAt A s (.ref a) (.str x t) false := fun prog w E Q h => by
  unfold eqBool
  refine wpAny_holding (wpAny_ite_split (fun z => absurd (eq_of_beq z) nofun) fun _ => ?_)
  exact wpAny_bind (rc_dct_str x t h1 h2 h3 hu prog w E _ (wpAny_truthy_bool h))
end
section
open PySem.SeqAt
variable {X : Cx} {pins : List (Addr × Obj)} {σ : L2.St} {H : Hp} {s : Shared} {A : Around}
theorem rc_str (I : Inv X pins σ H s) {v : V} {u : Value} {d : PyData} (hd : Dq X.K H v d) (r : RelV v u) (k : kd d = true) (x : Str) (t : Tok) (hu : A.units < cLine) : RcAt A s u (.str x t) (PyData.eqv d (.str x)) ∧ EqAt A s u (.str x t) (PyData.eqv d (.str x)) := by
  cases hd with
  | non =>
    cases r
    exact ⟨.none_str x t, .none_str x t⟩
  | bl b =>
    cases r
    exact ⟨.bool_str b x t, .bool_str b x t⟩
  | int i =>
    obtain ⟨t', rfl⟩ := r
    exact ⟨.int_str i t' x t, .int_str i t' x t⟩
  | str y =>
    obtain ⟨t', rfl⟩ := r
    exact ⟨.str_str y t' x t, .str_str y t' x t⟩
  | lst h q =>
    cases r
    obtain ⟨us, rv, ⟨o, n, h1, h2, _, h3⟩, _⟩ := I.list (SqL.of h)
    exact ⟨.list_str x t ⟨o, h1, h2, n, h3⟩ hu, .list_str x t ⟨o, h1, h2, n, h3⟩ hu⟩
  | tup h q =>
    cases r
    obtain ⟨us, rv, ⟨o, h1, h2, n, h3⟩, _⟩ := I.tuple h
    exact ⟨.tuple_str x t ⟨o, h1, h2, n, h3⟩ hu, .tuple_str x t ⟨o, h1, h2, n, h3⟩ hu⟩
  | dct h q =>
    cases r
    obtain ⟨_, ne, vs, rv, o, es, ep, h1, h2, h3, _⟩ := dk_of I.hok h
    exact ⟨rc_dct_str x t h1 h2.1 h3 hu, eq_dct_str x t h1 h2.1 h3 hu⟩
  | obj O h q =>
    simp only [kd] at k
    cases k
/-- what such data are compared with -/
inductive Pat : PyData → PyData → Prop
  | str (d : PyData) (x : Str) : kd d = true → Pat d (.str x)
  | tup0 (ds : List PyData) : Pat (.tuple ds) (.tuple [])
  | tup1 (ds : List PyData) (x : Str) : (∀ d, ds.head? = some d → kd d = true) → Pat (.tuple ds) (.tuple [.str x])
  | lst0 (ds : List PyData) : Pat (.list ds) (.list [])
def rEqP (K : PySem.W.Frag) : R2 := fun x y H Q => ∃ d e, Dq K H x d ∧ Dq K H y e ∧ Pat d e ∧ Q (.bl (PyData.eqv d e)) H
def rNeP (K : PySem.W.Frag) : R2 := fun x y H Q => ∃ ds, Dq K H x (.list ds) ∧ Dq K H y (.list []) ∧ Q (.bl (!ds.isEmpty)) H
theorem sz_of {us : List Value} {vs : List V} {ds : List PyData} (r : Vals vs us) (q : DqAll X.K H vs ds) : us.toArray.size = ds.length := by
  rw [List.size_toArray, ← q.len]
  exact r.length.symm
theorem op_eqP (hu : X.A.units + 64 < cLine) : OpR X (compareOp .Eq) (rEqP X.K) := by
  intro pins s σ H x y v u Q I rx ry ⟨d, e, hd, he, p, q⟩
  have fin : Q (.bl (PyData.eqv d e)) H := q
  cases p with
  | str _ x k =>
    cases he
    obtain ⟨t, rfl⟩ := ry
    exact (rc_str I hd rx k x t (by omega)).1 _ _ _ _ ⟨.bl _, H, I, rfl, fin⟩
  | tup0 ds =>
    cases hd with
    | tup h1 q1 =>
      cases he with
      | tup h2 q2 =>
        cases rx
        cases ry
        cases q2
        obtain ⟨us, r1, ⟨o, a1, a2, n, a3⟩, _⟩ := I.tuple h1
        obtain ⟨ws, r2, ⟨o2, b1, b2, n2, b3⟩, _⟩ := I.tuple h2
        cases r2
        refine RcAt.tuples (e := fun _ => true) ⟨o, a1, a2, n, a3⟩ ⟨o2, b1, b2, n2, b3⟩ (by omega) (fun j _ z => absurd z (by simp)) _ _ _ _ ⟨.bl _, H, I, ?_, fin⟩
        have l := sz_of r1 q1
        cases ds with
        | nil =>
          show Value.bool _ = Value.bool _
          rw [l]
          rfl
        | cons d ds =>
          show Value.bool _ = Value.bool _
          rw [l]
          rfl
  | lst0 ds =>
    cases hd with
    | lst h1 q1 =>
      cases he with
      | lst h2 q2 =>
        cases rx
        cases ry
        cases q2
        obtain ⟨us, r1, ⟨o, n, a1, a2, _, a3⟩, _⟩ := I.list (SqL.of h1)
        obtain ⟨ws, r2, ⟨o2, n2, b1, b2, _, b3⟩, _⟩ := I.list (SqL.of h2)
        cases r2
        have l := sz_of r1 q1
        cases ds with
        | nil =>
          refine RcAt.lists (e := fun _ => true) ⟨o, a1, a2, n, a3⟩ ⟨o2, b1, b2, n2, b3⟩ (by rw [l]; rfl) (by omega) (fun j _ z => absurd z (by simp)) _ _ _ _ ⟨.bl _, H, I, ?_, fin⟩
          show Value.bool _ = Value.bool _
          rw [l]
          rfl
        | cons d ds => exact RcAt.lists_lengths ⟨o, a1, a2, n, a3⟩ ⟨o2, b1, b2, n2, b3⟩ (by rw [l]; rfl) (by omega) _ _ _ _ ⟨.bl _, H, I, rfl, fin⟩
  | tup1 ds x kk =>
    cases hd with
    | tup h1 q1 =>
      cases he with
      | tup h2 q2 =>
        cases rx
        cases ry
        cases q2 with
        | cons q3 q4 =>
          cases q3
          cases q4
          obtain ⟨us, r1, ⟨o, a1, a2, n, a3⟩, _⟩ := I.tuple h1
          obtain ⟨ws, r2, ⟨o2, b1, b2, n2, b3⟩, _⟩ := I.tuple h2
          cases r2 with
          | cons r3 r4 =>
            cases r4
            obtain ⟨t, rfl⟩ := r3
            have l := sz_of r1 q1
            cases q1 with
            | nil =>
              cases r1
              refine RcAt.tuples (e := fun _ => true) ⟨o, a1, a2, n, a3⟩ ⟨o2, b1, b2, n2, b3⟩ (by omega) (fun j z _ => absurd z (by simp)) _ _ _ _ ⟨.bl _, H, I, rfl, fin⟩
            | @cons v0 vs0 d ds g1 g2 =>
              cases r1 with
              | @cons _ u0 _ us0 c1 c2 =>
                have w := (rc_str (A := X.A.in1) I g1 c1 (kk d rfl) x t (by show X.A.units + 1 < _; omega)).2
                refine RcAt.tuples (e := fun _ => PyData.eqv d (.str x)) ⟨o, a1, a2, n, a3⟩ ⟨o2, b1, b2, n2, b3⟩ (by omega) (fun j z1 z2 => ?_) _ _ _ _ ⟨.bl _, H, I, ?_, fin⟩
                · obtain rfl : j = 0 := by
                    simp at z2
                    exact z2
                  exact w
                · show Value.bool _ = Value.bool _
                  rw [l]
                  cases ds with
                  | nil =>
                    show Value.bool ((List.range 1).all _ && true) = Value.bool (PyData.eqv d (.str x) && true)
                    simp
                  | cons d2 ds =>
                    show Value.bool _ = Value.bool (PyData.eqv d (.str x) && false)
                    simp
theorem op_neP (hu : X.A.units + 64 < cLine) : OpR X (compareOp .NotEq) (rNeP X.K) := by
  intro pins s σ H x y v u Q I rx ry ⟨ds, hd, he, q⟩
  cases hd with
  | lst h1 q1 =>
    cases he with
    | lst h2 q2 =>
      cases rx
      cases ry
      cases q2
      obtain ⟨us, r1, ⟨o, n, a1, a2, _, a3⟩, _⟩ := I.list (SqL.of h1)
      obtain ⟨ws, r2, ⟨o2, n2, b1, b2, _, b3⟩, _⟩ := I.list (SqL.of h2)
      cases r2
      have l := sz_of r1 q1
      cases ds with
      | nil =>
        refine RcNeAt.lists (e := fun _ => true) ⟨o, a1, a2, n, a3⟩ ⟨o2, b1, b2, n2, b3⟩ (by rw [l]; rfl) (by omega) (fun j _ z => absurd z (by simp)) _ _ _ _ ⟨.bl _, H, I, ?_, q⟩
        show Value.bool _ = Value.bool _
        rw [l]
        rfl
      | cons d ds => exact RcNeAt.lists_lengths ⟨o, a1, a2, n, a3⟩ ⟨o2, b1, b2, n2, b3⟩ (by rw [l]; rfl) (by omega) _ _ _ _ ⟨.bl _, H, I, rfl, q⟩
theorem eqp_k {K : PySem.W.Frag} (e : X.K = K) (hu : X.A.units + 64 < cLine) : OpR X (compareOp .Eq) (rEqP K) := by subst e; exact op_eqP hu
theorem nep_k {K : PySem.W.Frag} (e : X.K = K) (hu : X.A.units + 64 < cLine) : OpR X (compareOp .NotEq) (rNeP K) := by subst e; exact op_neP hu
end
section
variable {K : PySem.W.Frag} {G : Pa} {δ τ : List Sl} {t : Nat} {R : RX} {x y : Sl}
theorem dop_eqP {d e : PyData} (hx : x.dv = some d) (hy : y.dv = some e) (p : Pat d e) (q : R (.dat (.bool (PyData.eqv d e))) δ t) : Dop K G (rEqP K) x y δ τ t R := fun σ vs H u v Q R0 k =>
  ⟨d, e, R0.h2.full hx, R0.head.full hy, p, k _ _ _ _ _ q (R0.pop.pop.sc (.bl _))⟩
theorem dop_neP {ds : List PyData} (hx : x.dv = some (.list ds)) (hy : y.dv = some (.list [])) (q : R (.dat (.bool (!ds.isEmpty))) δ t) : Dop K G (rNeP K) x y δ τ t R := fun σ vs H u v Q R0 k =>
  ⟨ds, R0.h2.full hx, R0.head.full hy, k _ _ _ _ _ q (R0.pop.pop.sc (.bl _))⟩
end
end Dl

set_option Elab.async false
set_option linter.all false
set_option maxRecDepth 100000
set_option maxHeartbeats 4000000
/-! zip of a tuple and a list -/
namespace Dl
open PySem PySem.Spec PyProof.Rows L2 Glay Lw
/-- a tuple's and a list's items, in new pairs -/
def ItzM (K : PySem.W.Frag) (a b : Addr) : It :=
  ⟨fun i H => ∃ (us ws : List V) (u w : V), SqT K H a us ∧ SqL K H b ws ∧ us[i]? = some u ∧ ws[i]? = some w,
    fun i H v H' => ∃ T u w, v = .ref T ∧ H T = none ∧ H' = upd H T (.tup [u, w]) ∧ (∀ us, SqT K H a us → us[i]? = some u) ∧ ∀ ws, SqL K H b ws → ws[i]? = some w,
    fun i H => ∃ us ws : List V, SqT K H a us ∧ SqL K H b ws ∧ i = min us.length ws.length⟩
def tnM (a b z TI TO i1 i2 : Addr) (i : Nat) (h : Heap) : Prop :=
  IsZip h z TI TO .none ∧ IsTupOf2 h TI (.ref i1) (.ref i2) ∧ (∃ x y, IsTupOf2 h TO x y) ∧ h.IsTupleIter i1 a i ∧ h.IsListIter i2 b i
theorem mem5 {c z TI TO i1 i2 : Addr} (h : c ∈ [z, TI, TO, i1, i2]) : c = z ∨ c = TI ∨ c = TO ∨ c = i1 ∨ c = i2 := by simpa using h
theorem tnM_obj {a b z TI TO i1 i2 : Addr} {i : Nat} {h : Heap} (q : tnM a b z TI TO i1 i2 i h) : ∀ c, c ∈ [z, TI, TO, i1, i2] → ∃ o, h.get? c = some o ∧ ∀ v, o.data ≠ .cell v := by
  obtain ⟨hz, hI, ⟨x, y, hO⟩, ⟨o1, e1, _, d1⟩, ⟨o2, e2, _, d2⟩⟩ := q
  intro c hc
  rcases mem5 hc with rfl | rfl | rfl | rfl | rfl
  · exact ⟨_, hz, fun v => nofun⟩
  · exact ⟨_, hI, fun v => nofun⟩
  · exact ⟨_, hO, fun v => nofun⟩
  · exact ⟨_, e1, fun v => by rw [d1]; nofun⟩
  · exact ⟨_, e2, fun v => by rw [d2]; nofun⟩
theorem slot_zip {s : Shared} {z TI TO : Addr} {v : Value} (hz : IsZip s.heap z TI TO v) : s.TypeIs (.ref z) "zip" := ⟨_, hz, rfl⟩
theorem turn_zipM {P : Program} {w : World} {K : PySem.W.Frag} {elts : List Expr} {kk : Nat} {tpos : Pos} {a b z TI TO i1 i2 : Addr} (D : ZipSep2 z TI TO i1 i2 [i1, a] [i2, b]) (na : a ≠ i1) (nb : b ≠ i2) :
    Turn P w K (.Tuple elts kk tpos) (ItzM K a b) [z, TI, TO, i1, i2] z (tnM a b z TI TO i1 i2) where
  mem := List.mem_cons_self
  obj := fun i h q => tnM_obj q
  keep := fun i h h' q k => by
    obtain ⟨hz, hI, ⟨x, y, hO⟩, h1, h2⟩ := q
    exact ⟨k _ (by simp) _ hz, k _ (by simp) _ hI, ⟨x, y, k _ (by simp) _ hO⟩, h1.at fun o e => k _ (by simp) o e, h2.at fun o e => k _ (by simp) o e⟩
  item := by
    intro X hP hw hK hc i pins s σ H E I hf q g
    subst hP hw hK
    obtain ⟨us, ws, u, w, qa, qb, gu, gw⟩ := g
    obtain ⟨its, ra, pa, _⟩ := I.tuple qa
    obtain ⟨jts, rb, pb, _⟩ := I.list qb
    obtain ⟨x, hx, rx⟩ := ra.get gu
    obtain ⟨y, hy, ry⟩ := rb.get gw
    have old : ∀ c, c ∈ [z, TI, TO, i1, i2] → c < s.heap.objs.size := fun c hm => by
      obtain ⟨o, ho, _⟩ := tnM_obj q c hm
      exact Heap.lt_size ho
    obtain ⟨hz, hI, ⟨x0, y0, hO⟩, h1, h2⟩ := q
    have lx := (List.getElem?_eq_some_iff.mp hx).1
    have ly := (List.getElem?_eq_some_iff.mp hy).1
    unfold pyNext
    refine wpAny_bind (wpAny_attempt (wpAny_callSpecial?_slot (name := Str.ofString "__next__") (slot_zip hz) F.slot_zip_next (wpAny_call_entry F.slot_zip_next (slot_zip hz) F.entry_zip_next ?_ (F.args_zip_next_1 _))))
    refine zipD2_next_item (i := i) D (Draws.tuple (A := X.A.in1) (show X.A.in1.handled = none from I.ok.hd hc) i1 a na its.toArray) (Draws.list (A := X.A.in1) (show X.A.in1.handled = none from I.ok.hd hc) i2 b nb jts.toArray) hz hI hO ⟨h1, pa⟩ ⟨h2, pb.isList⟩ (by simpa using lx) (by simpa using ly) fun x' y' h' tk ex ey z' O' s1' s2' T' hs keep => ?_
    have ex : some x = some x' := hx.symm.trans (by simpa using ex)
    have ey : some y = some y' := hy.symm.trans (by simpa using ey)
    cases ex
    cases ey
    refine wpAny_pure ⟨_, rfl, wpAny_letOwnedTupleGo_zip (s := { s with heap := h', toks := tk }) z' fun h2' z2 sb => ?_⟩
    have T2 : h2'.get? s.heap.objs.size = some { cls := .type "tuple", data := .seq #[x, y] } := (sb.2 _ (Nat.ne_of_gt (old z (by simp)))).trans T'
    have new : ObjOk X.prog X.w (upd H s.heap.objs.size (.tup [u, w])) h2' s.heap.objs.size (.tup [u, w]) := ⟨by show 2 ≤ sizeLine; decide, [x, y], .cons rx (.cons ry .nil), ⟨_, T2, rfl, _, rfl⟩⟩
    have I2 : Inv X pins σ (upd H s.heap.objs.size (.tup [u, w])) { s with heap := h2', toks := tk } := by
      refine I.turnedNew (ch := [z, TI, TO, i1, i2]) (fun c o hb e => ?_) hf (Nat.le_refl _) new
      have ne : ∀ d, d ∈ [z, TI, TO, i1, i2] → c ≠ d := fun d hd e => hb (e ▸ hd)
      exact (sb.2 c (ne z (by simp))).trans (keep c o (ne z (by simp)) (ne TO (by simp)) (ne i1 (by simp)) (ne i2 (by simp)) e)
    refine ⟨.ref s.heap.objs.size, _, I2, rfl, ⟨_, u, w, rfl, I.hok.fresh (Nat.le_refl _), rfl, fun l hl => ?_, fun l hl => ?_⟩, ⟨z2, ?_, ⟨x, y, ?_⟩, ?_, ?_⟩, fun c hm => ?_⟩
    · rw [I.tuple_inj hl qa]
      exact gu
    · rw [I.list_inj hl qb]
      exact gw
    · exact (sb.2 _ D.TIz).trans (keep _ _ D.TIz D.TITO D.TIi1 D.TIi2 hI)
    · exact (sb.2 _ D.TOz).trans O'
    · exact s1'.1.at fun o e => (sb.2 _ (fun q => D.zi1 q.symm)).trans e
    · exact s2'.1.at fun o e => (sb.2 _ (fun q => D.zi2 q.symm)).trans e
    · rw [upd_ne (Nat.ne_of_lt (old c hm))]
      exact (hf c hm).1
  done := by
    intro X hP hw hK hc i pins s σ H E I hf q g
    subst hP hw hK
    obtain ⟨us, ws, qa, qb, gi⟩ := g
    obtain ⟨its, ra, pa, _⟩ := I.tuple qa
    obtain ⟨jts, rb, pb, _⟩ := I.list qb
    have l1 := ra.length
    have l2 := rb.length
    obtain ⟨hz, hI, ⟨x0, y0, hO⟩, h1, h2⟩ := q
    unfold pyNext
    refine wpAny_bind (wpAny_attempt (wpAny_callSpecial?_slot (name := Str.ofString "__next__") (slot_zip hz) F.slot_zip_next (wpAny_call_entry F.slot_zip_next (slot_zip hz) F.entry_zip_next ?_ (F.args_zip_next_1 _))))
    refine zipD2_next_end (i := i) D (Draws.tuple (A := X.A.in1) (show X.A.in1.handled = none from I.ok.hd hc) i1 a na its.toArray) (Draws.list (A := X.A.in1) (show X.A.in1.handled = none from I.ok.hd hc) i2 b nb jts.toArray) hz hI hO ⟨h1, pa⟩ ⟨h2, pb.isList⟩ (by rw [List.size_toArray]; omega) (by rw [List.size_toArray]; omega) (by rw [List.size_toArray, List.size_toArray]; omega) fun h' tk e keep st => ?_
    obtain ⟨o, ho, hcl⟩ := st
    refine wpAny_bind (wpAny_isInstance (T := "StopIteration") (b := true) ⟨o, ho, hcl⟩ isSubtype_stop ?_)
    refine wpAny_pure ⟨rfl, I.turnedL (ch := [z, TI, TO, i1, i2]) (fun c o hb e => ?_) hf⟩
    have ne : ∀ d, d ∈ [z, TI, TO, i1, i2] → c ≠ d := fun d hd e => hb (e ▸ hd)
    exact keep c o (ne z (by simp)) (ne TO (by simp)) (ne i1 (by simp)) (ne i2 (by simp)) e
  self := fun A i s Q E q h => wpAny_pyIter_zip q.1 h
def iZipM (K : PySem.W.Frag) (ta : TA) : L2.TI := fun σ H R => ta σ H fun vs H1 => ∃ a b us ws, vs = [.ref a, .ref b] ∧ SqT K H1 a us ∧ SqL K H1 b ws ∧ R (ItzM K a b) H1
theorem sep5 (n a b : Nat) (ha : a < n) (hb : b < n) : ZipSep2 (n + 4) (n + 2) (n + 3) n (n + 1) [n, a] [n + 1, b] := by
  have f : ∀ {x y : Nat}, x ≠ y → (x : Addr) ≠ y := fun h => h
  constructor <;> first | (refine f ?_; omega) | (simp only [List.mem_cons, List.not_mem_nil, or_false, not_or]; refine ⟨f ?_, f ?_⟩ <;> omega) | simp
theorem pi_zipM {X : Cx} {e e2 : Expr} {ta : TA} {p pos tpos : Pos} {elts : List Expr} {kk : Nat} (hg : Gl X "zip") (hm : X.mg "zip" = none) (ha : PA X [e, e2] ta)
    (q1 : starEach [e, e2] X.env = (false, eval e X.env) :: starEach [e2] X.env := by rfl) (q2 : (backTo pos (starEach [e2] X.env)).any (·.1) = false := by rfl) : PI X (.Tuple elts kk tpos) (.Call (.Name "zip" p) [e, e2] [] pos) (iZipM X.K ta) := by
  refine ⟨fun pins s σ H R I h => Call_ (ld_blt I hg hm PyProof.Rows.boot_zip (PyProof.Rows.callWith_type1 (thn (ha.run pos pins s σ H _ I h) fun us s1 ⟨vs, H1, I1, r1, w⟩ => ?_) q1 q2))⟩
  obtain ⟨a, b, xs, ys, ex, ta, tb, w⟩ := w
  subst ex
  cases r1 with
  | cons ra rr =>
    cases rr with
    | cons rb rr =>
    cases rr
    cases ra
    cases rb
    obtain ⟨its, _, pa, _⟩ := I1.tuple ta
    obtain ⟨jts, _, pb, _⟩ := I1.list tb
    have la : a < s1.heap.objs.size := pa.lt
    have lb : b < s1.heap.objs.size := pb.lt
    have nb : b ≠ s1.heap.objs.size + 1 := Nat.ne_of_lt (Nat.lt_succ_of_lt lb)
    refine zip_begins2 (begins_tuple a its.toArray) (begins_list b jts.toArray) pa pb.isList fun h' hz hI hO g1 g2 hs keep => wpAny_pyIter_zip hz ?_
    refine ⟨s1.heap.objs.size + 4, [s1.heap.objs.size + 4, s1.heap.objs.size + 2, s1.heap.objs.size + 3, s1.heap.objs.size, s1.heap.objs.size + 1], _, _, H1, rfl, I1.kept keep, turn_zipM (sep5 _ a b la lb) (Nat.ne_of_lt la) nb, ⟨hz, hI, ⟨_, _, hO⟩, ⟨_, g1, rfl, rfl⟩, ⟨_, g2, rfl, rfl⟩⟩, fun c hm => ?_, w⟩
    have le : s1.heap.objs.size ≤ c := by
      rcases mem5 hm with rfl | rfl | rfl | rfl | rfl
      · exact Nat.le_add_right _ _
      · exact Nat.le_add_right _ _
      · exact Nat.le_add_right _ _
      · exact Nat.le_refl _
      · exact Nat.le_add_right _ _
    exact I1.fpOk le (I1.hok.fresh le)
theorem zipm_k {X : Cx} {K : PySem.W.Frag} {e1 e2 : Expr} {ta : TA} {p pos tpos : Pos} {elts : List Expr} {kk : Nat} (e : X.K = K) (hg : Gl X "zip") (hm : X.mg "zip" = none) (ha : PA X [e1, e2] ta)
    (q1 : starEach [e1, e2] X.env = (false, eval e1 X.env) :: starEach [e2] X.env := by rfl) (q2 : (backTo pos (starEach [e2] X.env)).any (·.1) = false := by rfl) : PI X (.Tuple elts kk tpos) (.Call (.Name "zip" p) [e1, e2] [] pos) (iZipM K ta) := by
  subst e
  exact pi_zipM hg hm ha q1 q2
section
variable {K : PySem.W.Frag} {G : Pa} {δ τ : List Sl} {t : Nat}
theorem src_zipM {a b : Addr} {L M : List PyData} : Src K G (ItzM K a b) [.dat (.list M), .dat (.tuple L)] [.ref b, .ref a] (zipD L M) := by
  refine ⟨rfl, fun _ => rfl, fun i H δ τ τ0 t σ vs vs0 l0 R0 => ?_⟩
  obtain ⟨p, ws, ea, hw, hq⟩ := RV.items (R0.nth (pin := []) (pv := []) l0) rfl
  cases ea
  have R1 : Rl K G δ ((τ0 ++ [.dat (.list M)]) ++ .dat (.tuple L) :: τ) t σ ((vs0 ++ [.ref b]) ++ .ref a :: vs) H := by
    rw [List.append_assoc, List.append_assoc]
    exact R0
  obtain ⟨p, us, ea, hu, hr⟩ := RV.itemsT (R1.nth (pin := []) (pv := []) (by simp [l0]))
  cases ea
  have ee : (τ0 ++ [.dat (.list M)]) ++ .dat (.tuple L) :: τ = τ0 ++ ([.dat (.list M), .dat (.tuple L)] ++ τ) := by rw [List.append_assoc]; rfl
  rw [ee] at hr
  rw [zipD_len]
  refine ⟨fun hi => ⟨?_, fun x H' d hd hy => ?_⟩, fun hi => ⟨us, ws, hu, SqL.of hw, by rw [hq.len, hr.len]; omega⟩⟩
  · obtain ⟨v, hv, _⟩ := hq.get (List.getElem?_eq_getElem (show i < M.length by omega))
    obtain ⟨u, hu2, _⟩ := hr.get (List.getElem?_eq_getElem (show i < L.length by omega))
    exact ⟨us, ws, u, v, hu, SqL.of hw, hu2, hv⟩
  · obtain ⟨T, x1, y1, rfl, nT, rfl, e1, e2⟩ := hy
    obtain ⟨x0, y0, hx0, hy0, rfl⟩ := zipD_at hd
    obtain ⟨u, hu2, qu⟩ := hr.get hx0
    obtain ⟨v, hv, qv⟩ := hq.get hy0
    have := e1 us hu
    rw [hu2] at this
    cases this
    have := e2 ws (SqL.of hw)
    rw [hv] at this
    cases this
    exact R0.tup nT (.cons qu (.cons qv .nil))
theorem di_zipM {tr : TA} {Ri : List PyData → List Sl → Nat → Prop} (q : DenA K G tr δ τ t fun xs δ1 t1 => ∃ x y L M, xs = [x, y] ∧ (x = .dat (.tuple L) ∧ y.dv = some (.list M)) ∧ Ri (zipD L M) δ1 t1) : DI K G (iZipM K tr) δ τ t Ri := fun σ vs H Q R0 k =>
  q σ vs H _ R0 fun us H1 xs δ1 t1 ⟨x, y, L, M, e, ⟨hx, hy⟩, q1⟩ l R1 => by
    subst e hx
    obtain ⟨u, v, rfl⟩ := two_args l
    have R2 : Rl K G δ1 ((Sl.dat (.tuple L)).soft :: y.soft :: τ) t1 σ (u :: v :: vs) H1 := R1.softAll l
    have R3 : Rl K G δ1 (y.soft :: .dat (.tuple L) :: τ) t1 σ (v :: u :: vs) H1 := R2.up1 (xs := [(Sl.dat (.tuple L)).soft]) (us := [u]) rfl
    rw [soft_dv hy] at R3
    obtain ⟨p, ws, rfl, hp, _⟩ := RV.items R3.head rfl
    obtain ⟨p', ws', rfl, hp', _⟩ := RV.itemsT R3.h2
    exact ⟨p', p, ws', ws, rfl, hp', SqL.of hp, k _ _ _ _ _ _ _ q1 src_zipM R3⟩
end
end Dl

set_option Elab.async false
set_option linter.all false
set_option maxRecDepth 100000
set_option maxHeartbeats 4000000
/-! != of data with dicts in them: with texts, (), []; reversed(range(n)) -/
namespace Dl
open PySem PySem.Spec PyProof.Rows L2 Glay Lw
section
open PySem.AutoSeq1 PySem.MeetsSeq PySem.MeetsSeq2 PySem.MeetsSeq3 PySem.SeqRoads2 PySem.SeqAt
theorem dct_not_str (a : Addr) (es : Array DictEntry) (n : Nat) (dd : Option Addr) (sl : Array (Option Value)) (x : Str) (t : Tok) :
    Meets (Builtin.«dict.__ne__» ⟨[.ref a, .str x t], []⟩) (fun _ R s => s.heap.get? a = some { cls := .type "dict", dict := dd, data := .dict es n, slots := sl } ∧ R (.ok (.ret .notImplemented)) s) := by
  refine .of_wp fun prog w A R s h => ?_
  obtain ⟨hp, g, d, tk, os⟩ := s
  obtain ⟨hl, h⟩ := h
  have f1 := F.sub_str_dict
  wp_walk using wpAny_loadPart' hl, wpAny_load hl
  exact ⟨_, rfl, h⟩
theorem str_not_dct (a : Addr) (es : Array DictEntry) (n : Nat) (dd : Option Addr) (sl : Array (Option Value)) (x : Str) (t : Tok) :
    Meets (Builtin.«str.__ne__» ⟨[.str x t, .ref a], []⟩) (fun _ R s => s.heap.get? a = some { cls := .type "dict", dict := dd, data := .dict es n, slots := sl } ∧ R (.ok (.ret .notImplemented)) s) := by
  refine .of_wp fun prog w A R s h => ?_
  obtain ⟨hp, g, d, tk, os⟩ := s
  obtain ⟨hl, h⟩ := h
  wp_walk using wpAny_loadPart' hl, wpAny_load hl
  exact ⟨_, rfl, h⟩
variable {A : Around} {s : Shared}
theorem rn_dct_str {a : Addr} {o : Obj} {es : Array DictEntry} {n : Nat} (x : Str) (t : Tok) (h1 : s.heap.get? a = some o) (h2 : o.cls = .type "dict") (h3 : o.data = .dict es n) (hu : A.units < cLine) : RcNeAt A s (.ref a) (.str x t) true := fun prog w E Q h => by
  obtain ⟨cls, dd, data, sl⟩ := o
  simp only at h2 h3
  subst h2 h3
  refine rc_ne_decline_or (k := false) ⟨_, h1, rfl⟩ (typeIs_str s x t) (by decide) F.sub_str_dict F.slot_dict_ne F.slot_str_ne_refl (fun _ hq => ?_) (fun _ hq => ?_) (fun _ hq => ?_) (.inr hu) h
  · exact call_meets F.slot_dict_ne ⟨_, h1, rfl⟩ F.entry_dict_ne (F.args_dict_ne_2 _ _) (dct_not_str a es n dd sl x t) ⟨h1, hq⟩
  · exact call_meets F.slot_str_ne_refl (typeIs_str s x t) F.entry_str_ne (F.args_str_ne_2 _ _) (str_not_dct a es n dd sl x t) ⟨h1, hq⟩
  · exact wpAny_of_eq (rfl : isSame (.ref a) (.str x t) = pure false) hq
end
section
open PySem.SeqAt
variable {X : Cx}
/-- what such data are told apart from -/
inductive PatN : PyData → PyData → Prop
  | str (d : PyData) (x : Str) : kd d = true → PatN d (.str x)
  | tup0 (ds : List PyData) : PatN (.tuple ds) (.tuple [])
  | lst0 (ds : List PyData) : PatN (.list ds) (.list [])
def rNeQ (K : PySem.W.Frag) : R2 := fun x y H Q => ∃ d e, Dq K H x d ∧ Dq K H y e ∧ PatN d e ∧ Q (.bl (!PyData.eqv d e)) H
theorem op_neQ (hu : X.A.units + 64 < cLine) : OpR X (compareOp .NotEq) (rNeQ X.K) := by
  intro pins s σ H x y v u Q I rx ry ⟨d, e, hd, he, p, q⟩
  have fin : Q (.bl (!PyData.eqv d e)) H := q
  have hu1 : X.A.units < cLine := by omega
  cases p with
  | str _ z k =>
    cases he
    obtain ⟨t, rfl⟩ := ry
    cases hd with
    | non =>
      cases rx
      exact RcNeAt.none_str z t _ _ _ _ ⟨.bl _, H, I, rfl, fin⟩
    | bl b =>
      cases rx
      exact RcNeAt.bool_str b z t _ _ _ _ ⟨.bl _, H, I, rfl, fin⟩
    | int i =>
      obtain ⟨t', rfl⟩ := rx
      exact RcNeAt.int_str i t' z t _ _ _ _ ⟨.bl _, H, I, rfl, fin⟩
    | str y =>
      obtain ⟨t', rfl⟩ := rx
      exact RcNeAt.str_str y t' z t _ _ _ _ ⟨.bl _, H, I, rfl, fin⟩
    | lst h _ =>
      cases rx
      obtain ⟨us, rv, ⟨o, n, h1, h2, _, h3⟩, _⟩ := I.list (SqL.of h)
      exact RcNeAt.list_str z t ⟨o, h1, h2, n, h3⟩ hu1 _ _ _ _ ⟨.bl _, H, I, rfl, fin⟩
    | tup h _ =>
      cases rx
      obtain ⟨us, rv, ⟨o, h1, h2, n, h3⟩, _⟩ := I.tuple h
      exact RcNeAt.tuple_str z t ⟨o, h1, h2, n, h3⟩ hu1 _ _ _ _ ⟨.bl _, H, I, rfl, fin⟩
    | dct h _ =>
      cases rx
      obtain ⟨_, ne, vs, rv, o, es, ep, h1, h2, h3, _⟩ := dk_of I.hok h
      exact rn_dct_str z t h1 h2.1 h3 hu1 _ _ _ _ ⟨.bl _, H, I, rfl, fin⟩
    | obj O h _ =>
      simp only [kd] at k
      cases k
  | tup0 ds =>
    cases hd with
    | tup h1 q1 =>
      cases he with
      | tup h2 q2 =>
        cases rx
        cases ry
        cases q2
        obtain ⟨us, r1, ⟨o, a1, a2, n, a3⟩, _⟩ := I.tuple h1
        obtain ⟨ws, r2, ⟨o2, b1, b2, n2, b3⟩, _⟩ := I.tuple h2
        cases r2
        refine RcNeAt.tuples (e := fun _ => true) ⟨o, a1, a2, n, a3⟩ ⟨o2, b1, b2, n2, b3⟩ hu1 (fun j _ z => absurd z (by simp)) _ _ _ _ ⟨.bl _, H, I, ?_, fin⟩
        have l := sz_of r1 q1
        cases ds with
        | nil =>
          show Value.bool _ = Value.bool _
          rw [l]
          rfl
        | cons d ds =>
          show Value.bool _ = Value.bool _
          rw [l]
          rfl
  | lst0 ds =>
    refine op_neP hu pins s σ H _ _ _ _ _ I rx ry ⟨ds, hd, he, ?_⟩
    cases ds with
    | nil => exact fin
    | cons d ds => exact fin
theorem neq_k {K : PySem.W.Frag} (e : X.K = K) (hu : X.A.units + 64 < cLine) : OpR X (compareOp .NotEq) (rNeQ K) := by subst e; exact op_neQ hu
end
section
variable {K : PySem.W.Frag} {G : Pa} {δ τ : List Sl} {t : Nat} {R : RX} {x y : Sl} {ta : TE} {Ri : List PyData → List Sl → Nat → Prop}
theorem dop_neQ {d e : PyData} (hx : x.dv = some d) (hy : y.dv = some e) (p : PatN d e) (q : R (.dat (.bool (!PyData.eqv d e))) δ t) : Dop K G (rNeQ K) x y δ τ t R := fun σ vs H u v Q R0 k =>
  ⟨d, e, R0.h2.full hx, R0.head.full hy, p, k _ _ _ _ _ q (R0.pop.pop.sc (.bl _))⟩
theorem di_rev1 (q : Den K G ta δ τ t fun x δ1 t1 => ∃ j : Int, x = .dat (.int j) ∧ (-(2 ^ 62) ≤ j ∧ j < 2 ^ 62) ∧ Ri (rngC (0 + (((j - 0).toNat : Nat) : Int) - 1) (-1) (j - 0).toNat) δ1 t1) : DI K G (iRevR (tRg1 ta)) δ τ t Ri := fun σ vs H Q R0 k =>
  q σ vs H _ R0 fun u H1 x δ1 t1 ⟨j, ex, h, q2⟩ R1 => by
    subst ex
    have a := RV.int R1.head
    subst a
    exact ⟨j, rfl, by decide, by decide, h.1, h.2, k _ _ _ _ _ _ _ q2 src_rngC R1.pop⟩
end
end Dl

set_option Elab.async false
set_option linter.all false
set_option maxRecDepth 100000
set_option maxHeartbeats 4000000
/-! any text in a written dict; lists of texts compared -/
namespace Dl
open PySem PySem.Spec PyProof.Rows L2 Glay Lw
/-- the keys of a written dict -/
def KeyIs : List DictEntry → List Str → Prop
  | [], [] => True
  | e :: es, k :: ks => (∃ t, e.key = .str k t) ∧ KeyIs es ks
  | _, _ => False
theorem KeyIs.find {z : Str} : ∀ {es : List DictEntry} {ks : List Str}, KeyIs es ks → (es.find? (·.key.isStr z)).isSome = ks.any (· == z)
  | [], [], _ => rfl
  | e :: es, k :: ks, ⟨⟨t, h⟩, r⟩ => by
    have e1 : e.key.isStr z = (k == z) := by rw [h]; rfl
    rw [List.find?_cons, e1, List.any_cons]
    cases k == z with
    | true => rfl
    | false => exact KeyIs.find r
theorem KeyIs.noRef : ∀ {es : List DictEntry} {ks : List Str}, KeyIs es ks → es.any (·.refKey) = false
  | [], [], _ => rfl
  | e :: es, k :: ks, ⟨⟨t, h⟩, r⟩ => by
    rw [List.any_cons, KeyIs.noRef r, Bool.or_false]
    unfold DictEntry.refKey
    rw [h]
theorem KHas.keys {K : PySem.W.Frag} {w : World} {p : Addr} {es : Array DictEntry} {n : Nat} {ks : List Str} (hl : K.lookup p = some ⟨.type "dict", none, .dict es n, #[]⟩) (hk : PySem.W.KeysLit w.params es.toList) (ns : (p == sysModules) = false) (h : KeyIs es.toList ks) (z : Str) : KHas K w p z (ks.any (· == z)) := by
  have f := h.find (z := z)
  have g := h.noRef
  cases e : es.toList.find? (·.key.isStr z) with
  | some d =>
    rw [e] at f
    refine ⟨es, n, some d.val, hl, hk, ns, ?_, f⟩
    unfold PySem.W.nsIn
    rw [hl]
    dsimp only
    rw [e]
  | none =>
    rw [e] at f
    refine ⟨es, n, none, hl, hk, ns, ?_, f⟩
    unfold PySem.W.nsIn
    rw [hl]
    dsimp only
    rw [e]
    dsimp only
    rw [g]
    rfl
section
variable {X : Cx}
def rNInD (K : PySem.W.Frag) (w : World) : R2 := fun x y H Q => ∃ z p b, x = .str z ∧ y = .ref p ∧ KHas K w p z b ∧ Q (.bl (!b)) H
theorem op_ninD : OpR X (compareOp .NotIn) (rNInD X.K X.w) := by
  intro pins s σ H x y v u Q I rx ry h
  obtain ⟨z, p, b, rfl, rfl, ⟨es, n, r, hl, hk, lo, e, hb⟩, q⟩ := h
  obtain ⟨t, rfl⟩ := rx
  cases ry
  refine wpAny_notIn_of (strKind_is X.prog X.w z t) lo (PySem.W.mapOf_K I.kIn hl hk) ?_
  rw [PySem.W.find_K hl e, hb]
  exact ⟨.bl (!b), H, I.tok _, rfl, q⟩
theorem ninD_k {K : PySem.W.Frag} {w : World} (e : X.K = K) (ew : X.w = w) : OpR X (compareOp .NotIn) (rNInD K w) := by subst e; subst ew; exact op_ninD
end
section
variable {K : PySem.W.Frag} {G : Pa} {δ τ : List Sl} {t : Nat} {R : RX} {x y : Sl}
theorem dop_inD {w : World} {g : Addr} {z : Str} {b : Bool} (h : KHas K w g z b) (q : R (.dat (.bool b)) δ t) : Dop K G (rInD K w) (.dat (.str z)) (.raw (.ref g)) δ τ t R := fun σ vs H u v Q R0 k => by
  have e := RV.str R0.h2
  subst e
  have e2 : v = .ref g := R0.head
  subst e2
  exact ⟨z, g, b, rfl, rfl, h, k _ _ _ _ _ q (R0.pop.pop.sc (.bl _))⟩
theorem dop_ninD {w : World} {g : Addr} {z : Str} {b : Bool} (h : KHas K w g z b) (q : R (.dat (.bool (!b))) δ t) : Dop K G (rNInD K w) (.dat (.str z)) (.raw (.ref g)) δ τ t R := fun σ vs H u v Q R0 k => by
  have e := RV.str R0.h2
  subst e
  have e2 : v = .ref g := R0.head
  subst e2
  exact ⟨z, g, b, rfl, rfl, h, k _ _ _ _ _ q (R0.pop.pop.sc (.bl _))⟩
end
/-! lists of texts -/
section
open PySem.SeqAt
variable {X : Cx}
def rNeS (K : PySem.W.Frag) : R2 := fun x y H Q => ∃ as bs : List Str, Dq K H x (.list (as.map PyData.str)) ∧ Dq K H y (.list (bs.map PyData.str)) ∧ as.length = bs.length ∧ Q (.bl (!decide (as = bs))) H
theorem strs_at {K : PySem.W.Frag} {H : Hp} : ∀ {as : List Str} {vs : List V} {us : List Value}, DqAll K H vs (as.map PyData.str) → Vals vs us → ∀ j (lt : j < us.length), ∃ t, us[j] = .str (as.getD j "") t
  | [], _, us, q, r, j, lt => by
    cases q
    cases r
    exact absurd lt (Nat.not_lt_zero _)
  | a :: as, _, us, q, r, j, lt => by
    cases q with
    | cons g1 g2 =>
      cases r with
      | cons c1 c2 =>
        cases j with
        | zero =>
          cases g1
          obtain ⟨t, e⟩ := c1
          exact ⟨t, e⟩
        | succ j =>
          exact strs_at g2 c2 j (by simpa using lt)
theorem all_strs : ∀ {as bs : List Str}, as.length = bs.length → ((List.range as.length).all fun j => decide (as.getD j "" = bs.getD j "")) = decide (as = bs)
  | [], [], _ => rfl
  | a :: as, b :: bs, h => by
    have ih := all_strs (as := as) (bs := bs) (by simpa using h)
    rw [List.length_cons, List.range_succ_eq_map, List.all_cons, List.all_map]
    have e : (List.range as.length).all ((fun j => decide ((a :: as).getD j "" = (b :: bs).getD j "")) ∘ Nat.succ) = decide (as = bs) := ih
    rw [e]
    show (decide (a = b) && decide (as = bs)) = _
    by_cases h1 : a = b
    · subst h1
      by_cases h2 : as = bs
      · subst h2
        simp
      · simp [h2]
    · simp [h1]
theorem op_neS (hu : X.A.units + 64 < cLine) : OpR X (compareOp .NotEq) (rNeS X.K) := by
  intro pins s σ H x y v u Q I rx ry ⟨as, bs, hd, he, l, q⟩
  cases hd with
  | lst h1 q1 =>
    cases he with
    | lst h2 q2 =>
      cases rx
      cases ry
      obtain ⟨us, r1, ⟨o, n, a1, a2, _, a3⟩, _⟩ := I.list (SqL.of h1)
      obtain ⟨ws, r2, ⟨o2, n2, b1, b2, _, b3⟩, _⟩ := I.list (SqL.of h2)
      have l1 := sz_of r1 q1
      have l2 := sz_of r2 q2
      rw [List.length_map] at l1 l2
      refine RcNeAt.lists (e := fun j => decide (as.getD j "" = bs.getD j "")) ⟨o, a1, a2, n, a3⟩ ⟨o2, b1, b2, n2, b3⟩ (by rw [l1, l2, l]) (by omega) (fun j z1 z2 => ?_) _ _ _ _ ⟨.bl _, H, I, ?_, q⟩
      · obtain ⟨t1, e1⟩ := strs_at q1 r1 j (by simpa using z1)
        obtain ⟨t2, e2⟩ := strs_at q2 r2 j (by simpa using z2)
        have f1 : us.toArray[j] = us[j]'(by simpa using z1) := by simp
        have f2 : ws.toArray[j] = ws[j]'(by simpa using z2) := by simp
        rw [f1, f2, e1, e2]
        exact .str_str _ _ _ _
      · show Value.bool _ = Value.bool _
        rw [l1, all_strs l]
theorem nes_k {K : PySem.W.Frag} (e : X.K = K) (hu : X.A.units + 64 < cLine) : OpR X (compareOp .NotEq) (rNeS K) := by subst e; exact op_neS hu
end
section
variable {K : PySem.W.Frag} {G : Pa} {δ τ : List Sl} {t : Nat} {R : RX} {x y : Sl}
theorem dop_neS {as bs : List Str} (hx : x.dv = some (.list (as.map PyData.str))) (hy : y.dv = some (.list (bs.map PyData.str))) (l : as.length = bs.length) (q : R (.dat (.bool (!decide (as = bs)))) δ t) : Dop K G (rNeS K) x y δ τ t R := fun σ vs H u v Q R0 k =>
  ⟨as, bs, R0.h2.full hx, R0.head.full hy, l, k _ _ _ _ _ q (R0.pop.pop.sc (.bl _))⟩
end
end Dl

set_option Elab.async false
set_option linter.all false
set_option maxRecDepth 100000
set_option maxHeartbeats 4000000
/-! enumerate(t, start=n) of a tuple -/
namespace Dl
open PySem PySem.Spec PyProof.Rows L2 Glay Lw
section
variable {M : Model} {A : Around} {E : Value → Shared → Prop} {s : Shared} {env : Env}
theorem cw_typeKw {at_ : Pos} {T : String} {xs : List (Bool × Sem Value)} {ks : List (Option Str × Sem Value)} {Q : Value → Shared → Prop} (n1 : xs.any (·.1) = false) (n2 : ks.any (·.1.isNone) = false)
    (q : wpAny M A (evalArgs (.type T) true xs ks) (fun z s' => wpAny M A (call (.type T) ([] ++ z.pos) z.kw) Q E s') E s) : wpAny M A (callWith at_ (.type T) [] xs ks) Q E s := by
  unfold callWith
  refine wpAny_bind (wpAny_holding (wpAny_mono q (fun z s' hz => ?_) fun _ _ y => y))
  refine wpAny_bind (wpAny_standAt ?_)
  simp only [n1, n2, Bool.or_false]
  refine wpAny_bind (wpAny_pure ?_)
  exact wpAny_bind (wpAny_mono hz (fun v s3 hv => wpAny_bind (wpAny_holding (wpAny_point (wpAny_pure hv)))) fun _ _ y => y)
theorem cw_type1Kw {at_ : Pos} {T : String} {e : Expr} {es : List Expr} {ks : List Keyword} {Q : Value → Shared → Prop}
    (q : wpAny M A (spliced (backTo at_ (starEach (e :: es) env))) (fun vs s1 => wpAny M A (evalAll ((backToKw at_ (keywordEach ks env)).map (·.2)))
      (fun zs s2 => wpAny M A (call (.type T) vs (((backToKw at_ (keywordEach ks env)).filterMap (·.1)).zip zs)) Q E s2) E s1) E s)
    (h1 : backTo at_ (starEach (e :: es) env) = (false, eval e env) :: backTo at_ (starEach es env))
    (h2 : (backTo at_ (starEach (e :: es) env)).any (·.1) = false)
    (h3 : (backToKw at_ (keywordEach ks env)).all (·.1.isSome) = true)
    (h4 : (backToKw at_ (keywordEach ks env)).any (·.1.isNone) = false) :
    wpAny M A (callWith at_ (.type T) [] (backTo at_ (starEach (e :: es) env)) (backToKw at_ (keywordEach ks env))) Q E s := by
  refine cw_typeKw h2 h4 ?_
  rw [h1] at q ⊢
  exact evalArgs_kwB h3 q
end
/-- the tuple at a, each item in a new pair, counted from c -/
def IteTS (K : PySem.W.Frag) (c : Int) (a : Addr) : It :=
  ⟨fun i H => ∃ (xs : List V) (x : V), SqT K H a xs ∧ xs[i]? = some x, fun i H v H' => ∃ T x, v = .ref T ∧ H T = none ∧ H' = upd H T (.tup [.int (c + (i : Nat)), x]) ∧ ∀ xs, SqT K H a xs → xs[i]? = some x, fun i H => ∃ xs : List V, SqT K H a xs ∧ xs.length = i⟩
theorem enTS_turn {P : Program} {w : World} {K : PySem.W.Frag} {elts : List Expr} {kk : Nat} {tpos : Pos} {c : Int} (a e it : Addr) :
    Turn P w K (.Tuple elts kk tpos) (IteTS K c a) [e, it] e (fun i h => (∃ old, IsEnum h e it (c + (i : Nat)) old) ∧ h.IsTupleIter it a i ∧ e ≠ it ∧ a ≠ it ∧ a ≠ e) where
  mem := List.mem_cons_self ..
  obj := fun i h st b hb => by
    obtain ⟨⟨old, he⟩, ⟨o, ho, hc, hd⟩, _⟩ := st
    rcases List.mem_cons.mp hb with z | z
    · subst z
      exact ⟨_, he, fun v q => nomatch q⟩
    · have z := List.mem_singleton.mp z
      subst z
      exact ⟨o, ho, fun v q => by rw [hd] at q; cases q⟩
  keep := fun i h h' st k => let ⟨⟨old, he⟩, hi, n1, n2, n3⟩ := st; ⟨⟨old, k e (by simp) _ he⟩, hi.at fun o q => k it (by simp) o q, n1, n2, n3⟩
  item := by
    rintro X rfl rfl rfl hc i pins s σ H E I hf ⟨⟨old, he⟩, hi, n1, n2, n3⟩ ⟨xs, x, hq, hx⟩
    obtain ⟨its, rv, p, hz⟩ := I.tuple hq
    obtain ⟨u, hu, ru⟩ := rv.get hx
    have le : e < s.heap.objs.size := Heap.lt_size he
    have li : it < s.heap.objs.size := Heap.lt_size hi.choose_spec.1
    have lt : i < its.toArray.size := by
      have := (List.getElem?_eq_some_iff.mp hu).1
      simpa using this
    refine wpAny_pyNext_enum_itemC (enT_draws (A := X.A.in1) (I.ok.hd hc) it a n2 its.toArray) he ⟨hi, p⟩ lt n1 (by simp [n1, n3.symm]) fun y h' tk py ho hs hT hsz hk => ?_
    have ey : y = u := by
      have : some y = some u := py.symm.trans (by simpa using hu)
      exact Option.some.inj this
    subst ey
    refine ⟨_, rfl, wpAny_letOwnedTupleGo_enum (s := { s with heap := h', toks := tk + 1 }) ho fun h2 he2 sb => ?_⟩
    have hT2 : h2.get? s.heap.objs.size = some { cls := .type "tuple", data := .seq #[.int (c + (i : Nat)) tk, y] } := (sb.2 _ (Nat.ne_of_gt le)).trans hT
    have new : ObjOk X.prog X.w (upd H s.heap.objs.size (.tup [.int (c + (i : Nat)), x])) h2 s.heap.objs.size (.tup [.int (c + (i : Nat)), x]) := ⟨by show 2 ≤ sizeLine; decide, [.int (c + (i : Nat)) tk, y], .cons ⟨_, rfl⟩ (.cons ru .nil), ⟨_, hT2, rfl, _, rfl⟩⟩
    have I2 : Inv X pins σ (upd H s.heap.objs.size (.tup [.int (c + (i : Nat)), x])) { s with heap := h2, toks := tk + 1 } :=
      I.turnedNew (ch := [e, it]) (fun b ob nb q => (sb.2 b (fun z => nb (by simp [z]))).trans (hk b ob (fun z => nb (by simp [z])) (fun z => nb (by simp [z])) q)) hf (Nat.le_refl _) new
    refine ⟨.ref s.heap.objs.size, _, I2, rfl, ⟨_, x, rfl, I.hok.fresh (Nat.le_refl _), rfl, fun ys hy => by rw [I.tuple_inj hy hq]; exact hx⟩, ⟨⟨y, ?e⟩, hs.1.at fun o q => (sb.2 it n1.symm).trans q, n1, n2, n3⟩, fun b hb => ?n⟩
    case e =>
      have e1 : c + ((i + 1 : Nat) : Int) = c + (i : Int) + 1 := by omega
      rw [e1]
      exact he2
    case n =>
      have lb : b < s.heap.objs.size := by
        rcases List.mem_cons.mp hb with z | z
        · exact z ▸ le
        · exact (List.mem_singleton.mp z) ▸ li
      rw [upd_ne (Nat.ne_of_lt lb)]
      exact (hf b hb).1
  done := by
    rintro X rfl rfl rfl hc i pins s σ H E I hf ⟨⟨old, he⟩, hi, n1, n2, n3⟩ ⟨xs, hq, hx⟩
    obtain ⟨its, rv, p, hz⟩ := I.tuple hq
    obtain ⟨f0, f1, f2, f3, f4, f5⟩ := hf it (by simp)
    have ei : i = its.toArray.size := by
      have := rv.length
      simp only [List.size_toArray]
      omega
    refine wpAny_pyNext_enum_endD (enT_draws (A := X.A.in1) (I.ok.hd hc) it a n2 its.toArray) he ⟨ei ▸ hi, p⟩ fun h' eb => ⟨rfl, I.turned (t' := s.toks) (fun b o nb q => eb b o nb q) f0 f1 f3 f4 f5⟩
  self := fun A i s Q E st q => wpAny_pyIter_enum st.1.choose_spec q
def iEnTS (K : PySem.W.Frag) (c : Int) (ta : TA) : TI := fun σ H R => ta σ H fun vs H1 => ∃ a xs, vs = [.ref a] ∧ SqT K H1 a xs ∧ R (IteTS K c a) H1
theorem pi_enTS {X : Cx} {e : Expr} {c : Int} {ed : Expr} {kp : Pos} {ta : TA} {p pos tpos : Pos} {elts : List Expr} {kk : Nat} {K : PySem.W.Frag} (eK : X.K = K) (hg : Gl X "enumerate") (hm : X.mg "enumerate" = none) (ha : PA X [e] ta)
    (hd : PE X ed (tC (.int c))) (c0 : -(2 ^ 63) ≤ c) (c1 : c < 2 ^ 63) (h1 : backTo pos (starEach (e :: []) X.env) = (false, eval e X.env) :: backTo pos (starEach [] X.env) := by rfl) (h2 : (backTo pos (starEach (e :: []) X.env)).any (·.1) = false := by rfl) :
    PI X (.Tuple elts kk tpos) (.Call (.Name "enumerate" p) [e] [⟨some "start", ed, kp⟩] pos) (iEnTS K c ta) := by
  subst eK
  refine ⟨fun pins s σ H R I h => wpAny_Call_Name_kw (ld_blt I hg hm boot_enumerate ?_)⟩
  refine cw_type1Kw (thn (ha.run pos pins s σ H _ I h) fun us s1 ⟨vs, H1, I1, r1, a, xs, ex, hq, q⟩ => thn ((pk_cons hd pk_nil).run pos pins s1 σ H1 (fun zs H2 => H2 = H1 ∧ zs = [.int c]) I1 ⟨rfl, rfl⟩) fun ws s2 ⟨zs, H2, I2, r2, e1, e2⟩ => ?_) h1 h2 rfl rfl
  subst ex e1 e2
  obtain ⟨u, rfl, t, rfl⟩ := vals1 r2
  cases r1 with
  | cons r rr =>
    cases rr
    cases r
    obtain ⟨its, rv, tp, hz⟩ := I2.tuple hq
    have la : a < s2.heap.objs.size := Heap.lt_size tp.choose_spec.1
    refine enum_begins_start (begins_tuple a its.toArray) tp c0 c1 fun h' he hit _ hk => wpAny_pyIter_enum he ?_
    refine ⟨s2.heap.objs.size + 1, [s2.heap.objs.size + 1, s2.heap.objs.size], _, _, H2, rfl, I2.kept (t' := s2.toks) hk, enTS_turn a (s2.heap.objs.size + 1) s2.heap.objs.size, ⟨⟨.none, by rw [show c + ((0 : Nat) : Int) = c by omega]; exact he⟩, ⟨_, hit, rfl, rfl⟩, Nat.succ_ne_self _, Nat.ne_of_lt la, Nat.ne_of_lt (Nat.lt_succ_of_lt la)⟩, fun b hb => ?_, q⟩
    have hle : s2.heap.objs.size ≤ b := by
      rcases List.mem_cons.mp hb with z | z
      · rw [z]; exact Nat.le_add_right _ _
      · rw [List.mem_singleton.mp z]; exact Nat.le_refl _
    exact I2.fpOk hle (I2.hok.fresh hle)
/-- the numbers from c on, and the items -/
def enDS (c : Int) (L : List PyData) : List PyData := zipD (rngL c L.length) L
theorem enDS_len (c : Int) (L : List PyData) : (enDS c L).length = L.length := by
  show (zipD _ _).length = _
  rw [zipD_len, rngL_len]
  omega
theorem enDS_at {c : Int} {L : List PyData} {i : Nat} {d : PyData} (h : (enDS c L)[i]? = some d) : ∃ e, L[i]? = some e ∧ d = .tuple [.int (c + (i : Int)), e] := by
  unfold enDS at h
  obtain ⟨x, y, hx, hy, rfl⟩ := zipD_at h
  obtain ⟨_, rfl⟩ := rngL_at hx
  exact ⟨y, hy, rfl⟩
section
variable {K : PySem.W.Frag} {G : Pa} {δ τ : List Sl} {t : Nat} {ta : TA}
theorem src_enTS {a : Addr} {c : Int} {L : List PyData} : Src K G (IteTS K c a) [.dat (.tuple L)] [.ref a] (enDS c L) := by
  refine ⟨rfl, fun _ => rfl, fun i H δ τ τ0 t σ vs vs0 l0 R0 => ?_⟩
  obtain ⟨p, ws, ea, hw, hq⟩ := RV.itemsT (R0.nth (pin := []) (pv := []) l0)
  cases ea
  rw [enDS_len]
  refine ⟨fun hi => ⟨?_, fun x H' d hd hy => ?_⟩, fun hi => ⟨ws, hw, by rw [hq.len]; omega⟩⟩
  · obtain ⟨v, hv, _⟩ := hq.get (List.getElem?_eq_getElem (show i < L.length by omega))
    exact ⟨ws, v, hw, hv⟩
  · obtain ⟨T, x1, rfl, nT, rfl, e1⟩ := hy
    obtain ⟨y0, hy0, rfl⟩ := enDS_at hd
    obtain ⟨v, hv, qv⟩ := hq.get hy0
    have := e1 ws hw
    rw [hv] at this
    cases this
    exact R0.tup nT (.cons (.int _) (.cons qv .nil))
theorem di_enTS {c : Int} {Ri : List PyData → List Sl → Nat → Prop} (q : DenA K G ta δ τ t fun xs δ1 t1 => ∃ L, xs = [.dat (.tuple L)] ∧ Ri (enDS c L) δ1 t1) : DI K G (iEnTS K c ta) δ τ t Ri := fun σ vs H Q R0 k =>
  q σ vs H _ R0 fun us H1 xs δ1 t1 ⟨L, e, q1⟩ l R1 => by
    subst e
    obtain ⟨u, rfl⟩ := one_arg (xs := []) l
    obtain ⟨p, ws, rfl, hp, _⟩ := RV.itemsT R1.head
    exact ⟨p, ws, rfl, hp, k _ _ _ _ _ _ _ q1 src_enTS R1⟩
end
/-! a pair of numbers in a written dict -/
def KPair (K : PySem.W.Frag) (w : World) (g : Addr) (z : Str) (lo hi : Int) : Prop := ∃ a, KDct K w g z (.ref a) ∧ ∀ H, SqT K H a [.int lo, .int hi]
theorem KPair.of {K : PySem.W.Frag} {w : World} {g a : Addr} {z : Str} {lo hi : Int} {es : Array DictEntry} {n m : Nat} {od : Option Addr} {t1 t2 : Tok} {sl : Array (Option Value)} (hl : K.lookup g = some ⟨.type "dict", none, .dict es n, #[]⟩) (hk : PySem.W.KeysLit w.params es.toList)
    (e : PySem.W.nsIn K g z = some (some (.ref a))) (T : K.lookup a = some ⟨.type "tuple", od, .seq #[.int lo t1, .int hi t2] m, sl⟩) : KPair K w g z lo hi :=
  ⟨a, ⟨_, _, _, hl, hk, e, rfl⟩, fun H => .inr ⟨_, _, _, T, rfl, rfl, by show 2 ≤ sizeLine; decide, .cons ⟨_, rfl⟩ (.cons ⟨_, rfl⟩ .nil)⟩⟩
section
variable {K : PySem.W.Frag} {G : Pa} {δ τ : List Sl} {t : Nat} {R : RX}
theorem dop_ixDT {w : World} {g : Addr} {z : Str} {lo hi : Int} (h : KPair K w g z lo hi) (q : R (.dat (.tuple [.int lo, .int hi])) δ t) : Dop K G (rIxD K w) (.raw (.ref g)) (.dat (.str z)) δ τ t R := fun σ vs H u v Q R0 k => by
  obtain ⟨a, hd, hT⟩ := h
  have hu : u = .ref g := R0.h2
  have hv : v = .str z := RV.str R0.head
  subst hu
  subst hv
  exact ⟨g, z, _, rfl, rfl, hd, k _ _ _ _ _ q (R0.pop.pop.dat (.tup (hT _) (.cons (.int lo) (.cons (.int hi) .nil))))⟩
end
end Dl

set_option Elab.async false
set_option linter.all false
set_option maxRecDepth 100000
set_option maxHeartbeats 4000000
/-! isinstance of any datum, told at once -/
namespace Dl
open PySem PySem.Spec PyProof.Rows L2 Glay Lw
def kTup : PyData → Bool
  | .tuple _ => true
  | _ => false
def kLst : PyData → Bool
  | .list _ => true
  | _ => false
def kInt : PyData → Bool
  | .int _ => true | .bool _ => true
  | _ => false
def kBol : PyData → Bool
  | .bool _ => true
  | _ => false
def kStr : PyData → Bool
  | .str _ => true
  | _ => false
section
variable {K : PySem.W.Frag} {G : Pa} {δ τ : List Sl} {t : Nat} {R : RX}
theorem dcb_isT {d : PyData} (q : R (.dat (.bool (kTup d))) δ t) : Dcb K G (rIsi K) [.dat d, .raw (.ty "tuple")] δ τ t R := by
  cases d with
  | none => exact dcb_isi rfl rfl kb_NoneType_tuple (.inl (by decide)) q
  | bool _ => exact dcb_isi rfl rfl kb_bool_tuple (.inl (by decide)) q
  | int _ => exact dcb_isi rfl rfl kb_int_tuple (.inl (by decide)) q
  | str _ => exact dcb_isi rfl rfl kb_str_tuple (.inl (by decide)) q
  | list _ => exact dcb_isi rfl rfl kb_list_tuple (.inl (by decide)) q
  | tuple _ => exact dcb_isi rfl rfl kb_tuple_tuple (.inl (by decide)) q
  | dict _ => exact dcb_isi rfl rfl kb_dict_tuple (.inr (by decide)) q
theorem dcb_isL {d : PyData} (q : R (.dat (.bool (kLst d))) δ t) : Dcb K G (rIsi K) [.dat d, .raw (.ty "list")] δ τ t R := by
  cases d with
  | none => exact dcb_isi rfl rfl kb_NoneType_list (.inl (by decide)) q
  | bool _ => exact dcb_isi rfl rfl kb_bool_list (.inl (by decide)) q
  | int _ => exact dcb_isi rfl rfl kb_int_list (.inl (by decide)) q
  | str _ => exact dcb_isi rfl rfl kb_str_list (.inl (by decide)) q
  | list _ => exact dcb_isi rfl rfl kb_list_list (.inl (by decide)) q
  | tuple _ => exact dcb_isi rfl rfl kb_tuple_list (.inl (by decide)) q
  | dict _ => exact dcb_isi rfl rfl kb_dict_list (.inr (by decide)) q
theorem dcb_isI {d : PyData} (q : R (.dat (.bool (kInt d))) δ t) : Dcb K G (rIsi K) [.dat d, .raw (.ty "int")] δ τ t R := by
  cases d with
  | none => exact dcb_isi rfl rfl kb_NoneType_int (.inl (by decide)) q
  | bool _ => exact dcb_isi rfl rfl kb_bool_int (.inl (by decide)) q
  | int _ => exact dcb_isi rfl rfl kb_int_int (.inl (by decide)) q
  | str _ => exact dcb_isi rfl rfl kb_str_int (.inl (by decide)) q
  | list _ => exact dcb_isi rfl rfl kb_list_int (.inl (by decide)) q
  | tuple _ => exact dcb_isi rfl rfl kb_tuple_int (.inl (by decide)) q
  | dict _ => exact dcb_isi rfl rfl kb_dict_int (.inr (by decide)) q
theorem dcb_isB {d : PyData} (q : R (.dat (.bool (kBol d))) δ t) : Dcb K G (rIsi K) [.dat d, .raw (.ty "bool")] δ τ t R := by
  cases d with
  | none => exact dcb_isi rfl rfl kb_NoneType_bool (.inl (by decide)) q
  | bool _ => exact dcb_isi rfl rfl kb_bool_bool (.inl (by decide)) q
  | int _ => exact dcb_isi rfl rfl kb_int_bool (.inl (by decide)) q
  | str _ => exact dcb_isi rfl rfl kb_str_bool (.inl (by decide)) q
  | list _ => exact dcb_isi rfl rfl kb_list_bool (.inl (by decide)) q
  | tuple _ => exact dcb_isi rfl rfl kb_tuple_bool (.inl (by decide)) q
  | dict _ => exact dcb_isi rfl rfl kb_dict_bool (.inr (by decide)) q
theorem dcb_isS {d : PyData} (q : R (.dat (.bool (kStr d))) δ t) : Dcb K G (rIsi K) [.dat d, .raw (.ty "str")] δ τ t R := by
  cases d with
  | none => exact dcb_isi rfl rfl kb_NoneType_str (.inl (by decide)) q
  | bool _ => exact dcb_isi rfl rfl kb_bool_str (.inl (by decide)) q
  | int _ => exact dcb_isi rfl rfl kb_int_str (.inl (by decide)) q
  | str _ => exact dcb_isi rfl rfl kb_str_str (.inl (by decide)) q
  | list _ => exact dcb_isi rfl rfl kb_list_str (.inl (by decide)) q
  | tuple _ => exact dcb_isi rfl rfl kb_tuple_str (.inl (by decide)) q
  | dict _ => exact dcb_isi rfl rfl kb_dict_str (.inr (by decide)) q
end
theorem kTup_is {d : PyData} (h : kTup d = true) : ∃ x : List PyData, d = .tuple x := by
  cases d with
  | tuple x => exact ⟨x, rfl⟩
  | _ => cases h
theorem kLst_is {d : PyData} (h : kLst d = true) : ∃ x : List PyData, d = .list x := by
  cases d with
  | list x => exact ⟨x, rfl⟩
  | _ => cases h
theorem kBol_is {d : PyData} (h : kBol d = true) : ∃ x : Bool, d = .bool x := by
  cases d with
  | bool x => exact ⟨x, rfl⟩
  | _ => cases h
theorem kStr_is {d : PyData} (h : kStr d = true) : ∃ x : Str, d = .str x := by
  cases d with
  | str x => exact ⟨x, rfl⟩
  | _ => cases h
theorem kInt_is {d : PyData} (h : kInt d = true) (n : kBol d = false) : ∃ i : Int, d = .int i := by
  cases d with
  | int i => exact ⟨i, rfl⟩
  | bool _ => cases n
  | _ => cases h
end Dl

set_option Elab.async false
set_option linter.all false
set_option maxRecDepth 100000
set_option maxHeartbeats 4000000
/-! texts: f-strings, sums of texts, texts of ints -/
namespace Dl
open PySem PySem.Spec PyProof.Rows L2 Glay Lw
section
variable {K : PySem.W.Frag} {G : Pa} {δ τ : List Sl} {t : Nat} {R : RX} {te : TE}
theorem size_big {n : Nat} (h : n ≤ 1000000) : n ≤ sizeLine := by
  have b : 1000000 ≤ sizeLine := by rw [sizeLine_eq]; decide
  omega
def DenJ (K : PySem.W.Frag) (G : Pa) (ts : List TE) (acc : Str) (δ τ : List Sl) (t : Nat) (R : Str → List Sl → Nat → Prop) : Prop :=
  ∀ σ vs H Q, Rl K G δ τ t σ vs H → (∀ out H' δ' t', R out δ' t' → Rl K G δ' τ t' σ vs H' → Q out H') → tJs ts acc σ H Q
/-- an f-string of several parts -/
def tJd (ts : List TE) : TE := fun σ H Q => tJs ts Str.empty σ H fun out H1 => Q (.str out) H1
theorem den_jd {ts : List TE} (q : DenJ K G ts Str.empty δ τ t fun out δ1 t1 => R (.dat (.str out)) δ1 t1) : Den K G (tJd ts) δ τ t R := fun σ vs H Q R0 k =>
  q σ vs H _ R0 fun out H1 δ1 t1 q1 R1 => k _ _ _ _ _ q1 (R1.sc (.str _))
theorem denj_nil {acc : Str} {R : Str → List Sl → Nat → Prop} (q : R acc δ t) : DenJ K G [] acc δ τ t R := fun σ vs H Q R0 k => k acc H _ _ q R0
theorem denj_cons {ts : List TE} {acc : Str} {R : Str → List Sl → Nat → Prop} (q : Den K G te δ τ t fun x δ1 t1 => ∃ y : Str, x = .dat (.str y) ∧ (acc ++ y).length ≤ 1000000 ∧ DenJ K G ts (acc ++ y) δ1 τ t1 R) : DenJ K G (te :: ts) acc δ τ t R := fun σ vs H Q R0 k =>
  q σ vs H _ R0 fun v H1 x δ1 t1 ⟨y, e, l, q1⟩ R1 => by
    subst e
    exact ⟨y, RV.str R1.head, size_big l, q1 σ vs H1 _ R1.pop k⟩
/-- a part of an f-string, by its value -/
def fmtS : Sl → Option Str
  | .dat (.str y) => some y
  | .dat (.int i) => some (toString i)
  | _ => none
def fmtB : Sl → Prop
  | .dat (.str y) => y.length ≤ 1000000
  | .dat (.int i) => i.natAbs.log2 < 1920
  | _ => False
theorem den_fmt (q : Den K G te δ τ t fun x δ1 t1 => ∃ z, fmtS x = some z ∧ fmtB x ∧ R (.dat (.str z)) δ1 t1) : Den K G (tFmt te) δ τ t R := fun σ vs H Q R0 k =>
  q σ vs H _ R0 fun v H1 x δ1 t1 ⟨z, e, b, q1⟩ R1 => by
    match x, e, b with
    | .dat (.str y), e, b =>
      cases e
      exact .inl ⟨_, RV.str R1.head, size_big b, k _ _ _ _ _ q1 (R1.pop.sc (.str _))⟩
    | .dat (.int i), e, b =>
      cases e
      exact .inr ⟨_, RV.int R1.head, b, k _ _ _ _ _ q1 (R1.pop.sc (.str _))⟩
/-- a sum of two texts -/
def rAddS : R2 := fun x y H Q => ∃ i j, x = .str i ∧ y = .str j ∧ i.length + j.length ≤ sizeLine ∧ Q (.str (i ++ j)) H
theorem dop_addS {i j : Str} (l : i.length + j.length ≤ 1000000) (q : R (.dat (.str (i ++ j))) δ t) : Dop K G rAddS (.dat (.str i)) (.dat (.str j)) δ τ t R := fun σ vs H u v Q R0 k =>
  ⟨i, j, R0.h2.str, R0.head.str, size_big l, k _ _ _ _ _ q (R0.pop.pop.sc (.str _))⟩
end
section
variable {X : Cx}
theorem pe_jd {v1 v2 : Expr} {rest : List Expr} {ts : List TE} {pos : Pos} (h : PJ X (v1 :: v2 :: rest) ts) : PE X (.JoinedStr (v1 :: v2 :: rest) pos) (tJd ts) := pe_joined h
theorem op_addS : OpR X (binaryOp .Add) rAddS := op_add_str
end
end Dl

set_option Elab.async false
set_option linter.all false
set_option maxRecDepth 100000
set_option maxHeartbeats 4000000
/-! for over the keys of a written dict of the top, all of them texts -/
namespace Dl
open PySem PySem.Spec PyProof.Rows L2 Glay Lw
theorem KeyIs.len : ∀ {es : List DictEntry} {ks : List Str}, KeyIs es ks → es.length = ks.length
  | [], [], _ => rfl
  | _ :: _, _ :: _, h => congrArg (· + 1) h.2.len
theorem KeyIs.nth : ∀ {es : List DictEntry} {ks : List Str} {i : Nat} {k : Str}, KeyIs es ks → ks[i]? = some k → ∃ en tk, es[i]? = some en ∧ en.key = .str k tk
  | en :: _, _ :: _, 0, k, h, e => by
    cases e
    obtain ⟨tk, z⟩ := h.1
    exact ⟨en, tk, rfl, z⟩
  | _ :: _, _ :: _, i + 1, k, h, e => h.2.nth (i := i) e
  | [], [], _, _, _, e => by simp at e
/-- the keys of a dict of the top -/
def KKeys (K : PySem.W.Frag) (g : Addr) (ks : List Str) : Prop := ∃ es n, K.lookup g = some ⟨.type "dict", none, .dict es n, #[]⟩ ∧ KeyIs es.toList ks ∧ (g == sysModules) = false
def ItKs (ks : List Str) : It := ⟨fun i _ => i < ks.length, fun i H x H' => H' = H ∧ ∃ k, ks[i]? = some k ∧ x = .str k, fun i _ => ks.length ≤ i⟩
theorem turn_ks {P : Program} {w : World} {K : PySem.W.Frag} {tg : Expr} {g it : Addr} {ks : List Str} {es : Array DictEntry} {n : Nat} (hl : K.lookup g = some ⟨.type "dict", none, .dict es n, #[]⟩) (hk : KeyIs es.toList ks) :
    Turn P w K tg (ItKs ks) [it] it (fun i h => h.IsKeyIter it g i ks.length n) where
  mem := List.mem_singleton.mpr rfl
  obj := fun i h ⟨oi, ho, _, hd⟩ b hb => by
    cases List.mem_singleton.mp hb
    exact ⟨oi, ho, fun v z => by rw [hd] at z; cases z⟩
  keep := fun i h h' st k => st.at fun oi e => k it (List.mem_singleton.mpr rfl) oi e
  item := by
    rintro X rfl rfl rfl hc i pins s σ H E I hf st hi
    have hi : i < ks.length := hi
    obtain ⟨a0, a1, a2, a3, a4, a5⟩ := hf it (List.mem_singleton.mpr rfl)
    obtain ⟨k, ek⟩ : ∃ k, ks[i]? = some k := ⟨ks[i], List.getElem?_eq_getElem hi⟩
    obtain ⟨en, tk, he, hz⟩ := hk.nth ek
    have sz : es.size = ks.length := by rw [← Array.length_toList, hk.len]
    refine next_key_item (es := es) st (I.kIn _ _ hl) rfl sz (by rw [← Array.getElem?_toList]; exact he) fun h' st' sb => ?_
    have J : Inv X pins σ H { s with heap := h' } := I.turned (t' := s.toks) (fun b ob nb e => (sb.2 b nb).trans e) a0 a1 a3 a4 a5
    obtain ⟨oi, ho, c, d⟩ := id st'
    exact ⟨en.key, rfl, go_of (s := { s with heap := h' }) ho c d (by decide) ⟨.str k, H, J, ⟨tk, hz⟩, ⟨rfl, k, ek, rfl⟩, st', fun b hb => (hf b hb).1⟩⟩
  done := by
    rintro X rfl rfl rfl hc i pins s σ H E I hf st hi
    obtain ⟨a0, a1, a2, a3, a4, a5⟩ := hf it (List.mem_singleton.mpr rfl)
    have sz : es.size = ks.length := by rw [← Array.length_toList, hk.len]
    exact next_key_end (es := es) (I.ok.hd hc) st (I.kIn _ _ hl) rfl sz hi fun h' eb => ⟨rfl, I.turned (t' := s.toks) (fun b ob nb e => eb b ob nb e) a0 a1 a3 a4 a5⟩
  self := fun A i s Q E st h => wpAny_pyIter_keyiter st h
def iKs (K : PySem.W.Frag) (td : TE) : TI := fun σ H R => td σ H fun x H1 => ∃ g ks, x = .ref g ∧ KKeys K g ks ∧ R (ItKs ks) H1
theorem pi_ks {X : Cx} {K : PySem.W.Frag} {tg e : Expr} {td : TE} (eK : X.K = K) (he : PE X e td) : PI X tg e (iKs K td) := by
  subst eK
  refine ⟨fun pins s σ H R I h => thn (he.run pins s σ H _ I h) fun u s1 ⟨x, H1, I1, rx, g, ks, ex, ⟨es, n, hl, hk, hs⟩, q⟩ => ?_⟩
  subst ex
  cases (show u = Value.ref g from rx)
  have sz : es.size = ks.length := by rw [← Array.length_toList, hk.len]
  refine iter_keys hs (I1.kIn _ _ hl) ⟨rfl, rfl, rfl⟩ rfl (pi_one (tk := s1.toks) I1 _ (turn_ks hl hk) ⟨_, Heap.get?_push_size _ rfl, rfl, ?_⟩ q)
  rw [sz] <;> rfl
section
variable {K : PySem.W.Frag} {G : Pa} {δ τ : List Sl} {t : Nat} {te : TE} {Ri : List PyData → List Sl → Nat → Prop}
theorem src_ks {ks : List Str} : Src K G (ItKs ks) [] [] (ks.map PyData.str) := by
  refine ⟨rfl, fun _ => rfl, fun i H δ τ τ0 t σ vs vs0 l0 R0 => ?_⟩
  rw [List.length_map]
  refine ⟨fun hi => ⟨hi, fun x H' d hd hy => ?_⟩, fun hi => Nat.le_of_eq hi.symm⟩
  obtain ⟨rfl, k, hk, rfl⟩ := hy
  rw [List.getElem?_map, hk] at hd
  cases hd
  exact R0.sc (.str _)
theorem di_ks (q : Den K G te δ τ t fun x δ1 t1 => ∃ g ks, x = .raw (.ref g) ∧ KKeys K g ks ∧ Ri (ks.map PyData.str) δ1 t1) : DI K G (iKs K te) δ τ t Ri := fun σ vs H Q R0 k =>
  q σ vs H _ R0 fun v H1 x δ1 t1 ⟨g, ks, e, hk, q1⟩ R1 => by
    subst e
    exact ⟨g, ks, R1.head, hk, k _ _ _ _ _ _ _ q1 src_ks R1.pop⟩
end
end Dl

set_option Elab.async false
set_option linter.all false
set_option maxRecDepth 100000
set_option maxHeartbeats 4000000
/-! texts, and tuples of a text and a number, in a written dict -/
namespace Dl
open PySem PySem.Spec PyProof.Rows L2 Glay Lw
section
variable {K : PySem.W.Frag} {G : Pa} {δ τ : List Sl} {t : Nat} {R : RX}
theorem dop_ixDS {w : World} {g : Addr} {z y : Str} (h : KDct K w g z (.str y)) (q : R (.dat (.str y)) δ t) : Dop K G (rIxD K w) (.raw (.ref g)) (.dat (.str z)) δ τ t R := fun σ vs H u v Q R0 k => by
  have hu : u = .ref g := R0.h2
  have hv : v = .str z := RV.str R0.head
  subst hu
  subst hv
  exact ⟨g, z, _, rfl, rfl, h, k _ _ _ _ _ q (R0.pop.pop.sc (.str y))⟩
def KSign (K : PySem.W.Frag) (w : World) (g : Addr) (z y : Str) (n : Int) : Prop := ∃ a, KDct K w g z (.ref a) ∧ ∀ H, SqT K H a [.str y, .int n]
theorem KSign.of {w : World} {g a : Addr} {z y : Str} {n : Int} {es : Array DictEntry} {m1 m2 : Nat} {od : Option Addr} {t1 t2 : Tok} {sl : Array (Option Value)} (hl : K.lookup g = some ⟨.type "dict", none, .dict es m1, #[]⟩) (hk : PySem.W.KeysLit w.params es.toList)
    (e : PySem.W.nsIn K g z = some (some (.ref a))) (T : K.lookup a = some ⟨.type "tuple", od, .seq #[.str y t1, .int n t2] m2, sl⟩) : KSign K w g z y n :=
  ⟨a, ⟨_, _, _, hl, hk, e, rfl⟩, fun H => .inr ⟨_, _, _, T, rfl, rfl, by show 2 ≤ sizeLine; decide, .cons ⟨_, rfl⟩ (.cons ⟨_, rfl⟩ .nil)⟩⟩
theorem dop_ixDP {w : World} {g : Addr} {z y : Str} {n : Int} (h : KSign K w g z y n) (q : R (.dat (.tuple [.str y, .int n])) δ t) : Dop K G (rIxD K w) (.raw (.ref g)) (.dat (.str z)) δ τ t R := fun σ vs H u v Q R0 k => by
  obtain ⟨a, hd, hT⟩ := h
  have hu : u = .ref g := R0.h2
  have hv : v = .str z := RV.str R0.head
  subst hu
  subst hv
  exact ⟨g, z, _, rfl, rfl, hd, k _ _ _ _ _ q (R0.pop.pop.dat (.tup (hT _) (.cons (.str y) (.cons (.int n) .nil))))⟩
end
end Dl

set_option Elab.async false
set_option linter.all false
set_option maxRecDepth 100000
set_option maxHeartbeats 4000000
/-! several clauses `except C as n`, all with one name, after one try -/
namespace Dl
open PySem PySem.Spec PyProof.Rows L2 Glay Lw HT
abbrev TSX := Addr → Value → Option Addr → TS
/-- what the clauses wish, the first that fits -/
def wAsL (K : PySem.W.Frag) (i : Nat) (Wo : WX) (D : Ends) : List (Value × TSX) → WX
  | [] => Wo
  | q :: r => wAs K q.1 i q.2 (wAsL K i Wo D r) D
inductive HdsAs (X : Cx) (n : Str) : List ExceptHandler → List (Value × TSX) → Prop
  | nil : HdsAs X n [] []
  | cons {x : Str} {c : Value} {u : TSX} {b1 : Stmt} {bs : List Stmt} {p1 p2 : Pos} {hds : List ExceptHandler} {l : List (Value × TSX)} (hc : Names X x c)
      (hu : ∀ (a : Addr) (o : Obj) (cls : Value) (d : Option Addr) (pn : List (Addr × Obj)), Zc cls d o → (∃ vs, o.data = .fields vs) →
        PSs (X.suite a ((a, o) :: pn)) (b1 :: bs) (u a cls d))
      (r : HdsAs X n hds l) : HdsAs X n (.ExceptHandler (some (.Name x p1)) (some n) (b1 :: bs) p2 :: hds) ((c, u) :: l)
section
variable {X : Cx} {n : Str} {i : Nat} {Wo : WX} {D : Ends} {pins : List (Addr × Obj)} {a : Addr} {B : Heap} {sI s' : Shared} {σ : L2.St} {H : Hp} {cls : Value} {d : Option Addr}
/-- an error that has come to the clauses -/
structure Come (X : Cx) (pins : List (Addr × Obj)) (a : Addr) (B : Heap) (sI s' : Shared) (σ : L2.St) (H : Hp) : Prop where
  st : X.stack = X.env :: X.outer
  fr : X.env.frame = some X.env.locals
  I : Inv X pins σ H sI
  nb : ∀ b o, sI.heap.get? b = some o → b ∉ frs X.stack → B.get? b = some o
  up : sI.heap.UpToSlots s'.heap
  na : H a = none
  os : s'.os = sI.os
  ag : AllBare s'.gens
theorem Come.inv (C : Come X pins a B sI s' σ H) {h : Heap} (st : B.StaysIn h) (u : s'.heap.UpToSlots h) : Inv X pins σ H { s' with heap := h } :=
  Inv.landed (s' := { s' with heap := h }) C.I C.nb st (C.up.trans u) C.os C.ag
theorem Come.off {h : Heap} (fl : HandSPX.FlyingZ B (X.env :: X.outer) a (Zc cls d) h) : a ∉ frs (X.env :: X.outer) := fun hm => by
  obtain ⟨o, vs, e1, _, e2⟩ := fl.there
  obtain ⟨_, o2, e3, no⟩ := fl.2.2.1.mem hm
  cases e1.symm.trans e3
  exact no _ e2
theorem Come.suite (C : Come X pins a B sI s' σ H) {h : Heap} (fl : HandSPX.FlyingZ B (X.env :: X.outer) a (Zc cls d) h) (u : s'.heap.UpToSlots h) :
    ∃ (o : Obj) (_ : Zc cls d o) (_ : ∃ vs, o.data = .fields vs), h.get? a = some o ∧ Inv (X.suite a ((a, o) :: (X.pn ++ pins))) [] σ H { s' with heap := h } := by
  obtain ⟨o, vs, e1, z, e2⟩ := fl.there
  have no := Come.off fl
  refine ⟨o, z, ⟨_, e2⟩, e1, Inv.suite (C.inv fl.1 u) e1 e2 C.na (fun y => no ?_) fun hm => no ?_⟩
  · exact List.mem_filterMap.mpr ⟨X.env, .head _, by rw [C.fr, y]⟩
  · obtain ⟨e, he, q⟩ := List.mem_filterMap.mp hm
    exact List.mem_filterMap.mpr ⟨e, .tail _ he, q⟩
theorem Come.none_fits (C : Come X pins a B sI s' σ H) (tk : Takes X Wo) (w : Wo cls d σ H) {h : Heap} (fl : HandSPX.FlyingZ B (X.env :: X.outer) a (Zc cls d) h) (u : s'.heap.UpToSlots h) :
    wpAny (model X.prog X.w) X.A (handleBy (.ref a) X.env []) (SP X pins D) X.xe { s' with heap := h } := by
  refine wpAny_handleBy_nil ?_
  obtain ⟨_, _, _, o, vs, T, oT, ts', he, hz, hd, h1, hr⟩ := id fl
  have goes : wpAny (model X.prog X.w) X.A (setFlight (.ref a) X.env.frame)
      (fun _ s4 => wpAny (model X.prog X.w) X.A (throw (.ref a) : Sem Flow) (SP X pins D) X.xe s4) X.xe { s' with heap := h } := by
    rw [C.fr]
    exact HandSPX.setFlight_upZ fl fun h4 hh4 u4 => wpAny_throw (tk _ _ ⟨a, B, sI, pins, σ, H, cls, d, rfl, C.I, C.nb, (C.up.trans u).trans u4, .inr (.inr (by rw [C.st]; exact hh4)), C.na, C.os, C.ag, w⟩)
  unfold PySem.passOn
  refine wpAny_bind (wpAny_field he hd h1 ?_)
  have ne : ¬ ((Value.ref T == Value.none) = true) := by simp
  rw [if_neg ne]
  first
    | exact wpAny_bind (wpAny_pure (wpAny_bind goes))
    | exact wpAny_bind goes
theorem Come.handled (hN : X.N.Nodup) (hi : X.N[i]? = some n) (hln : X.env.kindOf n = some .local) (tk : Takes X Wo) (C : Come X pins a B sI s' σ H) {h : Heap}
    (fl : HandSPX.FlyingZ B (X.env :: X.outer) a (Zc cls d) h) (u : s'.heap.UpToSlots h) : ∀ {hds : List ExceptHandler} {l : List (Value × TSX)}, HdsAs X n hds l → wAsL X.K i Wo D l cls d σ H →
    wpAny (model X.prog X.w) X.A (handleBy (.ref a) X.env hds) (SP X pins D) X.xe { s' with heap := h } := by
  intro hds l hh
  induction hh with
  | nil => exact fun w => C.none_fits tk w fl u
  | @cons x c uu b1 bs p1 p2 hds2 l2 hc hu r ih =>
    rintro ⟨b, hb, yes, no⟩
    obtain ⟨o3, z3, f3, e3, S3⟩ := C.suite fl u
    have kin := (C.inv fl.1 u).kIn
    refine wpAny_handleBy_cons
      (codeAny_handlers_test ?_) (fun q => nomatch q)
    have LT : PySem.W.Looks (model X.prog X.w) h (typeOf (.ref a)) cls := fun _ _ _ _ k q =>
      wpAny_typeOf_ref (k _ _ e3) (by rw [z3.1]; exact q)
    have named : ∀ {Q E : Value → Shared → Prop}, Q c { s' with heap := h } →
        wpAny (model X.prog X.w) (X.A.mark (some (.ref a))) (eval (.Name x p1) X.env) Q E { s' with heap := h } := fun q => by
      obtain ⟨hg, dbg, hm⟩ := hc
      rcases hm with hm | ⟨hm, hv, nn⟩
      · exact ld_glob (X := X.suite a ((a, o3) :: (X.pn ++ pins)))
          S3 hg hm q dbg
      · exact ld_blt (X := X.suite a ((a, o3) :: (X.pn ++ pins)))
          S3 hg hm hv q nn dbg
    refine named ((PySem.W.exm_one (M := model X.prog X.w) kin LT hb).here ?_)
    cases b with
    | false =>
      show wpAny _ X.A (handleBy (.ref a) X.env hds2) _ _ _
      exact ih (no rfl)
    | true =>
      refine codeAny_handlers_suite_as
        (HandSPX.lands_againZ fl fun h4 fl4 u4 => ?_)
      obtain ⟨o4, z4, f4, e4, S4⟩ := C.suite fl4 (u.trans u4)
      refine store_ok (X := X.suite a ((a, o4) :: (X.pn ++ pins))) (v := .ref a)
        S4 hN hi (.inl hln) rfl (fun s5 S5 => ?_) (.inr hln)
      refine wpAny_mono ((hu a o4 cls d (X.pn ++ pins) z4 f4).run [] s5 _ H _ S5
        (yes rfl a C.na)) (fun f s6 hsp => ?_) (fun _ _ z => z.elim)
      have over : ∀ {σ6 : L2.St} {H6 : Hp} {Q : Shared → Prop}, Inv (X.suite a ((a, o4) :: (X.pn ++ pins))) [] σ6 H6 s6 →
          (∀ s7, Inv X pins (σ6.set i none) H6 s7 → Q s7) →
          wpAny (model X.prog X.w) X.A (do bindName X.env n .none; unbindBehindTheSuite X.env n p2) (fun _ s7 => Q s7) X.xe s6 := fun S6 q =>
        gone_ok (S6.unsuite C.I.ok) hN hi hln q
      match f, hsp with
      | .ret _, ⟨v6, σ6, H6, S6, r6, q6⟩ => exact over S6 fun s7 J7 => ⟨v6, _, H6, J7, r6, q6⟩
      | .next, ⟨σ6, H6, S6, q6⟩ => exact over S6 fun s7 J7 => ⟨_, H6, J7, q6⟩
      | .brk, ⟨σ6, H6, S6, q6⟩ => exact over S6 fun s7 J7 => ⟨_, H6, J7, q6⟩
      | .cont, ⟨σ6, H6, S6, q6⟩ => exact over S6 fun s7 J7 => ⟨_, H6, J7, q6⟩
end
section
variable {X : Cx} {n : Str} {i : Nat} {body : List Stmt} {h1 : ExceptHandler} {hds : List ExceptHandler} {l : List (Value × TSX)} {pos : Pos} {tb : WX → TS} {Wo : WX}
theorem ps_try_asL (st : X.stack = X.env :: X.outer) (fr : X.env.frame = some X.env.locals) (hN : X.N.Nodup) (hi : X.N[i]? = some n) (hln : X.env.kindOf n = some .local) (tk : Takes X Wo)
    (hb : ∀ (W : WX) (pn : List (Addr × Obj)) (xe : Value → Shared → Prop), Takes (X.tr pn xe) W →
      PassesOwn (model X.prog X.w) X.A X.env xe → PSs (X.tr pn xe) body (tb W))
    (hh : HdsAs X n (h1 :: hds) l) : PS X (.Try body (h1 :: hds) [] [] pos) (fun D σ H => tb (wAsL X.K i Wo D l) D σ H) := by
  refine ⟨fun pins s σ H D I h => wpAny_Try_except ?_⟩
  have ok := I.ok
  have ahead : X.A.frames = some (X.env :: X.outer) := by rw [ok.frames, st]
  have runs := (hb (wAsL X.K i Wo D l) (X.pn ++ pins)
    (fun e s₁ => wpAny (model X.prog X.w) X.A (noteFrame e X.env)
      (fun _ s₂ => wpAny (model X.prog X.w) X.A (setFlight e none)
        (fun _ s₃ => wpAny (model X.prog X.w) X.A (handleBy e X.env (h1 :: hds)) (SP X pins D) X.xe s₃) X.xe s₂) X.xe s₁)
    (fun u s' xx => ?_) PassesOwn.looking).run [] s σ H D (I.toTry _) h
  · refine wpAny_mono runs (fun f s1 hsp => ?_) (fun e s1 he => he)
    match f, hsp with
    | .next, ⟨σ', H', J, q⟩ => exact wpAny_execs_nil ⟨σ', H', J.ofTry ok, q⟩
    | .brk, ⟨σ', H', J, q⟩ => exact ⟨σ', H', J.ofTry ok, q⟩
    | .cont, ⟨σ', H', J, q⟩ => exact ⟨σ', H', J.ofTry ok, q⟩
    | .ret _, ⟨v, σ', H', J, r, q⟩ => exact ⟨v, σ', H', J.ofTry ok, r, q⟩
  · obtain ⟨a, B, sI, pins', σ', H', cls, d, rfl, J, nb, up, sky, na, os, ag, w⟩ := xx
    have C : Come X pins a B sI s' σ' H' := ⟨st, fr, J.ofTry ok, nb, up, na, os, ag⟩
    refine Sky.land Zc.steady ahead fr (by rw [← st]; exact sky) fun h3 fl3 up3 => ?_
    exact C.handled hN hi hln tk fl3 up3 hh w
end
/-! told by data -/
def Picks (K : PySem.W.Frag) (cls : Value) (u : TSX) : List (Value × TSX) → Prop
  | [] => False
  | q :: r => (PySem.W.exmOne K cls q.1 = some true ∧ q.2 = u) ∨ (PySem.W.exmOne K cls q.1 = some false ∧ Picks K cls u r)
theorem Picks.wish {K : PySem.W.Frag} {cls : Value} {u : TSX} {i : Nat} {Wo : WX} {D : Ends} {d : Option Addr} {σ : L2.St} {H : Hp} : ∀ {l : List (Value × TSX)}, Picks K cls u l →
    (∀ a, H a = none → u a cls d { nx := fun σ' H' => D.nx (σ'.set i none) H', rt := D.rt, bk := fun σ' H' => D.bk (σ'.set i none) H', ct := fun σ' H' => D.ct (σ'.set i none) H' } (σ.set i (some (.ref a))) H) → wAsL K i Wo D l cls d σ H
  | [], h, _ => h.elim
  | q :: r, .inl ⟨e, y⟩, g => ⟨true, e, fun _ a ha => by rw [y]; exact g a ha, fun z => nomatch z⟩
  | q :: r, .inr ⟨e, y⟩, g => ⟨false, e, (fun z => nomatch z), fun _ => Picks.wish y g⟩
section
variable {K : PySem.W.Frag} {G : Pa} {δ τ : List Sl} {t : Nat} {D : DEnds} {ta : TA} {i : Nat}
/-- try: return f(..) except C1 as n: return .. except C2 as n: return .. -/
theorem ds_tryRetL {S : XSp} {l : List (Value × TSX)} (own0 : ∀ p, cnt p δ + cnt p τ = 0)
    (q : DenA K G ta δ τ t fun xs δ1 t1 => δ1 = δ ∧ S (xs.map Sl.soft) t1 D.rt fun Cl fs t' => ∃ u : TSX, Picks K (.ref Cl) u l ∧
      ∀ (a d : Addr) (G' : Pa), G'.H0 d = some (.xd fs) → ¬ G'.O d → DS K G' (u a (.ref Cl) (some d)) (δ.set i (.raw (.ref a))) τ t' ⟨fun _ _ => False, D.rt, fun _ _ => False, fun _ _ => False⟩) :
    DS K G (fun E σ H => tRet (tCallX (spDX K S) (wAsL K i (fun _ _ _ _ => False) E l) ta) E σ H) δ τ t D := fun σ vs H E R0 k1 k2 k3 k4 =>
  q σ vs H _ R0 fun us H1 xs δ1 t1 ⟨eδ, hS⟩ len R1 => by
    subst eδ
    have R2 := R1.softAll len
    have l' : (xs.map Sl.soft).length = us.length := by rw [List.length_map]; exact len
    have R3 := R2.drop l'
    refine ⟨⟨G.dr, Pr G δ1 τ, H1, G.tb⟩, xs.map Sl.soft, t1, _, _, hS, l', R2.into l' (fun p => cnt_soft xs), fun p => cnt_soft xs, fun v H' x t' c R' => k2 _ _ _ δ1 _ _ c (R3.back R'), fun Cl d fs H' t' c hd nO R' => ?_⟩
    have f : Frm G H1 H' := fun b o z e => R'.old b o (fun y => z (isDr_to (G' := G) (G := ⟨G.dr, Pr G δ1 τ, H1, G.tb⟩) rfl rfl y)) e
    have dw : DrOk G H' t' := ⟨fun d r c e => by
      obtain ⟨a, b, c', _⟩ := R3.dw.1 d r c e
      exact ⟨a, b, c', (R'.dw.1 d r c e).2.2.2⟩, fun P q m => ⟨(R3.dw.2 P q m).1, (R'.dw.2 P q m).2⟩⟩
    have R4 : Rl K G δ1 τ t' σ vs H' := R3.step f dw
    obtain ⟨u, pk, suite⟩ := c
    refine pk.wish fun a ha => ?_
    have R5 : Rl K ⟨G.dr, G.O, H', G.tb⟩ (δ1.set i (.raw (.ref a))) τ t' (σ.set i (some (.ref a))) vs H' := Rl.put i ((R4.here own0).push (s := .raw (.ref a)) rfl fun _ => rfl)
    exact suite a d ⟨G.dr, G.O, H', G.tb⟩ hd (fun z => nO (.inl z)) _ vs H' _ R5 (fun _ _ _ _ z => z.elim) (fun v H'' x δ' t'' σ' c R6 => k2 _ _ _ _ _ _ c (Rl.there R4.old dw R6)) (fun _ _ _ _ z => z.elim) fun _ _ _ _ z => z.elim
end
/-! isinstance(e, (C1, C2, ..)), e the error that the suite holds -/
def rIsXT (K : PySem.W.Frag) (C a : Addr) (cls : Value) (d : Option Addr) : List V → Hp → VK → Prop := fun xs H Q => ∃ (tp : Addr) (cs : List V) (us : List Value) (b : Bool) (dd : Addr) (fs : List (Str × V)),
  xs = [.ref a, .ref tp] ∧ H tp = some (.tup cs) ∧ Paired ClsV cs us ∧ cls = .ref C ∧ d = some dd ∧ H dd = some (.xd fs) ∧ PySem.W.kitAny K (.ref C) us = some b ∧ Q (.bl b) H
theorem call_isXT {X : Cx} {a C : Addr} {d : Option Addr} {oe : Obj} {cls : Value} {pn : List (Addr × Obj)} (Z : ExcC X.K C) (hz : Zc cls d oe) (hf : ∃ vs, oe.data = .fields vs) : CallR (X.suite a ((a, oe) :: pn)) (.builtin "isinstance") (rIsXT X.K C a cls d) := by
  intro pins s σ H xs us Q I r h
  obtain ⟨tp, cs, ws, b, dd, fs, rfl, hT, kc, ec, ed, hd, e, q⟩ := h
  subst ec
  subst ed
  obtain ⟨u1, u2, rfl, r1, r2⟩ := vals2 r
  cases (show u1 = Value.ref a from r1)
  cases (show u2 = Value.ref tp from r2)
  obtain ⟨hget, _⟩ := I.pin (a, oe) (List.mem_append.mpr (.inl List.mem_cons_self))
  obtain ⟨vs, hv⟩ := hf
  obtain ⟨_, hns, _⟩ := (show ObjOk X.prog X.w H s.heap dd (.xd fs) from I.hok dd _ hd)
  obtain ⟨od, ho, _⟩ := lookIn_ns hns
  have J : PySem.W.InstAt s.heap a oe C (some od) := ⟨hget, hz.1, by unfold PySem.W.notCls; rw [hv] <;> rfl, by rw [hz.2]; exact ho⟩
  have hcl : (PySem.W.clsIn X.K C).isSome = true := by
    obtain ⟨cd, hc, _⟩ := PySem.W.any_some Z.hd
    rw [hc]
    rfl
  obtain ⟨_, its, rv, o, h1, h2, n, h3⟩ := (show ObjOk X.prog X.w H s.heap tp (.tup cs) from I.hok tp _ hT)
  have e3 := ClsV.all kc rv
  subst e3
  obtain ⟨oc, od2, dt, sl⟩ := o
  simp only at h2 h3
  subst h2 h3
  exact PySem.W.kia_tup (PySem.W.kitx_exc hcl Z.hg Z.hk Z.hs Z.ha Z.hn Z.ht Z.hm) I.kIn J h1 e (fun z => nomatch z) fun tk => ⟨.bl b, H, I.kept (t' := tk) fun _ _ z => z, rfl, q⟩
section
variable {K : PySem.W.Frag} {G : Pa} {δ τ : List Sl} {t : Nat} {R : RX} {a C d : Addr} {i : Nat}
theorem den_isXT {ts : TA} {cs : List V} {us : List Value} {fs : List (Str × V)} {b : Bool} (e : δ[i]? = some (.raw (.ref a))) (pure : ∀ σ H (Q : List V → Hp → Prop), Q cs H → ts σ H Q) (few : cs.length ≤ 1000) (kc : Paired ClsV cs us)
    (hd : G.H0 d = some (.xd fs)) (nO : ¬ G.O d) (hb : PySem.W.kitAny K (.ref C) us = some b) (q : R (.dat (.bool b)) δ t) :
    Den K G (tCB (rIsXT K C a (.ref C) (some d)) (tCons (tVar i) (tCons (tTup ts) tNil))) δ τ t R := fun σ vs H Q R0 k => by
  obtain ⟨u, hu, hr⟩ := rd_at R0 e (by intro z; cases z)
  have hr : u = .ref a := hr
  subst hr
  have hdd := R0.old d _ (fun z => nO (R0.dw.dr z).1) hd
  refine ⟨_, hu, pure σ H _ ⟨Nat.le_trans few (by rw [sizeLine_eq]; decide), fun p n => ?_⟩⟩
  have ne : d ≠ p := fun z => by rw [z, n] at hdd; cases hdd
  exact ⟨p, cs, us, b, d, fs, rfl, upd_same, kc, rfl, rfl, by rw [upd_ne ne]; exact hdd, hb, k _ _ _ _ _ q ((R0.grow (same_upd n)).sc (.bl b))⟩
end
end Dl

set_option Elab.async false
set_option linter.all false
set_option maxRecDepth 100000
set_option maxHeartbeats 4000000
/-! errors of any field, or of none; methods, operators and classes that may raise; any body in a try -/
namespace Dl
open PySem PySem.Spec PyProof.Rows L2 Glay Lw HT
/-- what an error carries: no dict of its own, or one told by data -/
def ErrAt (K : PySem.W.Frag) (G : Pa) (H : Hp) (dd : Option Addr) : Option Fds → Prop
  | none => dd = none
  | some fs => ∃ d us, dd = some d ∧ H d = some (.xd us) ∧ ¬ G.O d ∧ DqFs K (hid G.O H) us fs
abbrev EC := Addr → Option Fds → Nat → Prop
abbrev XSp2 := List Sl → Nat → (Sl → Nat → Prop) → EC → Prop
def outE2 (K : PySem.W.Frag) (G : Pa) (CE : EC) (E : XK) : Prop := ∀ C o dd H' t', CE C o t' → ErrAt K G H' dd o → Rl K G [] [] t' [] [] H' → E (.ref C) dd H'
def spDX2 (K : PySem.W.Frag) (S : XSp2) : Sp := fun vs H Q E => ∃ (G : Pa) (xs : List Sl) (t : Nat) (C : Sl → Nat → Prop) (CE : EC), S xs t C CE ∧ xs.length = vs.length ∧ Rl K G [] xs t [] vs H ∧
  (∀ p, cnt p xs = 0) ∧ (∀ v H' x t', C x t' → Rl K G [] [x] t' [] [v] H' → Q v H') ∧ outE2 K G CE E
abbrev ENd := Addr → Option Fds → List Sl → Nat → Prop
/-- a wish that holds wherever such an error comes up -/
def WT (K : PySem.W.Frag) (G : Pa) (W : WX) (N : ENd) : Prop := ∀ C o dd σ H δ t, N C o δ t → Rl K G δ [] t σ [] H → ErrAt K G H dd o → W (.ref C) dd σ H
section
variable {K : PySem.W.Frag} {G : Pa} {δ τ : List Sl} {t : Nat} {D : DEnds} {R : RX} {ta : TA} {te : TE} {σ : L2.St} {vs us : List V} {H : Hp}
theorem Rl.bare (R : Rl K G δ τ t σ vs H) : Rl K G [] [] t [] [] H := R.less (fun p => by simp only [cnt]; omega) (fun _ => .nil) fun _ => .nil
theorem Rl.clear (R : Rl K G δ τ t σ vs H) : Rl K G (δ.map Sl.soft) [] t σ [] H :=
  Rl.softD (R.less (τ' := []) (ws := []) (fun p => by simp only [cnt]; omega) (fun m => sl_to m R.sl) fun _ => .nil)
theorem outE2.wt {CE : EC} {E : XK} (h : outE2 K G CE E) : WT K G (fun cls d _ H => E cls d H) fun C o _ t => CE C o t := fun C o dd σ H δ t n R e => h C o dd H t n e R.bare
theorem ErrAt.up {O : Addr → Prop} {H0 : Hp} {dd : Option Addr} {o : Option Fds} (l : ∀ b, G.O b → O b) (e : ErrAt K ⟨G.dr, O, H0, G.tb⟩ H dd o) : ErrAt K G H dd o := by
  cases o with
  | none => exact e
  | some fs =>
    obtain ⟨d, us, e1, e2, e3, e4⟩ := e
    exact ⟨d, us, e1, e2, fun z => e3 (l _ z), e4.mono (hid_mono l) _⟩
/-- what goes into a call that may raise, and comes back -/
theorem Rl.callX2 {R' : RX} {S : XSp2} {W : WX} {N : ENd} {xs : List Sl} {Q : VK} (hW : WT K G W N) (R : Rl K G δ (xs ++ τ) t σ (us ++ vs) H) (l : xs.length = us.length) (s : S (xs.map Sl.soft) t (fun x t' => R' x δ t') fun C o t' => N C o (δ.map Sl.soft) t')
    (k : ∀ v H' x δ' t', R' x δ' t' → Rl K G δ' (x :: τ) t' σ (v :: vs) H' → Q v H') : spDX2 K S us H Q fun cls d H' => W cls d σ H' := by
  have R2 := R.softAll l
  have l' : (xs.map Sl.soft).length = us.length := by rw [List.length_map]; exact l
  have R3 := R2.drop l'
  refine ⟨⟨G.dr, Pr G δ τ, H, G.tb⟩, xs.map Sl.soft, t, _, _, s, l', R2.into l' (fun p => cnt_soft xs), fun p => cnt_soft xs, fun v H' x t' c R4 => k v H' x δ t' c (R3.back R4), fun C o dd H' t' n e R' => ?_⟩
  have f : Frm G H H' := fun b o z e => R'.old b o (fun y => z (isDr_to (G' := G) (G := ⟨G.dr, Pr G δ τ, H, G.tb⟩) rfl rfl y)) e
  have dw : DrOk G H' t' := ⟨fun d r c e => by
    obtain ⟨a, b, c', _⟩ := R3.dw.1 d r c e
    exact ⟨a, b, c', (R'.dw.1 d r c e).2.2.2⟩, fun P q m => ⟨(R3.dw.2 P q m).1, (R'.dw.2 P q m).2⟩⟩
  have R4 : Rl K G δ τ t' σ vs H' := R3.step f dw
  exact hW C o dd σ H' _ t' n R4.clear (e.up fun b z => .inl z)
theorem den_callX2 {S : XSp2} {W : WX} {N : ENd} (hW : WT K G W N) (q : DenA K G ta δ τ t fun xs δ1 t1 => S (xs.map Sl.soft) t1 (fun x t' => R x δ1 t') fun C o t' => N C o (δ1.map Sl.soft) t') : Den K G (tCallX (spDX2 K S) W ta) δ τ t R := fun σ vs H Q R0 k =>
  q σ vs H _ R0 fun us H1 xs δ1 t1 q1 l R1 => Rl.callX2 hW R1 l q1 k
/-- raise C(v) -/
theorem ds_raise2 {C : Addr} {fn : Str} {E : XK} {CE : EC} (hE : outE2 K G CE E) (q : DenA K G ta δ τ t fun xs _ t1 => ∃ x d, xs = [x] ∧ x.dv = some d ∧ CE C (some [(.str fn, d)]) t1) : DS K G (tRaiseO C fn E ta) δ τ t D := fun σ vs H E' R0 k1 k2 k3 k4 =>
  q σ vs H _ R0 fun us H1 xs δ1 t1 ⟨x, d0, ex, hx, c⟩ l R1 => by
    subst ex
    obtain ⟨u, rfl⟩ := one_arg (xs := []) l
    have R1 : Rl K G δ1 (x :: τ) t1 σ (u :: vs) H1 := R1
    refine ⟨by simp, fun a ha => ⟨a, u, rfl, upd_same, fun dx n ne => ⟨rfl, dx, [(fn, u)], ?_, ?_, ?_, ?_⟩⟩⟩
    · exact upd_same
    · rw [upd_ne ne]
      exact upd_same
    · rwa [upd_ne ne] at n
    · have n1 : H1 dx = none := by rwa [upd_ne ne] at n
      have eh : upd (del (upd (upd (upd H1 a (exo a C none)) dx (exd dx [(fn, u)])) a (exo a C (some dx))) a) dx (.xd [(fn, u)]) = upd H1 dx (.xd [(fn, u)]) := funext fun b => by
        by_cases hb : b = dx
        · subst hb
          rw [upd_same, upd_same]
        · rw [upd_ne hb, upd_ne hb]
          by_cases hba : b = a
          · subst hba
            rw [del_same, ha]
          · rw [del_ne hba, upd_ne hba, upd_ne hb, upd_ne hba]
      rw [eh]
      have R2 : Rl K G [] [x] t1 [] [u] H1 := R1.less (fun p => by simp only [cnt]; omega) (fun _ => .nil) fun m => .cons (R1.head.to m fun _ _ _ _ e => e) .nil
      have qy : Dq K (hid G.O H1) u d0 := by
        have h := R2.softTop.head
        have ed : x.soft = .dat d0 := by
          cases x with
          | dat d' => cases hx; rfl
          | own p xs => cases hx; rfl
          | any => cases hx
          | drw => cases hx
          | raw _ => cases hx
          | pin _ => cases hx
          | pinT _ => cases hx
          | rg _ _ => cases hx
        have ep : Pr G [] [x.soft] = G.O := funext fun b => by
          unfold Pr
          simp only [cnt, soft_has]
          simp
        rw [ep, ed] at h
        exact h
      have sm : Same (hid G.O H1) (hid G.O (upd H1 dx (.xd [(fn, u)]))) := hid_same fun b o h e => by
        rw [upd_ne fun z => by rw [z, n1] at e; cases e]
        exact e
      exact hE C _ (some dx) _ t1 c ⟨dx, _, rfl, upd_same, fun z => R1.live dx z n1, .cons (qy.mono sm _) .nil⟩ (R1.bare.grow (same_upd n1))
/-- raise C() of a class without fields -/
def tRaise0 (C : Addr) (E : XK) : TS := fun _ _ H => E (.ref C) none H
theorem ds_raise0 {C : Addr} {E : XK} {CE : EC} (hE : outE2 K G CE E) (c : CE C none t) : DS K G (tRaise0 C E) δ τ t D := fun σ vs H E' R0 _ _ _ _ => hE C none none H t c rfl R0.bare
end
/-- a class of errors without fields -/
structure ErrN (K : PySem.W.Frag) (mg : Str → Option Value) (x : Str) (C : Addr) : Prop where
  q : PySem.W.excIn K C [.type "ValueError", .type "Exception", .type "BaseException", .type "object"] "ValueError.__new__" = true
  gC : mg x = some (.ref C)
  kC : PySem.W.keepIn K (.ref C) = true
  eC : PySem.W.subIn K (.ref C) (.type "BaseException") = some true
  tC : PySem.W.typeIn K (.ref C) = some (.type "type")
section
variable {X : Cx} {x : Str} {C : Addr} {p pos pos2 : Pos} {E : XK}
theorem pmk_none (Z : ErrN X.K X.mg x C) (hg : Gl X x) (hdb : (x == ("__debug__" : Str)) = false := by decide) : PMk X (.Call (.Name x p) [] [] pos) (fun _ H Q => Q (.ref C) none H) := by
  intro pins s σ H Q I h
  refine wpAny_Call_Name_kw (ld_glob I hg Z.gC ?_ hdb)
  refine PySem.W.callWith_K0 (first := []) I.kIn Z.kC ?_
  obtain ⟨bm, N, nm, qn, bs, hdct, sn, sub, ab, col, dd, k0, k1, k2, k3, k5, mN, hC, hN, hni, T⟩ := exc_obj I.kIn Z.q
  exact wpAny_call_exc_subT PySem.F.excBase_ValueError T hC hN hni (fun h' e hm => mk_of I hm (raises_own Z.eC Z.tC) h (I.hok.gone hm.new)) (by show 0 ≤ sizeLine; omega)
theorem psRaise0 (Z : ErrN X.K X.mg x C) (hc : X.calm = true) (tk : Takes X fun cls d _ H => E cls d H) (hg : Gl X x) (hdb : (x == ("__debug__" : Str)) = false := by decide) :
    PS X (.Raise (some (.Call (.Name x p) [] [] pos)) none pos2) (tRaise0 C E) := ps_raise hc tk (pmk_none Z hg hdb)
end
/-! ### methods, operators, instances made, where something may be raised -/
section
variable {X : Cx} {k : Nat} {f C : Addr} {fd : FuncData} {ps : List Str} {sp : Sp} {x m qual : Str} {st : Stmt} {pos apos : Pos} {e o : Expr} {es : List Expr} {ta tb : TE} {t : TA} {W : WX}
theorem run_fnGX {pins : List (Addr × Obj)} {σ : L2.St} {H : Hp} {s : Shared} {Q : VK} {us : List Value} {vs : List V} (F : GOkX X.prog X.w X.K X.mg X.base k f fd ps sp) (hr : Room k X.A) (hq : X.A.guards = some []) (hb : Binds X.K fd ps []) (tk : Takes X W)
    (I : Inv X pins σ H s) (r : Vals vs us) (h : sp vs H Q fun cls d H' => W cls d σ H') : wpAny (model X.prog X.w) X.A (call (.ref f) us) (EP X pins σ Q) X.xe s := by
  have hl : us.length = ps.length := r.length.symm.trans (F.many h)
  have b := hb s us I.kIn (by rw [List.append_nil]; exact hl)
  rw [List.append_nil] at b
  refine wpAny_call (codeAny_mono (F.goes hr hq I.env0 b r h) fun fin s' hf => ?_)
  match fin, hf with
  | .error e, hf => exact tk e s' (XE.of_call I (fun _ _ _ z => z) hf)
  | .ok (.ret u), hf => exact I.after hf
def tMethX (C : Addr) (m : Str) (sp : Sp) (W : WX) (te : TE) (t : TA) : TE := fun σ H Q => tMeth C m sp [] (fun cls d H' => W cls d σ H') te t σ H Q
theorem methGX {pl : Sem Bool} (D : Mt X.K C m qual st ps f fd) (F : GOkX X.prog X.w X.K X.mg X.base k f fd ps sp) (hr : Room k X.A) (hq : X.A.guards = some []) (tk : Takes X W) (he : PE X o ta) (ha : PA X (e :: es) t)
    (hst : starEach (e :: es) X.env = (false, eval e X.env) :: starEach es X.env := by rfl) (hpl : (backTo pos (starEach es X.env)).any (·.1) = false := by rfl)
    (ht : eval (.Call (.Attribute o m apos) (e :: es) [] pos) X.env = (do
      let ov ← eval o X.env
      standAt apos.atName
      let (g, fst) ← holding [ov] (getMethod ov m pl)
      callWith pos g fst (backTo pos (starEach (e :: es) X.env)) (backToKw pos (keywordEach [] X.env))) := by rfl) :
    PE X (.Call (.Attribute o m apos) (e :: es) [] pos) (tMethX C m sp W ta t) := by
  constructor
  intro pins s σ H Q I h
  refine PySem.W.methodCall_KW (pl := pl) (thn (he.run pins s σ H _ I h) ?_) ht
  rintro u s1 ⟨y, H1, I1, ry, a, dx, fs, rfl, ea, l, q⟩
  cases ry
  refine getmeth_ok I1 ea D.cl D.me l (PySem.W.callWith_K (first := [.ref a]) (h₀ := X.base) I.ok.mod.kin D.me.kp (thn (ha.run pos pins s1 σ H1 _ I1 q) ?_) hst hpl)
  rintro us s2 ⟨vs, H2, I2, r, q2⟩
  refine ⟨I2.kIn, run_fnGX (us := .ref a :: us) (vs := .ref a :: vs) F hr hq D.bs tk I2 (.cons rfl r) ?_⟩
  rw [List.append_nil] at q2
  exact q2
/-- a op b -/
def rOp2X (C : Addr) (sp : Sp) (E : XK) : R2 := fun x y H Q => ∃ a dx fs b dy gs, x = .ref a ∧ y = .ref b ∧ H a = some (.ins C dx fs) ∧ H b = some (.ins C dy gs) ∧ sp [.ref a, .ref b] H Q E
def tOpX (C : Addr) (sp : Sp) (W : WX) (ta tb : TE) : TE := fun σ H Q => tOp (rOp2X C sp fun cls d H' => W cls d σ H') ta tb σ H Q
theorem opGX {op : Operator} {a b : Expr} (hm : PySem.dunder op.info.2 = m) (D : Mt X.K C m qual st ps f fd) (sf : PySem.W.selfFirst X.K C = true) (F : GOkX X.prog X.w X.K X.mg X.base k f fd ps sp) (hr : Room k X.A) (hq : X.A.guards = some []) (tk : Takes X W) (ha : PE X a ta) (hb : PE X b tb) :
    PE X (.BinOp a op b pos) (tOpX C sp W ta tb) := by
  refine ⟨fun pins s σ H Q I h => wpAny_BinOp (binT ha hb I h fun v u s2 x y H2 I2 rx ry q => ?_)⟩
  obtain ⟨a, dx, fs, b, dy, gs, rfl, rfl, ea, eb, q⟩ := q
  cases rx
  cases ry
  obtain ⟨ox, od, J⟩ := ins_inst I2 ea
  obtain ⟨oy, oe, J'⟩ := ins_inst I2 eb
  obtain ⟨m', hF⟩ := I2.fr
  subst hm
  refine PySem.W.binop_K hF I2.ok.mod.kin J J'.type sf D.me.at_ D.me.fn (wpAny_mono (run_fnGX (us := [.ref a, .ref b]) (vs := [.ref a, .ref b]) F hr hq D.bs tk I2 (.cons rfl (.cons rfl .nil)) q) (fun w' s' z => ?_) fun _ _ e => e)
  obtain ⟨z', H', I', rz, qz⟩ := z
  exact SlX.cmpback rz ⟨z', H', I', rz, qz⟩
/-- o(..) -/
def tInstX (C : Addr) (sp : Sp) (W : WX) (ta : TE) (t : TA) : TE := fun σ H Q => ta σ H fun x H1 => ∃ a, x = .ref a ∧ t σ H1 fun vs H2 => (∃ dx fs, H2 a = some (.ins C dx fs)) ∧ sp (.ref a :: vs) H2 Q fun cls d H' => W cls d σ H'
theorem instGX {fe : Expr} (D : Mt X.K C "__call__" qual st ps f fd) (fi : PySem.W.fnIn X.K f = true) (F : GOkX X.prog X.w X.K X.mg X.base k f fd ps sp) (hr : Room k X.A) (hq : X.A.guards = some []) (tk : Takes X W) (hf : PE X fe ta) (ha : PA X (e :: es) t)
    (ht : eval (.Call fe (e :: es) [] pos) X.env = (do callWith pos (← eval fe X.env) [] (backTo pos (starEach (e :: es) X.env)) (backToKw pos (keywordEach [] X.env))) := by rfl)
    (he : starEach (e :: es) X.env = (false, eval e X.env) :: starEach es X.env := by rfl) (hpl : (backTo pos (starEach es X.env)).any (·.1) = false := by rfl) : PE X (.Call fe (e :: es) [] pos) (tInstX C sp W ta t) := by
  constructor
  intro pins s σ H Q I h
  refine Call_ (thn (hf.run pins s σ H _ I h) ?_) ht
  rintro u s1 ⟨y, H1, I1, ry, a, rfl, q⟩
  cases ry
  refine StX.callO_with (thn (ha.run pos pins s1 σ H1 _ I1 q) ?_) he hpl
  rintro us s2 ⟨vs, H2, I2, r, ⟨dx, fs, ea⟩, q2⟩
  obtain ⟨mA, O, _⟩ := ins_get I2.hok ea
  obtain ⟨od, J, _⟩ := O.look
  have r2 : Vals (V.ref a :: vs) (Value.ref a :: us) := .cons rfl r
  have hl := r2.length.symm.trans (F.many q2)
  have b := D.bs s2 (.ref a :: us) I2.kIn (by rw [List.append_nil]; exact hl)
  rw [List.append_nil] at b
  refine ⟨⟨C, _, od, J, rfl⟩, wpAny_call (PySem.W.kco_code I2.kIn J rfl D.me.at_ D.me.fn fi (codeAny_mono (F.goes hr hq I2.env0 b r2 q2) fun fin s' hf => ?_))⟩
  match fin, hf with
  | .error e, hf => exact tk e s' (XE.of_call I2 (fun _ _ _ z => z) hf)
  | .ok (.ret u), hf => exact I2.after hf
/-- C(..) -/
def tMakeX (C : Addr) (sp : Sp) (W : WX) (t : TA) : TE := fun σ H Q => tMake C sp [] (fun cls d H' => W cls d σ H') t σ H Q
theorem makeGX (D : MkC X.K X.mg x C qual st ps f fd) (F : GOkX X.prog X.w X.K X.mg X.base k f fd ps sp) (hr : Room (k + 1) X.A) (hq : X.A.guards = some []) (tk : Takes X W) (hg : Gl X x) (ha : PA X (e :: es) t)
    (hdb : (x == ("__debug__" : Str)) = false := by decide) (he : starEach (e :: es) X.env = (false, eval e X.env) :: starEach es X.env := by rfl) (hpl : (backTo pos (starEach es X.env)).any (·.1) = false := by rfl) :
    PE X (.Call (.Name x apos) (e :: es) [] pos) (tMakeX C sp W t) := by
  constructor
  intro pins s σ H Q I h
  refine wpAny_Call_Name_kw (ld_glob I hg D.at_ ?_ hdb)
  refine PySem.W.callWith_K (h₀ := X.base) I.ok.mod.kin D.how.kp (thn (ha.run pos pins s σ H _ I h) ?_) he hpl
  rintro us s1 ⟨vs, H1, I1, r, q⟩
  refine ⟨I1.kIn, ?_⟩
  have hs := q (s1.heap.objs.size + 1) s1.heap.objs.size (I1.hok.fresh (Nat.le_succ _)) (I1.hok.fresh (Nat.le_refl _)) (Nat.ne_of_lt (Nat.lt_succ_self _))
  rw [List.append_nil] at hs
  have I2 := Inv.made (C := C) I1
  have r2 : Vals (V.ref (s1.heap.objs.size + 1) :: vs) (Value.ref (s1.heap.objs.size + 1) :: us) := .cons rfl r
  have hl := r2.length.symm.trans (F.many hs)
  have b := D.bs _ (Value.ref (s1.heap.objs.size + 1) :: us) I2.kIn (by rw [List.append_nil]; exact hl)
  rw [List.append_nil] at b
  refine wpAny_call (make_map (f := f) I1.kIn D.how.makes D.how.init (beq_iff_eq.mp D.how.fn) (codeAny_mono (F.goes (hr.make C us []) (quiet_make hq) (I2.env0.make C us []) b r2 hs) fun fin s' hf => ?_))
  match fin, hf with
  | .error e, hf => exact tk e s' (XE.of_call I2 (fun _ _ _ z => z) hf)
  | .ok (.ret w), hf =>
    obtain ⟨z, H', I3, rz, ez, qz⟩ := I2.after hf
    subst ez
    exact ⟨rz, ⟨V.ref (s1.heap.objs.size + 1), H', I3, rfl, qz⟩⟩
end
end Dl

set_option Elab.async false
set_option linter.all false
set_option maxRecDepth 100000
set_option maxHeartbeats 4000000
/-! what may raise, told by data; the suites of a try -/
namespace Dl
open PySem PySem.Spec PyProof.Rows L2 Glay Lw HT
theorem WT.never {K : PySem.W.Frag} {G : Pa} : WT K G (fun _ _ _ _ => False) fun _ _ _ _ => False := fun _ _ _ _ _ _ _ n _ _ => n
/-- one of two readings -/
def tEither (t u : TE) : TE := fun σ H Q => t σ H Q ∨ u σ H Q
theorem peOr {X : Cx} {e : Expr} {t u : TE} (a : PE X e t) (b : PE X e u) : PE X e (tEither t u) := ⟨fun pins s σ H Q I h => h.elim (a.run pins s σ H Q I) (b.run pins s σ H Q I)⟩
section
variable {K : PySem.W.Frag} {G : Pa} {δ τ : List Sl} {t : Nat} {D : DEnds} {R : RX} {ta : TA} {te tf : TE} {σ : L2.St} {vs us : List V} {H : Hp} {C : Addr} {W : WX} {N : ENd}
theorem den_left (q : Den K G te δ τ t R) : Den K G (tEither te tf) δ τ t R := fun σ vs H Q R0 k => .inl (q σ vs H Q R0 k)
theorem den_right (q : Den K G tf δ τ t R) : Den K G (tEither te tf) δ τ t R := fun σ vs H Q R0 k => .inr (q σ vs H Q R0 k)
theorem den_methX {m : Str} {S : XSp2} (hW : WT K G W N) (q : Den K G te δ τ t fun x δ1 t1 => ∃ ps : Fds, x.dv = some (obD C ps) ∧ Fn m ps ∧ DenA K G ta δ1 (x :: τ) t1 fun xs δ2 t2 => S ((x :: xs).map Sl.soft) t2 (fun y t' => R y δ2 t') fun C o t' => N C o (δ2.map Sl.soft) t') :
    Den K G (tMethX C m (spDX2 K S) W te ta) δ τ t R := fun σ vs H Q R0 k =>
  q σ vs H _ R0 fun u H1 x δ1 t1 ⟨ps, hx, no, q1⟩ R1 => by
    obtain ⟨a, dx, us, rfl, ha, hh, hf⟩ := R1.head.ob hx
    refine ⟨a, dx, us, rfl, ha, hf.no no, q1 σ (.ref a :: vs) H1 _ R1 fun ws H2 xs δ2 t2 q2 l R2 => ?_⟩
    rw [List.append_nil]
    exact Rl.callX2 hW (xs := x :: xs) (us := .ref a :: ws) (R2.up1 l) (congrArg (· + 1) l) q2 k
theorem den_opX {S : XSp2} (hW : WT K G W N) (q : Den K G te δ τ t fun x δ1 t1 => Den K G tf δ1 (x :: τ) t1 fun y δ2 t2 => ∃ ps qs : Fds, x.dv = some (obD C ps) ∧ y.dv = some (obD C qs) ∧ S [x.soft, y.soft] t2 (fun z t' => R z δ2 t') fun C o t' => N C o (δ2.map Sl.soft) t') :
    Den K G (tOpX C (spDX2 K S) W te tf) δ τ t R := fun σ vs H Q R0 k =>
  q σ vs H _ R0 fun u H1 x δ1 t1 q1 R1 => q1 σ (u :: vs) H1 _ R1 fun v H2 y δ2 t2 ⟨ps, qs, hx, hy, s⟩ R2 => by
    obtain ⟨a, dx, us, rfl, ha, _, _⟩ := R2.h2.ob hx
    obtain ⟨b, dy, ws, rfl, hb, _, _⟩ := R2.head.ob hy
    exact ⟨a, dx, us, b, dy, ws, rfl, rfl, ha, hb, Rl.callX2 hW (xs := [x, y]) (us := [.ref a, .ref b]) (Rl.up1 (xs := [y]) (us := [.ref b]) R2 rfl) rfl s k⟩
theorem den_instX {S : XSp2} (hW : WT K G W N) (q : Den K G te δ τ t fun x δ1 t1 => (∃ ps : Fds, x.dv = some (obD C ps)) ∧ DenA K G ta δ1 (x :: τ) t1 fun xs δ2 t2 => S ((x :: xs).map Sl.soft) t2 (fun y t' => R y δ2 t') fun C o t' => N C o (δ2.map Sl.soft) t') :
    Den K G (tInstX C (spDX2 K S) W te ta) δ τ t R := fun σ vs H Q R0 k =>
  q σ vs H _ R0 fun u H1 x δ1 t1 ⟨⟨ps, hx⟩, q1⟩ R1 => by
    obtain ⟨a, dx, us, rfl, ha, hh, hf⟩ := R1.head.ob hx
    refine ⟨a, rfl, q1 σ (.ref a :: vs) H1 _ R1 fun ws H2 xs δ2 t2 q2 l R2 => ?_⟩
    have R3 : Rl K G δ2 (x :: (xs ++ τ)) t2 σ (.ref a :: (ws ++ vs)) H2 := R2.up1 l
    obtain ⟨a', dx', us', e', ha', _, _⟩ := R3.head.ob hx
    cases e'
    exact ⟨⟨dx', us', ha'⟩, Rl.callX2 hW (xs := x :: xs) (us := .ref a :: ws) R3 (congrArg (· + 1) l) q2 k⟩
end
/-! ### defs that may raise -/
section
variable {P : Program} {w : World} {K : PySem.W.Frag} {mg : Str → Option Value} {base : Heap} {k : Nat} {f : Addr} {fd : FuncData} {N ps : List Str} {S : XSp2}
theorem okDX2 {x qual : Str} {st : Stmt} (F : Fun K x qual st f fd) (Sc : FnScope N ps (defScope st)) (many : ∀ {xs t C CE}, S xs t C CE → xs.length = ps.length)
    (body : ∀ (G : Pa) (cdv : Value) (A : Around) (outer : List Env) (s : Shared) (H : Hp) (E : XK) (xs : List Sl) (t : Nat) (C : Sl → Nat → Prop) (CE : EC), A.guards = some [] → Room k (A.deeper (envOfC qual (defScope st) s.heap.objs.size f cdv)) → S xs t C CE → outE2 K G CE E →
      ∃ tS, PSs (cxOf (L2.CX P w) P w K mg base N qual (defScope st) f cdv A outer s H E) (defBody st) tS ∧ DS K G tS (dst N xs) [] t ⟨fun _ t' => C (.dat .none) t', C, fun _ _ => False, fun _ _ => False⟩) :
    GOkX P w K mg base (k + 1) f fd ps (spDX2 K S) := by
  refine okGX F Sc (fun h => ?_) fun cdv A outer s H vs Q E hq hr h => ?_
  · obtain ⟨G, xs, t, C, CE, h1, h2, _⟩ := h
    rw [← h2]
    exact many h1
  · obtain ⟨G, xs, t, C, CE, h1, h2, R, no, q, qe⟩ := h
    obtain ⟨tS, runs, ds⟩ := body G cdv A outer s H E xs t C CE hq hr h1 qe
    refine ⟨tS, runs, ?_⟩
    have hpl : ps.length ≤ N.length := by have := congrArg List.length Sc.pre; rw [List.length_take] at this; omega
    have R0 : Rl K G (dst N xs) [] t (L2.start N vs) [] H := by
      refine R.less (fun p => ?_) (fun m => dst_rs (by rw [many h1]; exact hpl) (tm_to m R.tm)) fun _ => .nil
      have := cnt_dst (p := p) (ns := N) (xs := xs)
      have := no p
      simp only [cnt]
      omega
    have ret : ∀ v H' x δ' t' σ', C x t' → Rl K G δ' (x :: []) t' σ' (v :: []) H' → Q v H' := fun v H' x δ' t' σ' c R' =>
      q v H' x t' c (R'.less (fun p => by simp only [cnt]; omega) (fun _ => .nil) fun m => tm_to m R'.tm)
    exact ds _ [] H _ R0 (fun σ' H' δ' t' c R' => ret _ _ _ _ _ _ c (R'.sc .non)) (fun v H' x δ' t' σ' c R' => ret _ _ _ _ _ _ c R') (fun _ _ _ _ z => z.elim) fun _ _ _ _ z => z.elim
end
/-! ### instances made, where `__init__` may raise -/
abbrev ISp2 := List Sl → Nat → (Fds → Nat → Prop) → EC → Prop
def spIX (K : PySem.W.Frag) (C : Addr) (S : ISp2) : Sp := fun vs H Q E => ∃ (G : Pa) (a dx : Addr) (ws : List V) (xs : List Sl) (t : Nat) (CC : Fds → Nat → Prop) (CE : EC), S xs t CC CE ∧ vs = .ref a :: ws ∧ xs.length = ws.length ∧ Ob K G a C dx [] ∧ Rl K G [] xs t [] ws H ∧
  (∀ p, cnt p xs = 0) ∧ (∀ G' H' ps t', CC ps t' → Up a G G' → Ob K G' a C dx ps → Rl K G' [] [] t' [] [] H' → Q .non H') ∧ outE2 K G CE E
section
variable {P : Program} {w : World} {K : PySem.W.Frag} {mg : Str → Option Value} {base : Heap} {k : Nat} {f C : Addr} {fd : FuncData} {N ps : List Str} {S : ISp2}
theorem okIX {x qual : Str} {st : Stmt} (F : Fun K x qual st f fd) (Sc : FnScope N ps (defScope st)) (many : ∀ {xs t CC CE}, S xs t CC CE → xs.length + 1 = ps.length)
    (body : ∀ (G : Pa) (a dx : Addr) (cdv : Value) (A : Around) (outer : List Env) (s : Shared) (H : Hp) (E : XK) (xs : List Sl) (t : Nat) (CC : Fds → Nat → Prop) (CE : EC), A.guards = some [] → Room k (A.deeper (envOfC qual (defScope st) s.heap.objs.size f cdv)) → S xs t CC CE → Ob K G a C dx [] → outE2 K G CE E →
      ∃ tS, PSs (cxOf (L2.CX P w) P w K mg base N qual (defScope st) f cdv A outer s H E) (defBody st) tS ∧ DSg K G tS (dst N (.raw (.ref a) :: xs)) t fun G' δ' t' => ∃ qs, CC qs t' ∧ Up a G G' ∧ Ob K G' a C dx qs) :
    GOkX P w K mg base (k + 1) f fd ps (spIX K C S) := by
  refine okGX F Sc (fun h => ?_) fun cdv A outer s H vs Q E hq hr h => ?_
  · obtain ⟨G, a, dx, ws, xs, t, CC, CE, h1, rfl, h3, _⟩ := h
    rw [← many h1, h3]
    rfl
  · obtain ⟨G, a, dx, ws, xs, t, CC, CE, h1, rfl, h3, B, R, no, q, qe⟩ := h
    obtain ⟨tS, runs, ds⟩ := body G a dx cdv A outer s H E xs t CC CE hq hr h1 B qe
    refine ⟨tS, runs, ?_⟩
    have hpl : ps.length ≤ N.length := by have := congrArg List.length Sc.pre; rw [List.length_take] at this; omega
    have Rp : Rl K G [] (.raw (.ref a) :: xs) t [] (.ref a :: ws) H := R.push (s := .raw (.ref a)) rfl fun _ => rfl
    have no2 : ∀ p, cnt p (.raw (.ref a) :: xs) = 0 := fun p => by
      simp only [cnt, no p]
      rfl
    have R0 : Rl K G (dst N (.raw (.ref a) :: xs)) [] t (L2.start N (.ref a :: ws)) [] H := by
      refine Rp.less (fun p => ?_) (fun m => dst_rs (by rw [List.length_cons, many h1]; exact hpl) (tm_to m Rp.tm)) fun _ => .nil
      have := cnt_dst (p := p) (ns := N) (xs := .raw (.ref a) :: xs)
      have := no2 p
      simp only [cnt] at *
      omega
    refine ds _ H _ R0 fun G' σ' H' δ' t' ⟨qs, c, u, B'⟩ R' => ?_
    exact q G' H' qs t' c u B' (R'.less (fun p => by simp only [cnt]; omega) (fun _ => .nil) fun _ => .nil)
end
section
variable {K : PySem.W.Frag} {G : Pa} {δ τ : List Sl} {t : Nat} {R : RX} {ta : TA} {C : Addr} {W : WX} {N : ENd}
theorem den_makeX {S : ISp2} (hW : WT K G W N) (OK : OC K C) (q : DenA K G ta δ τ t fun xs δ1 t1 => S (xs.map Sl.soft) t1 (fun ps t' => R (.dat (obD C ps)) δ1 t') fun C o t' => N C o (δ1.map Sl.soft) t') : Den K G (tMakeX C (spIX K C S) W ta) δ τ t R := fun σ vs H Q R0 k =>
  q σ vs H _ R0 fun us H1 xs δ1 t1 q1 l R1 a dx na nd ne => by
    rw [List.append_nil]
    have R2 := R1.softAll l
    have l' : (xs.map Sl.soft).length = us.length := by rw [List.length_map]; exact l
    have R3 := R2.drop l'
    have pa := R3.newAt na
    have dr : ∀ b, isDr G b → G.O b ∧ H1 b ≠ none := fun b h => R3.dw.dr h
    have nda : ¬ isDr G a := fun z => (dr a z).2 na
    have h2 : ∀ b o, H1 b = some o → upd (upd H1 dx (.own a)) a (.ins C dx []) b = some o := fun b o e => by
      rw [upd_ne (ne_of_none e na), upd_ne (ne_of_none e nd)]
      exact e
    have m : Same (hid (Pr G δ1 τ) H1) (hid (fun b => Pr G δ1 τ b ∨ b = a) (upd (upd H1 dx (.own a)) a (.ins C dx []))) := fun b o e => by
      by_cases z : Pr G δ1 τ b
      · rw [hid_on z] at e
        cases e
      · rw [hid_off z] at e
        rw [hid_off fun y => y.elim z fun y => by rw [y, na] at e; cases e]
        exact h2 b o e
    have dw2 : DrOk G (upd (upd H1 dx (.own a)) a (.ins C dx [])) t1 := R3.dw.same h2 (Nat.le_refl _)
    have R4 := R2.enter (O2 := fun b => Pr G δ1 τ b ∨ b = a) l' (fun p => cnt_soft xs) m (fun b hb => by
      rcases hb with hb | hb
      · cases z : H1 b with
        | none => exact ((R3.newAt z).1 hb).elim
        | some o =>
          rw [h2 b o z]
          exact Option.some_ne_none _
      · rw [hb, upd_same]
        exact Option.some_ne_none _) ⟨fun d r c e => by
          obtain ⟨x1, x2, x3, x4⟩ := dw2.1 d r c e
          exact ⟨.inl (.inl x1), .inl (.inl x2), .inl (.inl x3), x4⟩, fun P qq mm => ⟨.inl (.inl (dw2.2 P qq mm).1), (dw2.2 P qq mm).2⟩⟩
    have frame : ∀ {G' : Pa} {H' : Hp} {t' : Nat}, Up a ⟨G.dr, fun b => Pr G δ1 τ b ∨ b = a, upd (upd H1 dx (.own a)) a (.ins C dx []), G.tb⟩ G' → Rl K G' [] [] t' [] [] H' → Rl K G δ1 τ t' σ vs H' := fun {G' H' t'} u R' => by
      have toG : ∀ b, isDr G' b → isDr G b := fun b z => isDr_mk.mp (u.isDr.mp z)
      have f : Frm G H1 H' := fun b o z e => R'.old b o (fun y => z (toG b y)) (u.old b o (ne_of_none e na) (fun y => z (isDr_mk.mp y)) (h2 b o e))
      have dw : DrOk G H' t' := ⟨fun d r c e => by
        obtain ⟨x1, x2, x3, _⟩ := R3.dw.1 d r c e
        exact ⟨x1, x2, x3, (R'.dw.1 d r c (by rw [u.dr]; exact e)).2.2.2⟩, fun P qq mm => ⟨(R3.dw.2 P qq mm).1, (R'.dw.2 P qq (by rw [u.tb]; exact mm)).2⟩⟩
      exact R3.step f dw
    refine ⟨⟨G.dr, fun b => Pr G δ1 τ b ∨ b = a, upd (upd H1 dx (.own a)) a (.ins C dx []), G.tb⟩, a, dx, us, _, t1, _, _, q1, rfl, l', ⟨Or.inr rfl, fun z => nda (isDr_mk.mp z), [], upd_same, .nil⟩, R4, fun p => cnt_soft xs, fun G' H' ps t' c u B R' => ⟨rfl, ?_⟩, fun C' o dd H' t' n e R' => ?_⟩
    · have R5 := frame u R'
      obtain ⟨ws, h0, hf⟩ := B.at_
      refine k (.ref a) H' (.dat (obD C ps)) δ1 t' c (R5.dat (.obj OK (dx := dx) (us := ws) ?_ (hf.mono (fun b o e => ?_) _)))
      · rw [hid_off pa.1]
        exact R'.old a _ B.nd h0
      · by_cases z : G'.O b
        · rw [hid_on z] at e
          cases e
        · rw [hid_off z] at e
          have nz : ¬ Pr G δ1 τ b := fun y => z (by rw [u.O]; exact Or.inl y)
          rw [hid_off nz]
          exact R'.old b o (fun y => z (R'.dw.dr y).1) e
    · exact hW C' o dd σ H' _ t' n (frame Up.rfl R').clear (e.up fun b z => .inl (.inl z))
end
/-! ### the suites -/
section
variable {K : PySem.W.Frag} {G : Pa} {δ τ : List Sl} {t : Nat} {D : DEnds} {R : RX} {i : Nat} {σ : L2.St} {vs : List V} {H : Hp}
theorem Rl.unset (i : Nat) (R : Rl K G δ τ t σ vs H) : Rl K G (δ.set i .any) τ t (σ.set i none) vs H :=
  R.less (fun p => by have := cnt_set (p := p) (s := Sl.any) δ i; have : (Sl.any).has p = 0 := rfl; omega) (fun m => pset (.inl rfl) i (sl_to m R.sl)) fun m => tm_to m R.tm
/-- what was there at the beginning is there -/
theorem Rl.oldS (R : Rl K G δ τ t σ vs H) : Same (hid G.O G.H0) (hid (Pr G δ τ) H) := fun b o e => by
  by_cases z : G.O b
  · rw [hid_on z] at e
    cases e
  · rw [hid_off z] at e
    have h := R.old b o (fun y => z (R.dw.dr y).1) e
    rw [hid_off fun y => ?_]
    · exact h
    · rcases y with y | y
      · exact z y
      · have := R.new b y
        rw [this] at e
        cases e
theorem ds_try {l : List (Value × TSX)} {N : ENd} {tb : WX → TS} (suite : ∀ C o δ1 t1, N C o δ1 t1 → ∃ u : TSX, Picks K (.ref C) u l ∧ (∀ p, cnt p δ1 = 0) ∧
      ∀ (a : Addr) (dd : Option Addr) (G' : Pa), ErrAt K G' G'.H0 dd o → DS K G' (u a (.ref C) dd) (δ1.set i (.raw (.ref a))) [] t1 ⟨fun δ2 t2 => D.nx (δ2.set i .any) t2, D.rt, fun δ2 t2 => D.bk (δ2.set i .any) t2, fun δ2 t2 => D.ct (δ2.set i .any) t2⟩)
    (body : ∀ W, WT K G W N → DS K G (tb W) δ [] t D) : DS K G (fun E σ H => tb (wAsL K i (fun _ _ _ _ => False) E l) E σ H) δ [] t D := fun σ vs H E R0 k1 k2 k3 k4 => by
  have evs : vs = [] := by
    cases R0.tm
    rfl
  subst evs
  refine body _ (fun C o dd σ' H' δ' t' n R e => ?_) σ [] H E R0 k1 k2 k3 k4
  obtain ⟨u, pk, own0, s⟩ := suite C o δ' t' n
  refine pk.wish fun a ha => ?_
  have R1 : Rl K ⟨G.dr, G.O, H', G.tb⟩ (δ'.set i (.raw (.ref a))) [] t' (σ'.set i (some (.ref a))) [] H' := Rl.put i ((R.here fun p => by rw [own0 p]; rfl).push (s := .raw (.ref a)) rfl fun _ => rfl)
  exact s a dd ⟨G.dr, G.O, H', G.tb⟩ e _ [] H' _ R1 (fun σ'' H'' δ'' t'' c R6 => k1 _ _ _ _ c ((Rl.there R.old R.dw R6).unset i)) (fun v H'' x δ'' t'' σ'' c R6 => k2 _ _ _ _ _ _ c (Rl.there R.old R.dw R6))
    (fun σ'' H'' δ'' t'' c R6 => k3 _ _ _ _ c ((Rl.there R.old R.dw R6).unset i)) fun σ'' H'' δ'' t'' c R6 => k4 _ _ _ _ c ((Rl.there R.old R.dw R6).unset i)
/-- the error's field -/
theorem den_xf2 {a C : Addr} {dd : Option Addr} {fn : Str} {d : PyData} {fs : Fds} (e : δ[i]? = some (.raw (.ref a))) (hE : ErrAt K G G.H0 dd (some fs)) (g : Fg fn d fs) (q : R (.dat d) δ t) : Den K G (tXf a (.ref C) dd C fn (tVar i)) δ τ t R := fun σ vs H Q R0 k => by
  obtain ⟨u, hu, hr⟩ := rd_at R0 e (by intro z; cases z)
  have hr : u = .ref a := hr
  subst hr
  obtain ⟨b, us, rfl, h1, h2, h3⟩ := hE
  obtain ⟨v, hv, qv⟩ := h3.at_ g
  exact ⟨_, hu, rfl, rfl, b, us, v, rfl, R0.old b _ (fun z => h2 (R0.dw.dr z).1) h1, hv, k _ _ _ _ _ q (R0.dat (qv.mono R0.oldS _))⟩
end
/-! isinstance of the error that a suite holds -/
def ErrV (H : Hp) (d : Option Addr) : Prop := d = none ∨ ∃ dd fs, d = some dd ∧ H dd = some (.xd fs)
def rIsE2 (K : PySem.W.Frag) (Cs : List Addr) (a : Addr) (cls : Value) (d : Option Addr) : List V → Hp → VK → Prop := fun xs H Q => ∃ (C : Addr) (c : V) (cv : Value) (b : Bool), C ∈ Cs ∧ xs = [.ref a, c] ∧ (∀ u, RelV c u → u = cv) ∧ cls = .ref C ∧ ErrV H d ∧ PySem.W.kitOne K (.ref C) cv = some b ∧ Q (.bl b) H
def rIsET (K : PySem.W.Frag) (Cs : List Addr) (a : Addr) (cls : Value) (d : Option Addr) : List V → Hp → VK → Prop := fun xs H Q => ∃ (C tp : Addr) (cs : List V) (us : List Value) (b : Bool), C ∈ Cs ∧ xs = [.ref a, .ref tp] ∧ H tp = some (.tup cs) ∧ Paired ClsV cs us ∧ cls = .ref C ∧ ErrV H d ∧ PySem.W.kitAny K (.ref C) us = some b ∧ Q (.bl b) H
section
variable {X : Cx} {a : Addr} {d : Option Addr} {oe : Obj} {cls : Value} {pn : List (Addr × Obj)} {Cs : List Addr}
theorem errInst {pins : List (Addr × Obj)} {σ : L2.St} {H : Hp} {s : Shared} {C : Addr} (I : Inv (X.suite a ((a, oe) :: pn)) pins σ H s) (hz : Zc (.ref C) d oe) (hf : ∃ vs, oe.data = .fields vs) (hE : ErrV H d) : ∃ od, PySem.W.InstAt s.heap a oe C od := by
  obtain ⟨hget, _⟩ := I.pin (a, oe) (List.mem_append.mpr (.inl List.mem_cons_self))
  obtain ⟨vs, hv⟩ := hf
  rcases hE with rfl | ⟨dd, fs, rfl, hd⟩
  · exact ⟨none, hget, hz.1, by unfold PySem.W.notCls; rw [hv] <;> rfl, by rw [hz.2]; exact trivial⟩
  · obtain ⟨_, hns, _⟩ := (show ObjOk X.prog X.w H s.heap dd (.xd fs) from I.hok dd _ hd)
    obtain ⟨od, ho, _⟩ := lookIn_ns hns
    exact ⟨some od, hget, hz.1, by unfold PySem.W.notCls; rw [hv] <;> rfl, by rw [hz.2]; exact ho⟩
theorem ExcC.one {K : PySem.W.Frag} {C : Addr} (Z : ExcC K C) : (PySem.W.clsIn K C).isSome = true := by
  obtain ⟨cd, hc, _⟩ := PySem.W.any_some Z.hd
  rw [hc]
  rfl
theorem call_isE2 (Z : ∀ C, C ∈ Cs → ExcC X.K C) (hz : Zc cls d oe) (hf : ∃ vs, oe.data = .fields vs) : CallR (X.suite a ((a, oe) :: pn)) (.builtin "isinstance") (rIsE2 X.K Cs a cls d) := by
  intro pins s σ H xs us Q I r h
  obtain ⟨C, c, cv, b, hC, rfl, hcv, ec, hE, e, q⟩ := h
  subst ec
  obtain ⟨u1, u2, rfl, r1, r2⟩ := vals2 r
  cases (show u1 = Value.ref a from r1)
  have ec := hcv _ r2
  subst ec
  obtain ⟨od, J⟩ := errInst I hz hf hE
  have Z := Z C hC
  exact PySem.W.kia_one (PySem.W.kitx_exc (ExcC.one Z) Z.hg Z.hk Z.hs Z.ha Z.hn Z.ht Z.hm) I.kIn J e (fun z => nomatch z) fun tk => ⟨.bl b, H, I.kept (t' := tk) fun _ _ z => z, rfl, q⟩
theorem call_isET (Z : ∀ C, C ∈ Cs → ExcC X.K C) (hz : Zc cls d oe) (hf : ∃ vs, oe.data = .fields vs) : CallR (X.suite a ((a, oe) :: pn)) (.builtin "isinstance") (rIsET X.K Cs a cls d) := by
  intro pins s σ H xs us Q I r h
  obtain ⟨C, tp, cs, ws, b, hC, rfl, hT, kc, ec, hE, e, q⟩ := h
  subst ec
  obtain ⟨u1, u2, rfl, r1, r2⟩ := vals2 r
  cases (show u1 = Value.ref a from r1)
  cases (show u2 = Value.ref tp from r2)
  obtain ⟨od, J⟩ := errInst I hz hf hE
  obtain ⟨_, its, rv, o, h1, h2, n, h3⟩ := (show ObjOk X.prog X.w H s.heap tp (.tup cs) from I.hok tp _ hT)
  have e3 := ClsV.all kc rv
  subst e3
  obtain ⟨oc, od2, dt, sl⟩ := o
  simp only at h2 h3
  subst h2 h3
  have Z := Z C hC
  exact PySem.W.kia_tup (PySem.W.kitx_exc (ExcC.one Z) Z.hg Z.hk Z.hs Z.ha Z.hn Z.ht Z.hm) I.kIn J h1 e (fun z => nomatch z) fun tk => ⟨.bl b, H, I.kept (t' := tk) fun _ _ z => z, rfl, q⟩
end
section
variable {K : PySem.W.Frag} {G : Pa} {δ τ : List Sl} {t : Nat} {R : RX} {a C : Addr} {dd : Option Addr} {o : Option Fds} {i : Nat} {Cs : List Addr} {σ : L2.St} {vs : List V} {H : Hp}
theorem ErrAt.v (R0 : Rl K G δ τ t σ vs H) (e : ErrAt K G G.H0 dd o) : ErrV H dd := by
  cases o with
  | none => exact .inl e
  | some fs =>
    obtain ⟨d, us, rfl, h1, h2, _⟩ := e
    exact .inr ⟨d, us, rfl, R0.old d _ (fun z => h2 (R0.dw.dr z).1) h1⟩
/-- what a class is, as a value -/
theorem dcb_isE2 {c : V} {cv : Value} {b : Bool} (hC : C ∈ Cs) (hE : ErrAt K G G.H0 dd o) (kc : ClsV c cv) (hb : PySem.W.kitOne K (.ref C) cv = some b) (q : R (.dat (.bool b)) δ t) : Dcb K G (rIsE2 K Cs a (.ref C) dd) [.raw (.ref a), .raw c] δ τ t R := fun σ vs H us Q l R0 k => by
  obtain ⟨u, v, rfl⟩ := two_args l
  have h1 : u = .ref a := R0.head
  have h2 : v = c := Rl.h2 (x := .raw c) (y := .raw (.ref a)) R0
  subst h1 h2
  exact ⟨C, v, cv, b, hC, rfl, fun w r => kc.eq r, rfl, hE.v R0, hb, k _ _ _ _ _ q (R0.pop.pop.sc (.bl b))⟩
theorem den_isET {ts : TA} {cs : List V} {us : List Value} {b : Bool} (hC : C ∈ Cs) (hE : ErrAt K G G.H0 dd o) (e : δ[i]? = some (.raw (.ref a))) (pure : ∀ σ H (Q : List V → Hp → Prop), Q cs H → ts σ H Q) (few : cs.length ≤ 1000) (kc : Paired ClsV cs us)
    (hb : PySem.W.kitAny K (.ref C) us = some b) (q : R (.dat (.bool b)) δ t) : Den K G (tCB (rIsET K Cs a (.ref C) dd) (tCons (tVar i) (tCons (tTup ts) tNil))) δ τ t R := fun σ vs H Q R0 k => by
  obtain ⟨u, hu, hr⟩ := rd_at R0 e (by intro z; cases z)
  have hr : u = .ref a := hr
  subst hr
  refine ⟨_, hu, pure σ H _ ⟨Nat.le_trans few (by rw [sizeLine_eq]; decide), fun p n => ?_⟩⟩
  have R1 := R0.grow (same_upd (o := .tup cs) n)
  exact ⟨C, p, cs, us, b, hC, rfl, upd_same, kc, rfl, hE.v R1, hb, k _ _ _ _ _ q (R1.sc (.bl b))⟩
end
end Dl

set_option Elab.async false
set_option linter.all false
set_option maxRecDepth 100000
set_option maxHeartbeats 4000000
/-! an instance against any value; str of an instance; isinstance of a class of the program, of any value -/
namespace Dl
open PySem PySem.Spec PyProof.Rows L2 Glay Lw HT
def plainTys : List String := ["NoneType", "bool", "int", "str", "list", "tuple", "dict"]
/-- what is asked of a class beside values of other types -/
structure AnyC (K : PySem.W.Frag) (C : Addr) : Prop where
  nf : ∀ n, n ∈ plainTys → PySem.W.notFirst K C (.type n) = true
  ko : ∀ n, n ∈ plainTys → PySem.W.kitOne K (.type n) (.ref C) = some false
  me : PySem.W.kitOne K (.ref C) (.ref C) = some true
/-- a datum that is an instance of C or none of a class of the program -/
def okC (C : Addr) : PyData → Prop
  | .dict ((.none, .int c) :: _) => c = (C : Int)
  | _ => True
def isC' (C : Addr) : PyData → Bool
  | .dict ((.none, .int c) :: _) => decide (c = (C : Int))
  | _ => false
theorem tyC {K : PySem.W.Frag} {H : Hp} {v : V} {C : Addr} {d : PyData} (h : Dq K H v d) (ok : okC C d) : (∃ n, n ∈ plainTys ∧ TyX K H v (.type n) ∧ isC' C d = false) ∨ (TyX K H v (.ref C) ∧ isC' C d = true) := by
  have go : ∀ n, tyD d = some n → n ≠ "dict" → isC' C d = false → n ∈ plainTys → (∃ n, n ∈ plainTys ∧ TyX K H v (.type n) ∧ isC' C d = false) ∨ (TyX K H v (.ref C) ∧ isC' C d = true) := fun n e ne i m => by
    rcases tyx h e with h3 | ⟨z, _⟩
    · exact .inl ⟨n, m, h3, i⟩
    · exact (ne z).elim
  cases d with
  | none => exact go _ rfl (by decide) rfl (by decide)
  | bool _ => exact go _ rfl (by decide) rfl (by decide)
  | int _ => exact go _ rfl (by decide) rfl (by decide)
  | str _ => exact go _ rfl (by decide) rfl (by decide)
  | list _ => exact go _ rfl (by decide) rfl (by decide)
  | tuple _ => exact go _ rfl (by decide) rfl (by decide)
  | dict kvs =>
    cases h with
    | dct h q =>
      have : isC' C (.dict kvs) = false := by
        cases q <;> rfl
      exact .inl ⟨"dict", by decide, .base (.dK h), this⟩
    | @obj a C' dx us ps O h q =>
      have e : (C' : Int) = (C : Int) := ok
      have e : C' = C := Int.ofNat.inj e
      subst e
      exact .inr ⟨.base (.ins h O.cl O.ha O.hn O.ht O.hm), decide_eq_true rfl⟩
section
variable {X : Cx} {k : Nat} {f C : Addr} {fd : FuncData} {ps : List Str} {sp : Sp} {qual : Str} {st : Stmt}
def rEqO (K : PySem.W.Frag) (C : Addr) (sp : Sp) : R2 := fun x y H Q => ∃ a dx fs tb, x = .ref a ∧ H a = some (.ins C dx fs) ∧ TyX K H y tb ∧ PySem.W.notFirst K C tb = true ∧ sp [.ref a, y] H Q E0
theorem eqA_insG (D : Mt X.K C "__eq__" qual st ps f fd) (F : GOk X.prog X.w X.K X.mg X.base k f fd ps sp) (hr : Room k X.A) (hq : X.A.guards = some []) : OpR X (compareOp .Eq) (rEqO X.K C sp) := by
  intro pins s σ H x y v u Q I rx ry h
  obtain ⟨a, dx, fs, tb, rfl, ea, ty, nf, q⟩ := h
  cases rx
  obtain ⟨ox, od, J⟩ := ins_inst I ea
  obtain ⟨m', hF⟩ := I.fr
  obtain ⟨P, Z, p, _⟩ := kit_of I ry ty
  show wpAny (model X.prog X.w) X.A (richCompare .Eq (.ref a) u) _ _ _
  refine PySem.W.cmp_K (op := .Eq) (tb := tb) hr.units0 hF I.ok.mod.kin J (Z.ty _ _ I.kIn p) nf D.me.at_ D.me.fn (wpAny_mono (run_fnG (us := [.ref a, u]) (vs := [.ref a, y]) F hr hq D.bs I (.cons rfl (.cons ry .nil)) q) (fun w' s' z => ?_) fun _ _ e => e)
  obtain ⟨z', H', I', rz, qz⟩ := z
  exact SlX.cmpback rz ⟨z', H', I', rz, qz⟩
theorem eqA_k {K : PySem.W.Frag} (e : X.K = K) (D : Mt X.K C "__eq__" qual st ps f fd) (F : GOk X.prog X.w X.K X.mg X.base k f fd ps sp) (hr : Room k X.A) (hq : X.A.guards = some []) : OpR X (compareOp .Eq) (rEqO K C sp) := by
  subst e
  exact eqA_insG D F hr hq
/-- str(o) -/
def rStrO (C : Addr) (sp : Sp) : List V → Hp → VK → Prop := fun xs H Q => ∃ a dx fs, xs = [.ref a] ∧ H a = some (.ins C dx fs) ∧ sp [.ref a] H (fun z H' => ∃ r, z = .str r ∧ Q (.str r) H') E0
theorem run_fnG2 {pins : List (Addr × Obj)} {σ : L2.St} {H : Hp} {s : Shared} {Q : VK} {E' : Value → Shared → Prop} {us : List Value} {vs : List V} (F : GOk X.prog X.w X.K X.mg X.base k f fd ps sp) (hr : Room (k + 2) X.A) (hq : X.A.guards = some []) (hb : Binds X.K fd ps [])
    (I : Inv X pins σ H s) (r : Vals vs us) (h : sp vs H Q E0) : wpAny (model X.prog X.w) X.A.in1.in1 (call (.ref f) us) (EP X pins σ Q) E' s := by
  have hl : us.length = ps.length := r.length.symm.trans (F.many h)
  have b := hb s us I.kIn (by rw [List.append_nil]; exact hl)
  rw [List.append_nil] at b
  refine wpAny_call (codeAny_mono (F.goes hr.in1.in1 hq I.env0.in1.in1 b r h) fun fin s' hf => ?_)
  match fin, hf with
  | .error _, hf => exact hf.elim
  | .ok (.ret u), hf => exact I.after hf
theorem strG (D : Mt X.K C "__str__" qual st ps f fd) (F : GOk X.prog X.w X.K X.mg X.base k f fd ps sp) (hr : Room (k + 2) X.A) (hq : X.A.guards = some []) : CallR X (.type "str") (rStrO C sp) := by
  intro pins s σ H xs us Q I r h
  obtain ⟨a, dx, fs, rfl, ea, q⟩ := h
  obtain ⟨u, rfl, ru⟩ := vals1 r
  cases (show u = Value.ref a from ru)
  obtain ⟨ox, od, J⟩ := ins_inst I ea
  refine PySem.W.kso_call (by have := hr.in1.in1.units0; exact this) I.kIn J D.me.at_ D.me.fn (wpAny_mono (run_fnG2 (us := [.ref a]) (vs := [.ref a]) F hr hq D.bs I (.cons rfl .nil) q) (fun w' s' z => ?_) fun _ _ e => e)
  obtain ⟨z', H', I', rz, y, rfl, qz⟩ := z
  obtain ⟨t, rfl⟩ := (show ∃ t, w' = Value.str y t from rz)
  exact ⟨.str y, H', I', ⟨t, rfl⟩, qz⟩
end
section
variable {K : PySem.W.Frag} {G : Pa} {δ τ : List Sl} {t : Nat} {R : RX} {C : Addr}
theorem dop_eqO {S : DSp} {x y : Sl} {ps : Fds} {d : PyData} (Z : AnyC K C) (hx : x.dv = some (obD C ps)) (hy : y.dv = some d) (ok : okC C d) (q : S [x.soft, y.soft] t fun z t' => R z δ t') : Dop K G (rEqO K C (spD K S)) x y δ τ t R := fun σ vs H u v Q R0 k => by
  obtain ⟨a, dx, us, rfl, ha, _, _⟩ := R0.h2.ob hx
  have go : ∀ tb, TyX K H v tb → PySem.W.notFirst K C tb = true → ∃ a' dx fs tb, (V.ref a : V) = .ref a' ∧ H a' = some (.ins C dx fs) ∧ TyX K H v tb ∧ PySem.W.notFirst K C tb = true ∧ spD K S [] [.ref a', v] H Q E0 := fun tb ty nf =>
    ⟨a, dx, us, tb, rfl, ha, ty, nf, Rl.callD (xs := [x, y]) (us := [.ref a, v]) (Rl.up1 (xs := [y]) (us := [v]) R0 rfl) rfl q k⟩
  rcases tyC (RV.full R0.head hy) ok with ⟨n, m, ty, _⟩ | ⟨ty, _⟩
  · exact go _ ty (Z.nf n m)
  · exact go _ ty (by simp [PySem.W.notFirst])
theorem dcb_strO {S : DSp} {x : Sl} {ps : Fds} (hx : x.dv = some (obD C ps)) (q : S [x.soft] t fun z t' => ∃ r, z = .dat (.str r) ∧ R (.dat (.str r)) δ t') : Dcb K G (rStrO C (spD K S)) [x] δ τ t R := fun σ vs H us Q l R0 k => by
  obtain ⟨u, rfl⟩ := one_arg (xs := []) l
  obtain ⟨a, dx, us', rfl, ha, _, _⟩ := R0.head.ob hx
  refine ⟨a, dx, us', rfl, ha, Rl.callD (R' := fun z δ' t' => ∃ r, z = .dat (.str r) ∧ R (.dat (.str r)) δ' t') (xs := [x]) (us := [.ref a]) R0 rfl q fun v H' z δ' t' hz R1 => ?_⟩
  obtain ⟨r, rfl, hR⟩ := hz
  have := RV.str R1.head
  subst this
  exact ⟨r, rfl, k _ _ _ _ _ hR (R1.pop.sc (.str _))⟩
/-- isinstance(x, C) of any datum -/
theorem dcb_isC {x : Sl} {d : PyData} (Z : AnyC K C) (hx : x.dv = some d) (ok : okC C d) (q : R (.dat (.bool (isC' C d))) δ t) : Dcb K G (rIsi K) [x, .raw (.ref C)] δ τ t R := fun σ vs H us Q l R0 k => by
  obtain ⟨u, v, rfl⟩ := two_args l
  have h2 : v = .ref C := Rl.h2 (x := .raw (.ref C)) (y := x) R0
  subst h2
  rcases tyC (RV.full R0.head hx) ok with ⟨n, m, ty, e⟩ | ⟨ty, e⟩
  · rw [e] at q
    exact ⟨u, .ref C, _, _, false, rfl, .own C, ty, Z.ko n m, k _ _ _ _ _ q (R0.pop.pop.sc (.bl _))⟩
  · rw [e] at q
    exact ⟨u, .ref C, _, _, true, rfl, .own C, ty, Z.me, k _ _ _ _ _ q (R0.pop.pop.sc (.bl _))⟩
end
theorem ex_ob2 {x y : Sl} {C : Addr} {ps qs : Fds} {Q : Prop} (h0 : x.dv = some (obD C ps)) (h1 : y.dv = some (obD C qs)) (q : Q) : ∃ ps qs : Fds, x.dv = some (obD C ps) ∧ y.dv = some (obD C qs) ∧ Q := ⟨ps, qs, h0, h1, q⟩
/-- a try, its body by what it wishes -/
def tTry (K : PySem.W.Frag) (i : Nat) (l : List (Value × TSX)) (tb : WX → TS) : TS := fun D σ H => tb (wAsL K i (fun _ _ _ _ => False) D l) D σ H
theorem ps_try2 {X : Cx} {K : PySem.W.Frag} {n : Str} {i : Nat} {body : List Stmt} {h1 : ExceptHandler} {hds : List ExceptHandler} {l : List (Value × TSX)} {pos : Pos} {tb : WX → TS} (e : X.K = K) (st : X.stack = X.env :: X.outer) (fr : X.env.frame = some X.env.locals)
    (hN : X.N.Nodup) (hi : X.N[i]? = some n) (hln : X.env.kindOf n = some .local)
    (hb : ∀ (W : WX) (pn : List (Addr × Obj)) (xe : Value → Shared → Prop), Takes (X.tr pn xe) W → PassesOwn (model X.prog X.w) X.A X.env xe → PSs (X.tr pn xe) body (tb W)) (hh : HdsAs X n (h1 :: hds) l) : PS X (.Try body (h1 :: hds) [] [] pos) (tTry K i l tb) := by
  subst e
  exact ps_try_asL st fr hN hi hln takes0 hb hh
theorem ds_try2 {K : PySem.W.Frag} {G : Pa} {δ : List Sl} {t : Nat} {D : DEnds} {i : Nat} {l : List (Value × TSX)} (N : ENd) {tb : WX → TS} (suite : ∀ C o δ1 t1, N C o δ1 t1 → ∃ u : TSX, Picks K (.ref C) u l ∧ (∀ p, cnt p δ1 = 0) ∧
      ∀ (a : Addr) (dd : Option Addr) (G' : Pa), ErrAt K G' G'.H0 dd o → DS K G' (u a (.ref C) dd) (δ1.set i (.raw (.ref a))) [] t1 ⟨fun δ2 t2 => D.nx (δ2.set i .any) t2, D.rt, fun δ2 t2 => D.bk (δ2.set i .any) t2, fun δ2 t2 => D.ct (δ2.set i .any) t2⟩)
    (body : ∀ W, WT K G W N → DS K G (tb W) δ [] t D) : DS K G (tTry K i l tb) δ [] t D := ds_try suite body
end Dl

set_option Elab.async false
set_option linter.all false
set_option maxRecDepth 100000
set_option maxHeartbeats 4000000
/-! texts joined: sep.join(a list of texts) -/
namespace Dl
open PySem PySem.Spec PyProof.Rows L2 Glay Lw HT
theorem strs_of {K : PySem.W.Frag} {H : Hp} : ∀ {vs : List V} {ns : List Str}, DqAll K H vs (ns.map PyData.str) → vs = ns.map V.str
  | [], [], _ => rfl
  | v :: vs, n :: ns, h => by
    cases h with
    | cons h t =>
      rw [strs_of t]
      cases h
      rfl
def rJoin (K : PySem.W.Frag) : V → List V → Hp → VK → Prop := fun x xs H Q => ∃ a p, ∃ ys : List Str, x = .str a ∧ xs = [.ref p] ∧ (SqL K H p (ys.map V.str) ∨ SqT K H p (ys.map V.str)) ∧ (ys.map (·.length)).sum + ys.length * a.length ≤ 16777216 ∧ Q (.str (Txt.join a ys)) H
theorem join_k {X : Cx} {K : PySem.W.Frag} {o e : Expr} {to te : TE} {apos pos : Pos} (eK : X.K = K) (ho : PE X o to) (he : PE X e te) (hs : starEach [e] X.env = [(false, eval e X.env)] := by rfl) (hbase : attributeBase o "join" X.env (eval o X.env) = eval o X.env := by rfl) (hline : (apos.endLine == pos.line) = true := by rfl) :
    PE X (.Call (.Attribute o "join" apos) [e] [] pos) (tM1 (rJoin K) to te) := by
  subst eK
  exact pe_join ho he hs hbase hline
theorem revL_k {X : Cx} {K : PySem.W.Frag} {e : Expr} {te : TE} {k : Nat} {p1 p2 p3 pos : Pos} (eK : X.K = K) (he : PE X e te) : PE X (.Subscript e (.Slice none none (some (.UnaryOp .USub (.Constant (.int 1) k p1) p2)) p3) pos) (tRevL K te) := by
  subst eK
  exact pe_revL he
section
variable {K : PySem.W.Frag} {G : Pa} {δ τ : List Sl} {t : Nat} {R : RX} {to te : TE}
theorem den_join (q : Den K G to δ τ t fun x δ1 t1 => ∃ a, x = .dat (.str a) ∧ Den K G te δ1 (x :: τ) t1 fun y δ2 t2 => ∃ ys : List Str, y.dv = some (.list (ys.map PyData.str)) ∧ (ys.map (·.length)).sum + ys.length * a.length ≤ 16777216 ∧ R (.dat (.str (Txt.join a ys))) δ2 t2) :
    Den K G (tM1 (rJoin K) to te) δ τ t R := fun σ vs H Q R0 k =>
  q σ vs H _ R0 fun v H1 x δ1 t1 ⟨a, e, q1⟩ R1 => by
    subst e
    have hv := R1.head
    cases hv
    refine ⟨⟨a, rfl⟩, q1 σ _ H1 _ R1 fun u H2 y δ2 t2 ⟨ys, hy, sz, r⟩ R2 => ?_⟩
    obtain ⟨p, us, rfl, hp, hq⟩ := R2.head.items hy
    rw [strs_of hq] at hp
    exact ⟨a, p, ys, rfl, rfl, .inl (SqL.of hp), sz, k _ _ _ _ _ r (R2.pop.pop.sc (.str _))⟩
theorem den_revL (q : Den K G te δ τ t fun x δ1 t1 => ∃ ds, x.dv = some (.list ds) ∧ ∀ p, R (.own p ds.reverse) δ1 t1) : Den K G (tRevL K te) δ τ t R := fun σ vs H Q R0 k =>
  q σ vs H _ R0 fun u H1 x δ1 t1 ⟨ds, e, q1⟩ R1 => by
    obtain ⟨p, us, rfl, hp, hq⟩ := R1.head.items e
    exact ⟨p, us, rfl, SqL.of hp, fun a n => k _ _ _ _ _ (q1 a) (R1.pop.lst n (hq.reverse.mono weak _))⟩
end
end Dl

set_option Elab.async false
set_option linter.all false
set_option maxRecDepth 100000
set_option maxHeartbeats 4000000
set_option pp.deepTerms false
set_option pp.deepTerms.threshold 12
namespace Lw
open PySem PySem.Spec PyProof.Rows L2 Glay Dl
/-- what is asked of the numbers by the way -/
local macro_rules | `(tactic| walk_at "side") => `(tactic| first
  | rfl
  | decide
  | assumption
  | omega
  | (unfold CMul; omega)
  | (unfold CPowW; exact ⟨by decide, by decide +kernel⟩)
  | exact wide_mul (a := 1400) (b := 1400) (by decide +kernel) (by decide +kernel) (by decide) (by decide) (by decide)
  | exact wide_div (b := 64) (by decide) (by decide) (by decide) (by decide)
  | (unfold CMul; exact Or.inr ⟨by decide, by decide⟩)
  | (unfold CMul; exact Or.inl ⟨by decide, by decide⟩)
  | (unfold CPow; omega)
  | (unfold CPow; refine ⟨by omega, by omega, ?_⟩; omega))
local macro_rules | `(tactic| walk_at "one") => `(tactic| with_reducible first
  | (refine' rd_var ?rdh ?_; (case rdh => with_unfolding_all exact rfl))
  | refine rd_c ?_
  | refine rd_op ?_
  | refine rd_un ?_
  | refine rd_I0 ?_
  | refine rd_I (by walk_at "side") ?_
  | refine rd_U ?_
  | refine rd_seq ?_
  | refine rd_next ?_
  | refine rd_asg ?_
  | refine rd_name ?_
  | refine rd_par ?_
  | refine rd_par2 ?_
  | refine rd_ret ?_
  | refine rd_ifs ?_
  | refine rd_if ?_
  | refine rd_test ?_
  | refine rd_B ?_
  | refine rd_not ?_
  | refine rd_and ?_
  | refine rd_or ?_
  | refine rd_andV ?_
  | refine rd_orV ?_
  | refine rd_notV ?_
  | refine rd_chain ?_
  | refine rd_k ?_
  | refine rd_eq (by with_unfolding_all rfl) ?_
  | refine rd_ne (by with_unfolding_all rfl) ?_
  | refine rd_call ?_
  | refine rd_cb ?_
  | refine rd_nil ?_
  | refine rd_cons ?_
  | refine rd_lst ?_
  | refine rd_gcons ?_
  | refine rd_gnil ?_
  | refine rd_sub ?_
  | (refine' rd_ixL (SqL.of (by assumption)) ?rde ?_; (case rde => with_unfolding_all exact rfl))
  | refine rd_intI ?_
  | refine rd_intB ?_
  | refine rd_abs ?_
  | refine rd_sl ?_
  | refine rd_nopart ?_
  | refine rd_part ?_
  | refine rd_pi ?_
  | refine rd_nt ?_
  | refine rd_nf ?_
  | refine rd_t ?_
  | refine rd_f ?_
  | refine rd_for ?_
  | refine rd_max2 ?_
  | refine rd_izip ?_
  | refine rd_min2 ?_
  | (refine' rd_in (SqT.of (by assumption)) ?rdf ?rda ?_; (case rdf => with_unfolding_all rfl); (case rda => with_unfolding_all rfl))
  | refine rd_lc ?_
  | refine rd_itup ?_
  | refine rd_tyes ?_
  | (refine' rd_ixT (SqT.of (by assumption)) ?rde ?_; (case rde => first | exact at_head | with_unfolding_all exact rfl))
  | refine rd_ilist ?_
  | refine rd_irng ?_
  | refine rd_tup ?_)
local macro_rules | `(tactic| walk_at "rd") => `(tactic| repeat walk_at "one")
/-- one of two ways, by a written text -/
local macro_rules | `(tactic| walk_at "br") => `(tactic| first
  | refine rd_yes (by decide +kernel) ?_
  | refine rd_no (by decide +kernel) ?_
  | refine rd_yesN (by decide +kernel) ?_
  | refine rd_noN (by decide +kernel) ?_
  | refine rd_brT (by decide +kernel) ?_
  | refine rd_brF (by decide +kernel) ?_)
local macro_rules | `(tactic| walk_at "go") => `(tactic| repeat (first | walk_at "one" | walk_at "br"))
/-- the walk of readings told by data -/
local macro_rules | `(tactic| walk_at "side") => `(tactic| first | assumption | exact cshl1 (by omega) (by omega))
local macro_rules | `(tactic| walk_at "d1") => `(tactic| first
  | ((with_reducible refine' se_dat ?rd0 ?_); (case rd0 => exact rfl))
  | ((with_reducible refine' se_ixO ?rd0 ?_); (case rd0 => exact rfl))
  | ((with_reducible refine' se_lenO ?rd0 ?_); (case rd0 => exact rfl))
  | ((with_reducible refine' se_listO ?rd0 ?_); (case rd0 => exact rfl))
  | (with_reducible refine den_int ?_)
  | (with_reducible refine ds_seq ?_)
  | (with_reducible refine ds_asg ?_)
  | (with_reducible refine den_op ?_)
  | ((with_reducible refine' dop_I0 ?rd0 ?_); (case rd0 => first | exact .int _ | exact .bl _ | exact .str _))
  | ((with_reducible refine' dop_I ?rd0 ?rd1 ?_); (case rd0 => first | exact .int _ | exact .bl _ | exact .str _); (case rd1 => walk_at "side"))
  | (with_reducible refine dena_nil ?_)
  | (with_reducible refine dena_cons ?_)
  | (with_reducible refine den_call ?_)
  | (with_reducible refine den_callD ?_)
  | (with_reducible refine den_callN ?_)
  | (with_reducible refine den_sset ?_)
  | (with_reducible refine den_cb ?_)
  | ((with_reducible refine' sg_dat ?rd0 ?rd1 ?_); (case rd0 => first | exact True.intro | decide); (case rd1 => (dsimp only [List.set, wipeD, List.map, List.map_cons, List.map_nil]; try exact rfl)))
  | ((with_reducible refine' sg_soft ?rd0 ?rd1 ?_); (case rd0 => first | exact True.intro | decide); (case rd1 => (dsimp only [List.set, wipeD, List.map, List.map_cons, List.map_nil]; try exact rfl)))
  | ((with_reducible refine' sg_own ?rd0 ?rd1 ?_); (case rd0 => first | exact True.intro | decide); (case rd1 => (dsimp only [List.set, wipeD, List.map, List.map_cons, List.map_nil]; try exact rfl)))
  | ((with_reducible refine' sg_ownD ?rd0 ?rd1 ?_); (case rd0 => first | exact True.intro | decide); (case rd1 => (dsimp only [List.set, wipeD, List.map, List.map_cons, List.map_nil]; try exact rfl)))
  | ((with_reducible refine' sg_drw ?rd0 ?rd1 ?_); (case rd0 => first | exact True.intro | decide); (case rd1 => (dsimp only [List.set, wipeD, List.map, List.map_cons, List.map_nil]; try exact rfl)))
  | (with_reducible refine dent_test ?_)
  | (with_reducible refine ex_b ?_)
  | (with_reducible refine ex_i ?_)
  | (with_reducible refine ex_xy ?_)
  | (with_reducible refine ex_z ?_)
  | ((with_reducible refine' se_drw ?rd0 ?_); (case rd0 => exact rfl))
  | ((with_reducible refine' se_raw ?rd0 ?_); (case rd0 => exact rfl))
  | ((with_reducible refine' se_own ?rd0 ?rd1 ?_); (case rd0 => exact rfl); (case rd1 => (dsimp only [List.set, wipeD, List.map, List.map_cons, List.map_nil]; try exact rfl)))
  | ((with_reducible refine' se_datO ?rd0 ?_); (case rd0 => exact rfl))
  | (with_reducible refine den_bl ?_)
  | (with_reducible refine den_str ?_)
  | (with_reducible refine den_non ?_)
  | (with_reducible refine den_ty ?_)
  | (with_reducible refine den_ref ?_)
  | (with_reducible refine den_un ?_)
  | ((with_reducible refine' dun_U ?rd0 ?_); (case rd0 => first | exact .int _ | exact .bl _ | exact .str _))
  | ((with_reducible refine' dop_eq ?rd0 ?_); (case rd0 => with_unfolding_all exact rfl))
  | ((with_reducible refine' dop_ne ?rd0 ?_); (case rd0 => with_unfolding_all exact rfl))
  | ((with_reducible refine' dop_isN ?rd0 ?_); (case rd0 => with_unfolding_all exact rfl))
  | ((with_reducible refine' dop_notN ?rd0 ?_); (case rd0 => with_unfolding_all exact rfl))
  | (with_reducible refine den_not ?_)
  | (with_reducible refine den_and ?_)
  | (with_reducible refine den_or ?_)
  | (with_reducible refine den_if ?_)
  | (with_reducible refine den_chain ?_)
  | (with_reducible refine den_tup ?_)
  | (with_reducible refine den_lst ?_)
  | (with_reducible refine den_sl ?_)
  | (with_reducible refine deno_none ?_)
  | (with_reducible refine deno_some ?_)
  | (with_reducible refine den_lrg1 ?_)
  | (with_reducible refine den_lrg2 ?_)
  | ((with_reducible refine' dcb_len ?rd0 ?_); (case rd0 => with_unfolding_all exact rfl))
  | (with_reducible refine dcb_lenT ?_)
  | (with_reducible refine dsl_A ?_)
  | (with_reducible refine den_dnew ?_)
  | (with_reducible refine den_disp1 ?_)
  | (with_reducible refine den_bits ?_)
  | (with_reducible refine dena_star ?_)
  | (with_reducible refine den_revT ?_)
  | ((with_reducible refine' dcb_list ?rd0 ?_); (case rd0 => with_unfolding_all exact rfl))
  | (with_reducible refine dcb_listT ?_)
  | ((with_reducible refine' dcb_tup ?rd0 ?_); (case rd0 => with_unfolding_all exact rfl))
  | (with_reducible refine dcb_int ?_)
  | (with_reducible refine dcb_intB ?_)
  | (with_reducible refine dcb_abs ?_)
  | (with_reducible refine dcb_max2 ?_)
  | (with_reducible refine dcb_min2 ?_)
  | ((with_reducible refine' dcb_isi ?rd0 ?rd1 ?rd2 ?rd3 ?_); (case rd0 => with_unfolding_all exact rfl); (case rd1 => with_unfolding_all exact rfl); (case rd2 => first | exact kb_tuple_tuple | exact kb_tuple_list | exact kb_tuple_int | exact kb_tuple_bool | exact kb_tuple_str | exact kb_tuple_dict | exact kb_list_tuple | exact kb_list_list | exact kb_list_int | exact kb_list_bool | exact kb_list_str | exact kb_list_dict | exact kb_int_tuple | exact kb_int_list | exact kb_int_int | exact kb_int_bool | exact kb_int_str | exact kb_int_dict | exact kb_bool_tuple | exact kb_bool_list | exact kb_bool_int | exact kb_bool_bool | exact kb_bool_str | exact kb_bool_dict | exact kb_str_tuple | exact kb_str_list | exact kb_str_int | exact kb_str_bool | exact kb_str_str | exact kb_str_dict | exact kb_NoneType_tuple | exact kb_NoneType_list | exact kb_NoneType_int | exact kb_NoneType_bool | exact kb_NoneType_str | exact kb_NoneType_dict | exact kb_dict_tuple | exact kb_dict_list | exact kb_dict_int | exact kb_dict_bool | exact kb_dict_str | exact kb_dict_dict); (case rd3 => first | exact .inl (by decide) | exact .inr (by decide)))
  | ((with_reducible refine' dcb_isO ?rd0 ?rd1 ?_); (case rd0 => with_unfolding_all exact rfl); (case rd1 => assumption))
  | (with_reducible refine dent_B ?_)
  | (with_reducible refine dent_not ?_)
  | (with_reducible refine dent_and ?_)
  | (with_reducible refine dent_or ?_)
  | (with_reducible refine dent_yes ?_)
  | (with_reducible refine dgs_nil ?_)
  | ((with_reducible refine' dgs_cons ?rd0 ?_); (case rd0 => exact fun _ => rfl))
  | ((with_reducible refine' dg_tup ?rd0 ?_); (case rd0 => with_unfolding_all exact rfl); simp only [List.map_cons, List.map_nil])
  | ((with_reducible refine' dg_unl ?rd0 ?rd1 ?_); (case rd0 => with_unfolding_all exact rfl); (case rd1 => with_unfolding_all exact rfl); simp only [List.map_cons, List.map_nil])
  | ((with_reducible refine' sg_sub ?rd0 ?rd1 ?_); (case rd0 => exact rfl); (case rd1 => exact rfl))
  | (with_reducible refine ds_next ?_)
  | (with_reducible refine ds_break ?_)
  | (with_reducible refine ds_cont ?_)
  | (with_reducible refine ds_ret ?_)
  | (with_reducible refine ds_retN ?_)
  | ((with_reducible refine' ss_app ?rd0 ?_); (case rd0 => exact rfl))
  | ((with_reducible refine' ss_ext ?rd0 ?_); (case rd0 => exact rfl))
  | (with_reducible refine ds_drop ?_)
  | (with_reducible refine ds_if ?_)
  | (with_reducible refine ds_par ?_)
  | (with_reducible refine ds_parO ?_)
  | (with_reducible refine ds_parP ?_)
  | (with_reducible refine ds_par3 ?_)
  | (with_reducible refine ex_xyz ?_)
  | ((with_reducible refine' ss_augA ?rd0 ?_); (case rd0 => exact rfl))
  | (with_reducible refine di_list ?_)
  | (with_reducible refine di_tup ?_)
  | (with_reducible refine di_rng1 ?_)
  | (with_reducible refine di_rng2 ?_)
  | (with_reducible refine di_zip ?_)
  | (with_reducible refine di_zipM ?_)
  | (with_reducible refine di_rev1 ?_)
  | (with_reducible refine di_rev2 ?_)
  | (with_reducible refine ex_T ?_)
  | ((with_reducible refine' ex_ds ?rd0 ?rd1 ?_); (case rd0 => with_unfolding_all exact rfl); (case rd1 => with_unfolding_all exact Nat.le_of_ble_eq_true rfl))
  | ((with_reducible refine' ex_dv ?rd0 ?_); (case rd0 => with_unfolding_all exact rfl))
  | ((with_reducible refine' ex_L ?rd0 ?_); (case rd0 => with_unfolding_all exact rfl))
  | (with_reducible refine rd_t ?_)
  | (with_reducible refine rd_f ?_)
  | (with_reducible refine rd_nt ?_)
  | (with_reducible refine rd_nf ?_)
  | ((with_reducible refine' se_rg ?rd0 ?_); (case rd0 => exact rfl))
  | ((with_reducible refine' sg_rg ?rd0 ?rd1 ?_); (case rd0 => first | exact True.intro | decide); (case rd1 => (dsimp only [List.set, wipeD, List.map, List.map_cons, List.map_nil]; try exact rfl)))
  | (with_reducible refine dcb_rgv ?_)
  | (with_reducible refine ex_rg ?_)
  | (with_reducible refine di_rgv ?_)
  | (with_reducible refine dop_isB ?_)
  | (with_reducible refine dop_notB ?_)
  | (with_reducible refine den_fld ?_)
  | ((with_reducible refine' ex_fld ?rd0 ?rd1 ?rd2 ?_); (case rd0 => with_unfolding_all exact rfl); (case rd1 => exact ⟨by assumption, by assumption⟩); (case rd2 => first | (with_reducible exact Fg.here) | (with_reducible exact (Fg.there (by decide +kernel) Fg.here)) | (with_reducible exact (Fg.there (by decide +kernel) (Fg.there (by decide +kernel) Fg.here))) | (with_reducible exact (Fg.there (by decide +kernel) (Fg.there (by decide +kernel) (Fg.there (by decide +kernel) Fg.here)))) | (with_reducible exact (Fg.there (by decide +kernel) (Fg.there (by decide +kernel) (Fg.there (by decide +kernel) (Fg.there (by decide +kernel) Fg.here))))) | (with_reducible exact (Fg.there (by decide +kernel) (Fg.there (by decide +kernel) (Fg.there (by decide +kernel) (Fg.there (by decide +kernel) (Fg.there (by decide +kernel) Fg.here)))))) | (with_reducible exact (Fg.there (by decide +kernel) (Fg.there (by decide +kernel) (Fg.there (by decide +kernel) (Fg.there (by decide +kernel) (Fg.there (by decide +kernel) (Fg.there (by decide +kernel) Fg.here))))))) | (with_reducible exact (Fg.there (by decide +kernel) (Fg.there (by decide +kernel) (Fg.there (by decide +kernel) (Fg.there (by decide +kernel) (Fg.there (by decide +kernel) (Fg.there (by decide +kernel) (Fg.there (by decide +kernel) Fg.here))))))))))
  | (with_reducible refine den_meth ?_)
  | ((with_reducible refine' ex_om ?rd0 ?rd1 ?_); (case rd0 => with_unfolding_all exact rfl); (case rd1 => repeat (first | exact Fn.nil | (refine' Fn.cons ?rne ?_; (case rne => decide +kernel)))))
  | (with_reducible refine den_prop ?_)
  | ((with_reducible refine' ex_op ?rd0 ?_); (case rd0 => with_unfolding_all exact rfl))
  | (with_reducible refine den_inst ?_)
  | ((with_reducible refine' den_make ?rd0 ?_); (case rd0 => assumption))
  | ((with_reducible refine' dop_ins ?rd0 ?rd1 ?_); (case rd0 => with_unfolding_all exact rfl); (case rd1 => with_unfolding_all exact rfl))
  | ((with_reducible refine' dop_insN ?rd0 ?rd1 ?_); (case rd0 => with_unfolding_all exact rfl); (case rd1 => with_unfolding_all exact rfl))
  | ((with_reducible refine' dop_insI ?rd0 ?_); (case rd0 => with_unfolding_all exact rfl))
  | ((with_reducible refine' dop_insNI ?rd0 ?_); (case rd0 => with_unfolding_all exact rfl))
  | ((with_reducible refine' dun_ins ?rd0 ?_); (case rd0 => with_unfolding_all exact rfl))
  | (with_reducible refine dop_leB ?_)
  | (with_reducible refine di_ks ?_)
  | (with_reducible refine den_join ?_)
  | (with_reducible refine den_revL ?_)
  | (with_reducible refine den_jd ?_)
  | (with_reducible refine denj_nil ?_)
  | (with_reducible refine denj_cons ?_)
  | (with_reducible refine den_fmt ?_)
  | (with_reducible refine den_maxd ?_)
  | (with_reducible refine di_enTS ?_)
  | (with_reducible refine di_enT ?_)
  | (with_reducible refine ex_T1 ?_)
  | (with_reducible refine den_skT ?_)
  | (with_reducible refine di_enL ?_)
  | ((with_reducible refine' den_callX2 ?rd0 ?_); (case rd0 => first | assumption | exact outE2.wt (by assumption) | exact WT.never))
  | ((with_reducible refine' den_methX ?rd0 ?_); (case rd0 => first | assumption | exact outE2.wt (by assumption) | exact WT.never))
  | ((with_reducible refine' den_opX ?rd0 ?_); (case rd0 => first | assumption | exact outE2.wt (by assumption) | exact WT.never))
  | ((with_reducible refine' den_instX ?rd0 ?_); (case rd0 => first | assumption | exact outE2.wt (by assumption) | exact WT.never))
  | ((with_reducible refine' den_makeX ?rd0 ?rd1 ?_); (case rd0 => first | assumption | exact outE2.wt (by assumption) | exact WT.never); (case rd1 => assumption))
  | ((with_reducible refine' ex_ob2 ?rd0 ?rd1 ?_); (case rd0 => with_unfolding_all exact rfl); (case rd1 => with_unfolding_all exact rfl))
  | ((with_reducible refine' dcb_strO ?rd0 ?_); (case rd0 => with_unfolding_all exact rfl)))
local macro_rules | `(tactic| walk_at "dw") => `(tactic| repeat walk_at "d1")
local macro_rules | `(tactic| walk_at "dgo") => `(tactic| repeat (first | walk_at "d1" | refine rd_yes rfl ?_ | refine rd_noN rfl ?_ | refine rd_brT (by rfl) ?_ | refine rd_brF (by rfl) ?_))
def topS (i : Nat) : Stmt := PySem.Challenge.pw_wordsalike_k66_masks_of_two.main.body.getD i (.Pass ⟨0, 0, 0, 0⟩)
abbrev s__wall : Stmt := topS 0
abbrev n__wall : List Str := ["k"]
theorem sc__wall : FnScope n__wall ["k"] (defScope s__wall) :=
  ⟨rfl, rfl, rfl, by decide +kernel, rfl, by decide +kernel, by decide +kernel⟩
abbrev s_is_integer : Stmt := topS 12
abbrev n_is_integer : List Str := ["value"]
theorem sc_is_integer : FnScope n_is_integer ["value"] (defScope s_is_integer) :=
  ⟨rfl, rfl, rfl, by decide +kernel, rfl, by decide +kernel, by decide +kernel⟩
abbrev s_is_integer_within : Stmt := topS 13
abbrev n_is_integer_within : List Str := ["value", "low", "high"]
theorem sc_is_integer_within : FnScope n_is_integer_within ["value", "low", "high"] (defScope s_is_integer_within) :=
  ⟨rfl, rfl, rfl, by decide +kernel, rfl, by decide +kernel, by decide +kernel⟩
abbrev s_is_width : Stmt := topS 14
abbrev n_is_width : List Str := ["value"]
theorem sc_is_width : FnScope n_is_width ["value"] (defScope s_is_width) :=
  ⟨rfl, rfl, rfl, by decide +kernel, rfl, by decide +kernel, by decide +kernel⟩
abbrev s_greatest_word : Stmt := topS 15
abbrev n_greatest_word : List Str := ["width"]
theorem sc_greatest_word : FnScope n_greatest_word ["width"] (defScope s_greatest_word) :=
  ⟨rfl, rfl, rfl, by decide +kernel, rfl, by decide +kernel, by decide +kernel⟩
abbrev s_is_word : Stmt := topS 16
abbrev n_is_word : List Str := ["value", "width"]
theorem sc_is_word : FnScope n_is_word ["value", "width"] (defScope s_is_word) :=
  ⟨rfl, rfl, rfl, by decide +kernel, rfl, by decide +kernel, by decide +kernel⟩
abbrev s_to_word : Stmt := topS 17
abbrev n_to_word : List Str := ["number", "width"]
theorem sc_to_word : FnScope n_to_word ["number", "width"] (defScope s_to_word) :=
  ⟨rfl, rfl, rfl, by decide +kernel, rfl, by decide +kernel, by decide +kernel⟩
abbrev s__mask_of : Stmt := topS 20
abbrev n__mask_of : List Str := ["width", "bits", "open_bits", "least"]
theorem sc__mask_of : FnScope n__mask_of ["width", "bits", "open_bits"] (defScope s__mask_of) :=
  ⟨rfl, rfl, rfl, by decide +kernel, rfl, by decide +kernel, by decide +kernel⟩
abbrev s__law_draws : Stmt := topS 22
abbrev n__law_draws : List Str := ["_law_script", "_law_cells", "_law_cell"]
theorem sc__law_draws : FnScope n__law_draws ["_law_script"] (defScope s__law_draws) :=
  ⟨rfl, rfl, rfl, by decide +kernel, rfl, by decide +kernel, by decide +kernel⟩
abbrev s__law_next : Stmt := topS 23
abbrev n__law_next : List Str := ["_law_drawn", "_law_many", "_law_cells", "_law_turn", "_law_rests", "_law_spot", "_law_digit", "_law_mixed", "_law_again"]
theorem sc__law_next : FnScope n__law_next ["_law_drawn", "_law_many"] (defScope s__law_next) :=
  ⟨rfl, rfl, rfl, by decide +kernel, rfl, by decide +kernel, by decide +kernel⟩
abbrev s__law_one : Stmt := topS 24
abbrev n__law_one : List Str := ["_law_drawn", "_law_items"]
theorem sc__law_one : FnScope n__law_one ["_law_drawn", "_law_items"] (defScope s__law_one) :=
  ⟨rfl, rfl, rfl, by decide +kernel, rfl, by decide +kernel, by decide +kernel⟩
abbrev s__law_width : Stmt := topS 25
abbrev n__law_width : List Str := ["_law_drawn"]
theorem sc__law_width : FnScope n__law_width ["_law_drawn"] (defScope s__law_width) :=
  ⟨rfl, rfl, rfl, by decide +kernel, rfl, by decide +kernel, by decide +kernel⟩
abbrev s__law_word : Stmt := topS 26
abbrev n__law_word : List Str := ["_law_drawn", "_law_width_here", "_law_top", "_law_free", "_law_some"]
theorem sc__law_word : FnScope n__law_word ["_law_drawn", "_law_width_here"] (defScope s__law_word) :=
  ⟨rfl, rfl, rfl, by decide +kernel, rfl, by decide +kernel, by decide +kernel⟩
abbrev s__law_ends : Stmt := topS 27
abbrev n__law_ends : List Str := ["_law_drawn", "_law_width_here", "_law_one_here", "_law_other", "_law_way"]
theorem sc__law_ends : FnScope n__law_ends ["_law_drawn", "_law_width_here"] (defScope s__law_ends) :=
  ⟨rfl, rfl, rfl, by decide +kernel, rfl, by decide +kernel, by decide +kernel⟩
abbrev s__law_members : Stmt := topS 28
abbrev n__law_members : List Str := ["_law_width_here", "_law_least", "_law_greatest", "_law_word_here"]
theorem sc__law_members : FnScope n__law_members ["_law_width_here", "_law_least", "_law_greatest"] (defScope s__law_members) :=
  ⟨rfl, rfl, rfl, by decide +kernel, rfl, by decide +kernel, by decide +kernel⟩
abbrev s__law_hull : Stmt := topS 29
abbrev n__law_hull : List Str := ["_law_width_here", "_law_words", "_law_low", "_law_high", "_law_word_here", "_law_signs", "_law_bit"]
theorem sc__law_hull : FnScope n__law_hull ["_law_width_here", "_law_words"] (defScope s__law_hull) :=
  ⟨rfl, rfl, rfl, by decide +kernel, rfl, by decide +kernel, by decide +kernel⟩
abbrev s__law_other_ends : Stmt := topS 30
abbrev n__law_other_ends : List Str := ["_law_drawn", "_law_width_here", "_law_ends_here", "_law_least", "_law_greatest", "_law_way", "_law_word_here"]
theorem sc__law_other_ends : FnScope n__law_other_ends ["_law_drawn", "_law_width_here", "_law_ends_here"] (defScope s__law_other_ends) :=
  ⟨rfl, rfl, rfl, by decide +kernel, rfl, by decide +kernel, by decide +kernel⟩
abbrev s__law_small_right : Stmt := topS 31
abbrev n__law_small_right : List Str := ["_law_drawn", "_law_width_here", "_law_ends_here", "_law_others", "_law_one_here", "_law_other", "_law_words", "_law_more", "_law_both", "_law_found", "_law_word_here"]
theorem sc__law_small_right : FnScope n__law_small_right ["_law_drawn"] (defScope s__law_small_right) :=
  ⟨rfl, rfl, rfl, by decide +kernel, rfl, by decide +kernel, by decide +kernel⟩
abbrev s__law_great_right : Stmt := topS 32
abbrev n__law_great_right : List Str := ["_law_drawn", "_law_width_here", "_law_ends_here", "_law_others", "_law_one_here", "_law_other", "_law_low", "_law_high", "_law_found", "_law_wide"]
theorem sc__law_great_right : FnScope n__law_great_right ["_law_drawn"] (defScope s__law_great_right) :=
  ⟨rfl, rfl, rfl, by decide +kernel, rfl, by decide +kernel, by decide +kernel⟩
abbrev s__law_refused : Stmt := topS 33
abbrev n__law_refused : List Str := ["_law_way", "_law_one_here", "_law_other", "error"]
theorem sc__law_refused : FnScope n__law_refused ["_law_way", "_law_one_here", "_law_other"] (defScope s__law_refused) :=
  ⟨rfl, rfl, rfl, by decide +kernel, rfl, by decide +kernel, by decide +kernel⟩
abbrev s_law : Stmt := topS 34
abbrev n_law : List Str := ["_law_script", "_law_drawn", "_law_turn", "_law_width_here", "_law_least", "_law_greatest", "_law_one_here", "_law_other", "_law_way"]
theorem sc_law : FnScope n_law ["_law_script"] (defScope s_law) :=
  ⟨rfl, rfl, rfl, by decide +kernel, rfl, by decide +kernel, by decide +kernel⟩
abbrev s_Mask_init : Stmt := (clsB (topS 19)).getD 0 (.Pass ⟨0, 0, 0, 0⟩)
abbrev n_Mask_init : List Str := ["self", "width", "least", "greatest", "word"]
theorem sc_Mask_init : FnScope n_Mask_init ["self", "width", "least", "greatest"] (defScope s_Mask_init) :=
  ⟨rfl, rfl, rfl, by decide +kernel, rfl, by decide +kernel, by decide +kernel⟩
abbrev s_Mask_width : Stmt := (clsB (topS 19)).getD 3 (.Pass ⟨0, 0, 0, 0⟩)
abbrev n_Mask_width : List Str := ["self"]
theorem sc_Mask_width : FnScope n_Mask_width ["self"] (defScope s_Mask_width) :=
  ⟨rfl, rfl, rfl, by decide +kernel, rfl, by decide +kernel, by decide +kernel⟩
abbrev s_Mask_least : Stmt := (clsB (topS 19)).getD 4 (.Pass ⟨0, 0, 0, 0⟩)
abbrev n_Mask_least : List Str := ["self"]
theorem sc_Mask_least : FnScope n_Mask_least ["self"] (defScope s_Mask_least) :=
  ⟨rfl, rfl, rfl, by decide +kernel, rfl, by decide +kernel, by decide +kernel⟩
abbrev s_Mask_greatest : Stmt := (clsB (topS 19)).getD 5 (.Pass ⟨0, 0, 0, 0⟩)
abbrev n_Mask_greatest : List Str := ["self"]
theorem sc_Mask_greatest : FnScope n_Mask_greatest ["self"] (defScope s_Mask_greatest) :=
  ⟨rfl, rfl, rfl, by decide +kernel, rfl, by decide +kernel, by decide +kernel⟩
abbrev s_Mask_open_bits : Stmt := (clsB (topS 19)).getD 7 (.Pass ⟨0, 0, 0, 0⟩)
abbrev n_Mask_open_bits : List Str := ["self"]
theorem sc_Mask_open_bits : FnScope n_Mask_open_bits ["self"] (defScope s_Mask_open_bits) :=
  ⟨rfl, rfl, rfl, by decide +kernel, rfl, by decide +kernel, by decide +kernel⟩
abbrev s_Mask_sign_at : Stmt := (clsB (topS 19)).getD 9 (.Pass ⟨0, 0, 0, 0⟩)
abbrev n_Mask_sign_at : List Str := ["self", "place"]
theorem sc_Mask_sign_at : FnScope n_Mask_sign_at ["self", "place"] (defScope s_Mask_sign_at) :=
  ⟨rfl, rfl, rfl, by decide +kernel, rfl, by decide +kernel, by decide +kernel⟩
abbrev s_Mask_require_width_of : Stmt := (clsB (topS 19)).getD 10 (.Pass ⟨0, 0, 0, 0⟩)
abbrev n_Mask_require_width_of : List Str := ["self", "other"]
theorem sc_Mask_require_width_of : FnScope n_Mask_require_width_of ["self", "other"] (defScope s_Mask_require_width_of) :=
  ⟨rfl, rfl, rfl, by decide +kernel, rfl, by decide +kernel, by decide +kernel⟩
abbrev s_Mask_str : Stmt := (clsB (topS 19)).getD 11 (.Pass ⟨0, 0, 0, 0⟩)
abbrev n_Mask_str : List Str := ["self", "place"]
theorem sc_Mask_str : FnScope n_Mask_str ["self"] (defScope s_Mask_str) :=
  ⟨rfl, rfl, rfl, by decide +kernel, rfl, by decide +kernel, by decide +kernel⟩
abbrev s_Mask_common_with : Stmt := (clsB (topS 19)).getD 29 (.Pass ⟨0, 0, 0, 0⟩)
abbrev n_Mask_common_with : List Str := ["self", "other", "least", "greatest"]
theorem sc_Mask_common_with : FnScope n_Mask_common_with ["self", "other"] (defScope s_Mask_common_with) :=
  ⟨rfl, rfl, rfl, by decide +kernel, rfl, by decide +kernel, by decide +kernel⟩
abbrev s_Mask_union_with : Stmt := (clsB (topS 19)).getD 30 (.Pass ⟨0, 0, 0, 0⟩)
abbrev n_Mask_union_with : List Str := ["self", "other"]
theorem sc_Mask_union_with : FnScope n_Mask_union_with ["self", "other"] (defScope s_Mask_union_with) :=
  ⟨rfl, rfl, rfl, by decide +kernel, rfl, by decide +kernel, by decide +kernel⟩
abbrev s_Mask_is_within : Stmt := (clsB (topS 19)).getD 31 (.Pass ⟨0, 0, 0, 0⟩)
abbrev n_Mask_is_within : List Str := ["self", "other"]
theorem sc_Mask_is_within : FnScope n_Mask_is_within ["self", "other"] (defScope s_Mask_is_within) :=
  ⟨rfl, rfl, rfl, by decide +kernel, rfl, by decide +kernel, by decide +kernel⟩
structure Top (mg : Str → Option Value) : Prop where
  z_LookupError : mg "LookupError" = none
  z_bool : mg "bool" = none
  z_enumerate : mg "enumerate" = none
  z_int : mg "int" = none
  z_isinstance : mg "isinstance" = none
  z_len : mg "len" = none
  z_list : mg "list" = none
  z_range : mg "range" = none
  z_repr : mg "repr" = none
  z_reversed : mg "reversed" = none
  z_str : mg "str" = none
  z_sum : mg "sum" = none
  g_WIDTH : ∃ t, mg "WIDTH" = some (.int 64 t)
/-! ### the drawn numbers -/
/-- the state of the draws: the list at d, the rests at r, so many draws -/
def Dr (H : Hp) (d r c : Addr) (t : Int) : Prop := ∃ (cells rests : List Int), d ≠ r ∧ c ≠ d ∧ c ≠ r ∧ H d = some (.lst [.ref c, .int t, .ref r]) ∧ H c = some (.lst (cells.map V.int)) ∧
  H r = some (.lst (rests.map V.int)) ∧ rests.length = cells.length ∧ 0 < cells.length ∧ cells.length ≤ 63 ∧ 0 ≤ t
/-- all but the two lists is as it was -/
def Fr (d r : Addr) (H H' : Hp) : Prop := ∀ b o, b ≠ d → b ≠ r → H b = some o → H' b = some o
theorem Fr.refl {d r : Addr} {H : Hp} : Fr d r H H := fun _ _ _ _ h => h
theorem Fr.trans {d r : Addr} {H H1 H2 : Hp} (a : Fr d r H H1) (b : Fr d r H1 H2) : Fr d r H H2 := fun x o n m h => b x o n m (a x o n m h)
theorem Fr.of {d r : Addr} {H H' : Hp} (a : Same H H') : Fr d r H H' := fun x o _ _ h => a x o h
theorem Dr.same {H H' : Hp} {d r c : Addr} {t : Int} (D : Dr H d r c t) (s : Same H H') : Dr H' d r c t := by
  obtain ⟨cells, rests, h1, h2, h3, h4, h5, h6, h⟩ := D
  exact ⟨cells, rests, h1, h2, h3, s _ _ h4, s _ _ h5, s _ _ h6, h⟩
theorem Dr.off {H : Hp} {d r c p : Addr} {t : Int} (D : Dr H d r c t) (n : H p = none) : p ≠ d ∧ p ≠ r := by
  obtain ⟨cells, rests, h1, h2, h3, h4, h5, h6, h⟩ := D
  exact ⟨fun e => (ne_of_none h4 n) e.symm, fun e => (ne_of_none h6 n) e.symm⟩
theorem Dr.offc {H : Hp} {d r c p : Addr} {t : Int} (D : Dr H d r c t) (n : H p = none) : p ≠ c := by
  obtain ⟨cells, rests, h1, h2, h3, h4, h5, h6, h⟩ := D
  exact fun e => (ne_of_none h5 n) e.symm
theorem Dr.upd {H : Hp} {d r c p : Addr} {t : Int} {o : HO} (D : Dr H d r c t) (n1 : p ≠ d) (n2 : p ≠ r) (n3 : p ≠ c) : Dr (upd H p o) d r c t := by
  obtain ⟨cells, rests, h1, h2, h3, h4, h5, h6, h⟩ := D
  refine ⟨cells, rests, h1, h2, h3, ?_, ?_, ?_, h⟩
  · rw [upd_ne n1.symm]
    exact h4
  · rw [upd_ne n3.symm]
    exact h5
  · rw [upd_ne n2.symm]
    exact h6
theorem Fr.upd {d r : Addr} {H H' : Hp} {p : Addr} {o : HO} (f : Fr d r H H') (n : H p = none) : Fr d r H (upd H' p o) := fun b u n1 n2 e => by
  rw [upd_ne (ne_of_none e n)]
  exact f b u n1 n2 e
def sp_next : Sp := fun vs H Q _ => ∃ (d r c : Addr) (t m : Int), vs = [.ref d, .int m] ∧ Dr H d r c t ∧ t ≤ 1000000 ∧ 0 < m ∧ m.natAbs < 2 ^ 8000 ∧
  ∀ H' v, 0 ≤ v → v < m → Dr H' d r c (t + 1) → Fr d r H H' → Q (.int v) H'
def sp_one : Sp := fun vs H Q _ => ∃ (d r c a : Addr) (t : Int) (xs : List V), vs = [.ref d, .ref a] ∧ Dr H d r c t ∧ t ≤ 1000000 ∧ a ≠ d ∧ a ≠ r ∧ H a = some (.lst xs) ∧ 0 < xs.length ∧ xs.length ≤ 1000 ∧
  ∀ H' v, v ∈ xs → Dr H' d r c (t + 1) → Fr d r H H' → Q v H'
def sp_draws (K : PySem.W.Frag) : Sp := fun vs H Q _ => ∃ (a : Addr) (ns : List Int), vs = [.ref a] ∧ SqL K H a (ns.map V.int) ∧ ns.length ≤ 63 ∧
  ∀ H' d r c, H d = none → H r = none → Dr H' d r c 0 → Same H H' → Q (.ref d) H'
section
variable {P : Program} {w : World} {K : PySem.W.Frag} {mg : Str → Option Value} {base : Heap} {f : Addr} {fd : FuncData}
theorem mul_bounds {t : Int} (h0 : 0 ≤ t) (h1 : t ≤ 1000000) : 0 ≤ 6007 * t * t ∧ 6007 * t * t ≤ 6007000000000000 := by
  have a : 0 ≤ t * t := Int.mul_nonneg h0 h0
  have b : t * t ≤ 1000000 * 1000000 := Int.mul_le_mul h1 h1 h0 (by decide)
  rw [Int.mul_assoc]
  omega
theorem ok_next (T : Top mg) (F : Fun K "_law_next" "_law_next" s__law_next f fd) : FnOk P w K mg base CX0 1 f fd ["_law_drawn", "_law_many"] sp_next := by
  refine F.ok sc__law_next (fun vs H Q E h => ?_) (fun cdv A outer s H vs Q E hr h => ?_)
  · obtain ⟨d, r, c, t, m, rfl, _⟩ := h
    rfl
  · obtain ⟨d, r, c, t, m, rfl, ⟨cells, rests, dr, cd, cr, hd, hc, hrs, hl, h1, h63, t0⟩, t1, m0, m1, q⟩ := h
    refine ⟨_, (pss_cons (ps_asg (pv 0) (pgl_k (K := K) (n := 3) rfl rfl (pgs_cons (pg_name (i := 2) sc__law_next.nd rfl (by first | exact Or.inl rfl | exact Or.inr rfl)) (pgs_cons (pg_name (i := 3) sc__law_next.nd rfl (by first | exact Or.inl rfl | exact Or.inr rfl)) (pgs_cons (pg_name (i := 4) sc__law_next.nd rfl (by first | exact Or.inl rfl | exact Or.inr rfl)) pgs_nil)))))
      (pss_cons (ps_set (i := 5) sc__law_next.nd rfl (by first | exact Or.inl rfl | exact Or.inr rfl) (pe_op op_mod (pv 3) (pe_callB (len_k (K := K) rfl) (by rfl) T.z_len PySem.boot_len (pa_cons (pv 2) pa_nil))))
      (pss_cons (ps_asg (pe_op op_add (pv 3) pe_int) (pg_sub (pv 0) pe_int set_list))
      (pss_cons (ps_if (pt_cmpR op_gt (pe_ix (ixl_k (K := K) rfl) (pv 4) (pv 5) (fun _ _ => rfl)) pe_int (nomark _))
       (pss_cons (ps_set (i := 6) sc__law_next.nd rfl (by first | exact Or.inl rfl | exact Or.inr rfl) (pe_op op_mod (pe_ix (ixl_k (K := K) rfl) (pv 4) (pv 5) (fun _ _ => rfl)) (pv 1)))
        (pss_cons (ps_asg (pe_op op_fdivW (pe_ix (ixl_k (K := K) rfl) (pv 4) (pv 5) (fun _ _ => rfl)) (pv 1)) (pg_sub (pv 4) (pv 5) set_list))
        (pss_one (ps_ret (pv 6)))))
       pss_nil)
      (pss_cons (ps_set (i := 7) sc__law_next.nd rfl (by first | exact Or.inl rfl | exact Or.inr rfl) (pe_op op_mod (pe_op op_pow (pe_op op_add (pe_op op_add (pe_op op_mod (pe_ix (ixl_k (K := K) rfl) (pv 2) (pv 5) (fun _ _ => rfl)) pe_int) (pe_op op_mul pe_int (pv 3))) pe_int) pe_int) pe_int))
      (pss_cons (ps_set (i := 8) sc__law_next.nd rfl (by first | exact Or.inl rfl | exact Or.inr rfl) (pe_op op_mod (pe_op op_pow (pe_op op_add (pe_op op_add (pv 7) (pe_op op_mul (pe_op op_mul pe_int (pv 3)) (pv 3))) pe_int) pe_int) pe_int))
      (pss_one (ps_ret (pe_op op_mod (pe_op op_mod (pe_op op_add (pe_op op_mul (pv 8) pe_int) (pv 7)) pe_int) (pv 1)))))))))), ?_⟩
    walk_at "rd"
    refine rd_unl (SqL.of hd) rfl ?_
    walk_at "rd"
    refine rd_len (SqL.of hc) ?_
    rw [List.length_map]
    have hn : (0 : Int) < (cells.length : Int) := by omega
    walk_at "rd"
    have s0 : 0 ≤ t % (cells.length : Int) := Int.emod_nonneg _ (by omega)
    have s1 : t % (cells.length : Int) < (cells.length : Int) := Int.emod_lt_of_pos _ hn
    generalize hs : t % (cells.length : Int) = spot at s0 s1
    refine rd_set hd (m := 1) rfl ?_
    walk_at "rd"
    obtain ⟨z, hz, zm, az⟩ := at_ints (ns := rests) s0 (by rw [hl]; exact s1)
    obtain ⟨y, hy, ym, ay⟩ := at_ints (ns := cells) s0 s1
    generalize hH : upd H d (.lst ([V.ref c, V.int t, V.ref r].set 1 (.int (t + 1)))) = H1
    have d1 : H1 d = some (.lst [.ref c, .int (t + 1), .ref r]) := by
      rw [← hH, upd_same]
      rfl
    have c1 : H1 c = some (.lst (cells.map V.int)) := by
      rw [← hH, upd_ne cd]
      exact hc
    have r1 : H1 r = some (.lst (rests.map V.int)) := by
      rw [← hH, upd_ne dr.symm]
      exact hrs
    have f1 : Fr d r H H1 := fun b o n1 n2 e => by
      rw [← hH, upd_ne n1]
      exact e
    refine rd_ixL (SqL.of r1) az ?_
    walk_at "rd"
    refine rd_dec (fun zp => ?_) fun zn => ?_
    · walk_at "rd"
      refine rd_ixL (SqL.of r1) az ?_
      walk_at "rd"
      refine rd_ixL (SqL.of r1) az ?_
      walk_at "rd"
      refine rd_I (wide_div m0 m1 (by decide) (by decide)) ?_
      walk_at "rd"
      refine rd_set r1 (m := spot.toNat) (by rw [List.length_map, hl]; exact ix_in s0 s1) ?_
      walk_at "rd"
      refine q _ _ (Int.emod_nonneg _ (by omega)) (Int.emod_lt_of_pos _ m0) ⟨cells, rests.set spot.toNat (z / m), dr, cd, cr, ?_, ?_, ?_, ?_, h1, h63, by omega⟩ ?_
      · rw [upd_ne dr]
        exact d1
      · rw [upd_ne cr]
        exact c1
      · rw [upd_same, List.map_set]
      · rw [List.length_set]
        exact hl
      · exact f1.trans fun b o n1 n2 e => by
          rw [upd_ne n2]
          exact e
    · walk_at "rd"
      refine rd_ixL (SqL.of c1) ay ?_
      obtain ⟨p0, p1⟩ := mul_bounds t0 t1
      walk_at "rd"
      exact q _ _ (Int.emod_nonneg _ (by omega)) (Int.emod_lt_of_pos _ m0) ⟨cells, rests, dr, cd, cr, d1, c1, r1, hl, h1, h63, by omega⟩ f1
theorem ok_draws (T : Top mg) (F : Fun K "_law_draws" "_law_draws" s__law_draws f fd) : FnOk P w K mg base CX0 1 f fd ["_law_script"] (sp_draws K) := by
  refine F.ok sc__law_draws (fun vs H Q E h => ?_) (fun cdv A outer s H vs Q E hr h => ?_)
  · obtain ⟨a, ns, rfl, _⟩ := h
    rfl
  · obtain ⟨a, ns, rfl, hS, hn, q⟩ := h
    refine ⟨_, (pss_cons (ps_set (i := 1) sc__law_draws.nd rfl (by first | exact Or.inl rfl | exact Or.inr rfl) (pe_op op_cat (pe_callTy (list_k (K := K) rfl) (by rfl) T.z_list (by decide +kernel) (pa_cons (pe_slice (sll_k (K := K) rfl) (pv 0) po_none (po_some pe_int)) pa_nil)) (pe_op op_rep (pe_lst (pa_cons pe_int pa_nil)) (pe_callTy int_1 (by rfl) T.z_int (by decide +kernel) (pa_cons (pe_cmpR op_eq (pe_callB (len_k (K := K) rfl) (by rfl) T.z_len PySem.boot_len (pa_cons (pv 0) pa_nil)) pe_int (nomark _)) pa_nil)))))
      (pss_one (ps_ret (pe_lst (pa_cons (pv 1) (pa_cons pe_int (pa_cons (pe_lc (own := [("_law_cell", 2)]) (g := _) (tt := tYes) (by rfl) sc__law_draws.nd (pil_k (K := K) rfl (pv 1)) (blkOk_by (own := [("_law_cell", 2)]) (N := n__law_draws) (sc := defScope s__law_draws) (by decide +kernel)) (fun _ _ _ _ _ => (pg_name (i := 2) sc__law_draws.nd rfl (by first | exact Or.inl rfl | exact Or.inr rfl))) (fun _ _ _ _ _ => pts_nil) (fun _ _ _ _ _ => (pe_op op_mul (pv 2) (pe_callTy int_1 (by rfl) T.z_int (by decide +kernel) (pa_cons (pe_cmpR op_ge (pv 2) (pe_op op_pow pe_int pe_int) (nomark _)) pa_nil))))) pa_nil))))))), ?_⟩
    walk_at "rd"
    refine rd_slL hS fun p1 H1 n1 => ?_
    have e1 : cutV (ns.map V.int) none (some 63) = ns.map V.int := by
      unfold cutV
      rw [HT.sIx_none, List.length_map]
      have : HT.sIx ns.length ns.length (some 63) = ns.length := by
        rw [show (63 : Int) = ((63 : Nat) : Int) from rfl, HT.sIx_nat]
        omega
      rw [this]
      show List.take ns.length (ns.map V.int) = _
      exact List.take_of_length_le (by rw [List.length_map]; exact Nat.le_refl _)
    rw [e1] at n1
    walk_at "rd"
    refine rd_listL (SqL.of n1.here) fun p2 H2 n2 => ?_
    walk_at "rd"
    refine rd_new (by decide) fun p3 H3 n3 => ?_
    walk_at "rd"
    have s3 : Same H H3 := n1.same.trans (n2.same.trans n3.same)
    refine rd_len (s3.seq hS) ?_
    rw [List.length_map]
    walk_at "rd"
    -- [0] * int(len(script) == 0)
    obtain ⟨cells, ec, h1, h63, hrep⟩ : ∃ cells : List Int, cells = ns ++ (List.replicate (if decide (V.int (ns.length : Int) = V.int 0) = true then (1 : Int) else 0).toNat [(0 : Int)]).flatten ∧ 0 < cells.length ∧ cells.length ≤ 63 ∧ ((if decide (V.int (ns.length : Int) = V.int 0) = true then (1 : Int) else 0) = 0 ∨ (if decide (V.int (ns.length : Int) = V.int 0) = true then (1 : Int) else 0) = 1) := by
      by_cases h0 : ns.length = 0
      · have : decide (V.int (ns.length : Int) = V.int 0) = true := decide_eq_true (by rw [h0]; rfl)
        rw [this]
        refine ⟨_, rfl, ?_, ?_, .inr rfl⟩ <;> (rw [List.length_append, h0]; decide)
      · have : decide (V.int (ns.length : Int) = V.int 0) = false := decide_eq_false (fun z => h0 (by have := V.int.inj z; omega))
        rw [this]
        refine ⟨_, rfl, ?_, ?_, .inl rfl⟩ <;> (rw [List.length_append]; show _ ; simp; omega)
    generalize hk : (if decide (V.int (ns.length : Int) = V.int 0) = true then (1 : Int) else 0) = k at ec hrep
    refine rd_rep (i := k) n3.here (by omega) (by omega) (by show 1 * k.toNat ≤ 1000; omega) fun p4 H4 n4 => ?_
    have zl : (ns.map V.int).length ≤ 63 := by rw [List.length_map]; exact hn
    have zk : ((List.replicate k.toNat [V.int 0]).flatten).length ≤ 1 := by
      rcases hrep with e | e <;> (rw [e]; decide)
    refine rd_cat (n4.same _ _ (n3.same _ _ n2.here)) n4.here (by omega) (fun p5 H5 n5 => ?_)
    have e5 : ns.map V.int ++ (List.replicate k.toNat [V.int 0]).flatten = cells.map V.int := by
      rw [ec, List.map_append, List.map_flatten, List.map_replicate]
      rfl
    rw [e5] at n5
    walk_at "rd"
    refine rd_lcF (zs := cells) (emb := V.int) (f := fun c => .int (c * if 10 ^ 18 ≤ c then 1 else 0)) (a := p5) (SqL.of n5.here) (by omega) (fun z H6 R _ s6 go => ?_) (fun p6 H6 n6 => ?_)
    · walk_at "rd"
      refine ⟨rfl, ?_⟩
      walk_at "rd"
      have e18 : (if decide ((10 : Int) ^ (18 : Int).toNat ≤ z) = true then (1 : Int) else 0) = if 10 ^ 18 ≤ z then 1 else 0 := by
        by_cases h : (10 : Int) ^ 18 ≤ z
        · rw [if_pos h]
          exact if_pos (decide_eq_true h)
        · rw [if_neg h]
          exact if_neg fun w => h (of_decide_eq_true w)
      rw [e18]
      exact go H6 fun _ _ h => h
    · walk_at "rd"
      refine rd_new (by decide : 3 ≤ 1000) fun p7 H7 n7 => ?_
      have s5 : Same H H5 := s3.trans (n4.same.trans n5.same)
      have s7 : Same H5 H7 := n6.same.trans n7.same
      refine q H7 p7 p6 p5 ?_ ?_ ⟨cells, cells.map fun c => c * if 10 ^ 18 ≤ c then 1 else 0, ?_, ?_, ?_, n7.here, s7 _ _ n5.here, ?_, ?_, h1, h63, by decide⟩ (s5.trans s7)
      · exact (s5.trans n6.same).free n7.free
      · exact s5.free n6.free
      · exact (ne_of_none n6.here n7.free).symm
      · exact ne_of_none (n6.same _ _ n5.here) n7.free
      · exact ne_of_none n5.here n6.free
      · rw [n7.same _ _ n6.here, List.map_map]
        rfl
      · rw [List.length_map]
end
section
variable {P : Program} {w : World} {K : PySem.W.Frag} {mg : Str → Option Value} {base : Heap} {f : Addr} {fd : FuncData}
theorem okn (T : Top mg) (F : Fun K "_law_next" "_law_next" s__law_next f fd) : GOk P w K mg base 1 f fd ["_law_drawn", "_law_many"] (spD K Sn) := by
  refine GOk.imp (GOk.of (ok_next T F)) fun vs H Q E h => ?_
  obtain ⟨G, xs, t, C, ⟨m, rfl, t1, m0, m1, hC⟩, l, R, _, q⟩ := h
  obtain ⟨a, b, rfl⟩ := two_args l
  obtain ⟨d, r, c, eg, rfl⟩ := drw_at R.head
  have hb := RV.int R.h2
  subst hb
  obtain ⟨od, o_r, oc, t', tt, D⟩ := R.dw.1 d r c eg
  have big : m.natAbs < 2 ^ 8000 := by
    have : m.natAbs ≤ 2 ^ 200 := by
      have e : (2 : Nat) ^ 200 = 1606938044258990275541962092341162602522202993782792835301376 := by decide
      rw [e]
      omega
    exact Nat.lt_of_le_of_lt this (Nat.pow_lt_pow_right (by decide) (by decide))
  refine ⟨d, r, c, t', m, rfl, D, by omega, m0, big, fun H' v v0 v1 D' F' => ?_⟩
  refine q _ H' _ _ (hC v v0 v1) ?_
  have R1 : Rl K G [] [.drw, .dat (.int m)] (t + 1) [] [.ref d, .int m] H' := R.step (fun b o nb hb => F' b o (fun z => nb (.inl ⟨d, r, c, eg, .inl z⟩)) (fun z => nb (.inl ⟨d, r, c, eg, .inr z⟩)) hb) ⟨fun d2 r2 c2 e2 => by
    rw [eg] at e2
    cases e2
    exact ⟨od, o_r, oc, t' + 1, by omega, D'⟩, R.dw.2.keep fun b o e n => F' b o (fun z => by
      obtain ⟨_, _, _, _, _, h4, _⟩ := D
      rw [z, h4] at e
      exact n _ (Option.some.inj e).symm) (fun z => by
      obtain ⟨_, _, _, _, _, _, _, h6, _⟩ := D
      rw [z, h6] at e
      exact n _ (Option.some.inj e).symm) e⟩
  exact R1.pop.pop.sc (.int v)
end
def sp_law (K : PySem.W.Frag) : Sp := fun vs H Q _ => ∃ (a : Addr) (ns : List Int), vs = [.ref a] ∧ SqL K H a (ns.map V.int) ∧ ns.length ≤ 63 ∧ ∀ H', Q (.bl true) H'
/-- the law's beginning: the draws are made -/
theorem law_go {K : PySem.W.Frag} {x y : Str} {N : List Str} {a : Addr} {ns : List Int} {H : Hp} {Q : VK} {Qn : L2.St → Hp → Prop} {rest : TS} (hS : SqL K H a (ns.map V.int)) (few : ns.length ≤ 63) (q : ∀ H', Q (.bl true) H')
    (ds : ∀ G, DS K G rest (dst (x :: y :: N) [.any, .drw]) [] 0 ⟨fun _ _ => False, fun x _ => x = .dat (.bool true), fun _ _ => False, fun _ _ => False⟩) :
    (tSeq (tAsg (tCall (sp_draws K) [] E0 (tCons (tVar 0) tNil)) (gName 1)) rest) { nx := Qn, rt := Q } (L2.start (x :: y :: N) [.ref a]) H := by
  refine ⟨.ref a, rfl, a, ns, rfl, hS, few, fun H1 d r c _ _ D1 s1 => ?_⟩
  have e1 : (L2.start (x :: y :: N) [.ref a]).set 1 (some (.ref d)) = some (.ref a) :: some (.ref d) :: List.replicate N.length none := rfl
  have e2 : dst (x :: y :: N) [.any, .drw] = .any :: .drw :: dst N [] := rfl
  have more : ∀ N : List Str, Paired (fun s o => s = Sl.any ∨ (s = Sl.drw ∧ o = some (V.ref d))) (dst N []) (List.replicate N.length none) := fun N => by
    induction N with
    | nil => exact .nil
    | cons x N ih =>
      show Paired _ (Sl.any :: dst N []) (List.replicate (N.length + 1) none)
      rw [List.replicate_succ]
      exact .cons (.inl rfl) ih
  show rest _ ((L2.start (x :: y :: N) [.ref a]).set 1 (some (.ref d))) H1
  rw [e1]
  refine ds ⟨some (d, r, c), fun b => b = d ∨ b = r ∨ b = c, H1, []⟩ _ [] H1 _ (Rl.first D1 ?_) (fun _ _ _ _ z => z.elim) (fun v H2 x δ2 t2 σ2 e R2 => ?_) (fun _ _ _ _ z => z.elim) fun _ _ _ _ z => z.elim
  · rw [e2]
    exact .cons (.inl rfl) (.cons (.inr ⟨rfl, rfl⟩) (more N))
  · subst e
    rw [RV.bool R2.head]
    exact q H2
section
variable {P : Program} {w : World} {K : PySem.W.Frag} {mg : Str → Option Value} {base : Heap} {f : Addr} {fd : FuncData}
theorem oko {f1 : Addr} {fd1 : FuncData} (T : Top mg) (D__law_next : Df K mg "_law_next" s__law_next ["_law_drawn", "_law_many"] f1 fd1) (F : Fun K "_law_one" "_law_one" s__law_one f fd) : GOk P w K mg base 2 f fd ["_law_drawn", "_law_items"] (spD K So) := by
  have G__law_next : GOk P w K mg base 1 f1 fd1 _ (spD K Sn) := okn T D__law_next.fn
  refine okD F sc__law_one (fun h => ?_) (fun G cdv A outer s H E xs t C hq hr h => ?_)
  · obtain ⟨ds, rfl, _⟩ := h
    rfl
  · obtain ⟨ds, rfl, t1, l0, l1, hC⟩ := h
    refine ⟨_, (pss_one (ps_ret (pe_ix (ixl_k (K := K) rfl) (pv 1) (callG D__law_next G__law_next (hr.mono (by omega)) hq (by rfl) (pa_cons (pv 0) (pa_cons (pe_callB (len_k (K := K) rfl) (by rfl) T.z_len PySem.boot_len (pa_cons (pv 1) pa_nil)) pa_nil))) (fun _ _ => rfl)))), ?_⟩
    simp only [dst, n__law_one]
    walk_at "dw"
    refine ⟨_, rfl, t1, by omega, by omega, fun v v0 v1 => ?_⟩
    have hj : v.toNat < ds.length := by omega
    have ea : atI ds v = some ds[v.toNat] := by
      unfold atI
      rw [ix_in v0 v1]
      exact List.getElem?_eq_getElem hj
    exact dop_ixL rfl ea (hC _ (List.getElem_mem hj))
end
/-! ### integers among values of all kinds -/
def isInt : PyData → Bool
  | .int _ => true
  | _ => false
def inW (lo hi : Int) : PyData → Bool
  | .int i => decide (lo ≤ i) && decide (i ≤ hi)
  | _ => false
def Sii : DSp := fun xs t C => ∃ d, xs = [.dat d] ∧ C (.dat (.bool (isInt d))) t
def Siw : DSp := fun xs t C => ∃ d lo hi, xs = [.dat d, .dat (.int lo), .dat (.int hi)] ∧ C (.dat (.bool (inW lo hi d))) t
section
variable {P : Program} {w : World} {K : PySem.W.Frag} {mg : Str → Option Value} {base : Heap} {f f1 f2 f3 : Addr} {fd fd1 fd2 fd3 : FuncData}
theorem ok_ii (T : Top mg) (F : Fun K "is_integer" "is_integer" s_is_integer f fd) : GOk P w K mg base 1 f fd ["value"] (spD K Sii) := by
  refine okD F sc_is_integer (fun h => ?_) (fun G cdv A outer s H E xs t C hq hr h => ?_)
  · obtain ⟨_, rfl, _⟩ := h
    rfl
  · obtain ⟨d, rfl, hC⟩ := h
    refine ⟨_, (pss_one (ps_ret (pe_and (pe_callB (isi_k (K := K) rfl) (by rfl) T.z_isinstance (by decide +kernel) (pa_cons (pv 0) (pa_cons (pe_bltn (v := .ty "int") (by rfl) T.z_int (by decide +kernel) rfl) pa_nil))) (pe_one (pe_not (pe_callB (isi_k (K := K) rfl) (by rfl) T.z_isinstance (by decide +kernel) (pa_cons (pv 0) (pa_cons (pe_bltn (v := .ty "bool") (by rfl) T.z_bool (by decide +kernel) rfl) pa_nil)))))))), ?_⟩
    simp only [dst, n_is_integer]
    cases d <;> (walk_at "dgo"; exact hC)
theorem ok_iw (T : Top mg) (D_is_integer : Df K mg "is_integer" s_is_integer ["value"] f1 fd1) (F : Fun K "is_integer_within" "is_integer_within" s_is_integer_within f fd) : GOk P w K mg base 2 f fd ["value", "low", "high"] (spD K Siw) := by
  have G_is_integer : GOk P w K mg base 1 f1 fd1 _ (spD K Sii) := ok_ii T D_is_integer.fn
  refine okD F sc_is_integer_within (fun h => ?_) (fun G cdv A outer s H E xs t C hq hr h => ?_)
  · obtain ⟨_, _, _, rfl, _⟩ := h
    rfl
  · obtain ⟨d, lo, hi, rfl, hC⟩ := h
    refine ⟨_, (pss_one (ps_ret (pe_and (callG D_is_integer G_is_integer (hr.mono (by omega)) hq (by rfl) (pa_cons (pv 0) pa_nil)) (pe_one (pe_chain op_le op_le (pv 1) (pv 0) (pv 2)))))), ?_⟩
    simp only [dst, n_is_integer_within]
    walk_at "dw"
    refine ⟨d, rfl, ?_⟩
    cases d with
    | int i =>
      walk_at "dgo"
      refine ⟨_, _, rfl, rfl, ?_⟩
      refine rd_dec (fun y => ?_) fun y => ?_
      · walk_at "dgo"
        have : inW lo hi (.int i) = decide (i ≤ hi) := by
          show (decide (lo ≤ i) && decide (i ≤ hi)) = _
          rw [decide_eq_true y, Bool.true_and]
        rw [this] at hC
        exact hC
      · have : inW lo hi (.int i) = false := by
          show (decide (lo ≤ i) && decide (i ≤ hi)) = _
          rw [decide_eq_false y, Bool.false_and]
        rw [this] at hC
        exact hC
    | _ => walk_at "dgo"; exact hC
end
/-! ### bits of integers, sums bit by bit -/
open PySem.W (kbt_halves kbt_pos)
theorem p2s (k : Nat) : (2 : Int) ^ (k + 1) = 2 * 2 ^ k := by rw [Int.pow_succ, Int.mul_comm]
/-- the bit at place k -/
def bt (k : Nat) (x : Int) : Int := x / 2 ^ k % 2
theorem bt_01 (k : Nat) (x : Int) : bt k x = 0 ∨ bt k x = 1 := by unfold bt; omega
theorem bt_0 (x : Int) : bt 0 x = x % 2 := by
  unfold bt
  rw [show (2 : Int) ^ 0 = 1 from rfl, Int.ediv_one]
theorem bt_s (k : Nat) (x : Int) : bt (k + 1) x = bt k (x / 2) := by
  unfold bt
  rw [p2s, Int.ediv_ediv_of_nonneg (by decide)]
theorem bt_and : ∀ (k : Nat) (x y : Int), bt k (Builtin.bitAnd x y) = if bt k x = 1 ∧ bt k y = 1 then 1 else 0
  | 0, x, y => by
    have := kbt_halves x y
    rw [bt_0, bt_0, bt_0]
    split at this <;> split <;> omega
  | k + 1, x, y => by
    have := kbt_halves x y
    have e : Builtin.bitAnd x y / 2 = Builtin.bitAnd (x / 2) (y / 2) := by split at this <;> omega
    rw [bt_s, bt_s, bt_s, e, bt_and k]
theorem bt_not : ∀ (k : Nat) (x : Int), bt k (Builtin.bitNot x) = 1 - bt k x
  | 0, x => by
    show bt 0 (-x - 1) = _
    rw [bt_0, bt_0]
    omega
  | k + 1, x => by
    have e : Builtin.bitNot x / 2 = Builtin.bitNot (x / 2) := by
      show (-x - 1) / 2 = -(x / 2) - 1
      omega
    rw [bt_s, bt_s, e, bt_not k]
theorem bt_or (k : Nat) (x y : Int) : bt k (Builtin.bitOr x y) = if bt k x = 1 ∨ bt k y = 1 then 1 else 0 := by
  show bt k (Builtin.bitNot (Builtin.bitAnd (Builtin.bitNot x) (Builtin.bitNot y))) = _
  rw [bt_not, bt_and, bt_not, bt_not]
  rcases bt_01 k x with a | a <;> rcases bt_01 k y with b | b <;> simp [a, b]
theorem or_halves (x y : Int) : Builtin.bitOr x y = 2 * Builtin.bitOr (x / 2) (y / 2) + (if x % 2 = 1 ∨ y % 2 = 1 then 1 else 0) := by
  show -(Builtin.bitAnd (-x - 1) (-y - 1)) - 1 = 2 * (-(Builtin.bitAnd (-(x / 2) - 1) (-(y / 2) - 1)) - 1) + _
  have := kbt_halves (-x - 1) (-y - 1)
  rw [show (-x - 1) / 2 = -(x / 2) - 1 by omega, show (-y - 1) / 2 = -(y / 2) - 1 by omega] at this
  split at this <;> split <;> omega
theorem xor_halves (x y : Int) : Builtin.bitXor x y = 2 * Builtin.bitXor (x / 2) (y / 2) + (if x % 2 = y % 2 then 0 else 1) := by
  show Builtin.bitOr x y - Builtin.bitAnd x y = 2 * (Builtin.bitOr (x / 2) (y / 2) - Builtin.bitAnd (x / 2) (y / 2)) + _
  have h1 := or_halves x y
  have h2 := kbt_halves x y
  split at h1 <;> split at h2 <;> split <;> omega
theorem bt_xor : ∀ (k : Nat) (x y : Int), bt k (Builtin.bitXor x y) = if bt k x = bt k y then 0 else 1
  | 0, x, y => by
    have := xor_halves x y
    rw [bt_0, bt_0, bt_0]
    split at this <;> split <;> omega
  | k + 1, x, y => by
    have := xor_halves x y
    have e : Builtin.bitXor x y / 2 = Builtin.bitXor (x / 2) (y / 2) := by split at this <;> omega
    rw [bt_s, bt_s, bt_s, e, bt_xor k]
theorem low_s (k : Nat) (x : Int) : x % 2 ^ (k + 1) = x % 2 ^ k + 2 ^ k * bt k x := by
  unfold bt
  rw [p2s, Int.mul_comm, Int.emod_def, Int.emod_def x (2 ^ k), Int.emod_def (x / 2 ^ k) 2, ← Int.ediv_ediv_of_nonneg (Int.le_of_lt (kbt_pos k)), Int.mul_sub, Int.mul_assoc]
  omega
theorem low_b (k : Nat) (x : Int) : 0 ≤ x % 2 ^ k ∧ x % 2 ^ k < 2 ^ k := ⟨Int.emod_nonneg _ (Int.ne_of_gt (kbt_pos k)), Int.emod_lt_of_pos _ (kbt_pos k)⟩
/-- numbers alike in their lowest w bits -/
theorem bt_ext {x y : Int} : ∀ {w : Nat}, (∀ k, k < w → bt k x = bt k y) → x % 2 ^ w = y % 2 ^ w
  | 0, _ => by rw [show (2 : Int) ^ 0 = 1 from rfl, Int.emod_one, Int.emod_one]
  | w + 1, h => by rw [low_s, low_s, bt_ext fun k hk => h k (by omega), h w (by omega)]
theorem bt_mod {k w : Nat} (x : Int) (h : k < w) : bt k (x % 2 ^ w) = bt k x := by
  obtain ⟨d, rfl⟩ : ∃ d, w = k + 1 + d := ⟨w - (k + 1), by omega⟩
  have e : x % 2 ^ (k + 1 + d) % 2 ^ (k + 1) = x % 2 ^ (k + 1) := Int.emod_emod_of_dvd x ⟨2 ^ d, by rw [Int.pow_add]⟩
  have e2 : x % 2 ^ (k + 1 + d) % 2 ^ k = x % 2 ^ k := Int.emod_emod_of_dvd x ⟨2 ^ (d + 1), by rw [← Int.pow_add]; congr 1; omega⟩
  rw [low_s, low_s, e2] at e
  have e := Int.add_left_cancel e
  exact Int.eq_of_mul_eq_mul_left (Int.ne_of_gt (kbt_pos k)) e
/-- the carry into place k of x + y + c -/
def cy (k : Nat) (c x y : Int) : Int := (x % 2 ^ k + y % 2 ^ k + c) / 2 ^ k
theorem cy_01 {k : Nat} {c : Int} (x y : Int) (h0 : 0 ≤ c) (h1 : c ≤ 1) : cy k c x y = 0 ∨ cy k c x y = 1 := by
  unfold cy
  have a := low_b k x
  have b := low_b k y
  have p := kbt_pos k
  have l : 0 ≤ (x % 2 ^ k + y % 2 ^ k + c) / 2 ^ k := Int.ediv_nonneg (by omega) (by omega)
  have u : (x % 2 ^ k + y % 2 ^ k + c) / 2 ^ k < 2 := Int.ediv_lt_of_lt_mul p (by omega)
  omega
theorem bt_sum (k : Nat) (c x y : Int) : bt k (x + y + c) = (bt k x + bt k y + cy k c x y) % 2 := by
  unfold bt cy
  have ex := Int.emod_add_mul_ediv x (2 ^ k)
  have ey := Int.emod_add_mul_ediv y (2 ^ k)
  have e : x + y + c = (x % 2 ^ k + y % 2 ^ k + c) + 2 ^ k * (x / 2 ^ k + y / 2 ^ k) := by rw [Int.mul_add]; omega
  rw [e, Int.add_mul_ediv_left _ _ (Int.ne_of_gt (kbt_pos k))]
  omega
/-- l's bits below w lie in x -/
def Sub (w : Nat) (l x : Int) : Prop := ∀ k, k < w → bt k l ≤ bt k x
theorem Sub.low {w : Nat} {l x : Int} (h : Sub w l x) : ∀ {k : Nat}, k ≤ w → l % 2 ^ k ≤ x % 2 ^ k
  | 0, _ => by rw [show (2 : Int) ^ 0 = 1 from rfl, Int.emod_one, Int.emod_one]; exact Int.le_refl _
  | k + 1, hk => by
    rw [low_s, low_s]
    have a := h.low (k := k) (by omega)
    have b := Int.mul_le_mul_of_nonneg_left (h k (by omega)) (show (0 : Int) ≤ 2 ^ k from Int.le_of_lt (kbt_pos k))
    omega
theorem cy_mono {w k : Nat} {c x y x' y' : Int} (hx : Sub w x x') (hy : Sub w y y') (hk : k ≤ w) : cy k c x y ≤ cy k c x' y' := by
  unfold cy
  have a := hx.low hk
  have b := hy.low hk
  exact Int.ediv_le_ediv (kbt_pos k) (by omega)
/-- x lies between the least and the greatest -/
def In (w : Nat) (l g x : Int) : Prop := Sub w l x ∧ Sub w x g
/-- the open bits of a sum -/
def opS (c la ga lb gb : Int) : Int := Builtin.bitOr (Builtin.bitOr (Builtin.bitXor (la + lb + c) (ga + gb + c)) (Builtin.bitXor la ga)) (Builtin.bitXor lb gb)
theorem bt_opS (k : Nat) (c la ga lb gb : Int) : bt k (opS c la ga lb gb) = 0 ↔ bt k (la + lb + c) = bt k (ga + gb + c) ∧ bt k la = bt k ga ∧ bt k lb = bt k gb := by
  unfold opS
  rw [bt_or, bt_or, bt_xor, bt_xor, bt_xor]
  by_cases a : bt k (la + lb + c) = bt k (ga + gb + c) <;> by_cases b : bt k la = bt k ga <;> by_cases d : bt k lb = bt k gb <;> simp [a, b, d]
/-- where the place isn't open, every sum has the same bit -/
theorem sum_shut {w k : Nat} {c la ga lb gb x y : Int} (h0 : 0 ≤ c) (h1 : c ≤ 1) (hx : In w la ga x) (hy : In w lb gb y) (hk : k < w) (h : bt k (opS c la ga lb gb) = 0) : bt k (x + y + c) = bt k (la + lb + c) := by
  obtain ⟨e, ea, eb⟩ := (bt_opS k c la ga lb gb).mp h
  have x1 := hx.1 k hk
  have x2 := hx.2 k hk
  have y1 := hy.1 k hk
  have y2 := hy.2 k hk
  have m1 := cy_mono (c := c) hx.1 hy.1 (Nat.le_of_lt hk)
  have m2 := cy_mono (c := c) hx.2 hy.2 (Nat.le_of_lt hk)
  have c1 := cy_01 (k := k) la lb h0 h1
  have c2 := cy_01 (k := k) ga gb h0 h1
  rw [bt_sum, bt_sum] at e ⊢
  have ex : bt k x = bt k la := by omega
  have ey : bt k y = bt k lb := by omega
  rw [ea, eb] at e
  rw [ex, ey]
  have := bt_01 k ga
  have := bt_01 k gb
  have ce : cy k c la lb = cy k c ga gb := by omega
  have : cy k c x y = cy k c la lb := by omega
  rw [this]
/-- x with the bit at place k given anew -/
def setb (k : Nat) (b x : Int) : Int := x + 2 ^ k * (b - bt k x)
theorem setb_low (k : Nat) (b x : Int) : setb k b x % 2 ^ k = x % 2 ^ k := by
  unfold setb
  rw [Int.add_mul_emod_self_left]
theorem setb_div (k : Nat) (b x : Int) : setb k b x / 2 ^ k = x / 2 ^ k + (b - bt k x) := by
  unfold setb
  rw [Int.add_mul_ediv_left _ _ (Int.ne_of_gt (kbt_pos k))]
theorem bt_setb_self {k : Nat} {b x : Int} (h : b = 0 ∨ b = 1) : bt k (setb k b x) = b := by
  have := setb_div k b x
  unfold bt at this ⊢
  omega
theorem bt_low {j k : Nat} {x y : Int} (h : x % 2 ^ k = y % 2 ^ k) (hj : j < k) : bt j x = bt j y := by rw [← bt_mod x hj, ← bt_mod y hj, h]
theorem bt_high {j k : Nat} {x : Int} (h : k < j) : bt j x = bt (j - (k + 1)) (x / 2 ^ k / 2) := by
  obtain ⟨d, rfl⟩ : ∃ d, j = k + 1 + d := ⟨j - (k + 1), by omega⟩
  rw [show k + 1 + d - (k + 1) = d by omega]
  unfold bt
  rw [Int.pow_add, p2s, Int.mul_comm 2, Int.mul_assoc, ← Int.ediv_ediv_of_nonneg (Int.le_of_lt (kbt_pos k)), ← Int.ediv_ediv_of_nonneg (by decide)]
theorem bt_setb_ne {j k : Nat} {b x : Int} (h : b = 0 ∨ b = 1) (hj : j ≠ k) : bt j (setb k b x) = bt j x := by
  rcases Nat.lt_or_gt_of_ne hj with l | l
  · exact bt_low (setb_low k b x) l
  · rw [bt_high l, bt_high (x := x) l, setb_div]
    congr 1
    unfold bt
    omega
theorem In.setb {w k : Nat} {l g x b : Int} (h : In w l g x) (hb : b = 0 ∨ b = 1) (ho : bt k l ≠ bt k g) (hk : k < w) : In w l g (setb k b x) := by
  have a1 := h.1 k hk
  have a2 := h.2 k hk
  have := bt_01 k l
  have := bt_01 k g
  refine ⟨fun j hj => ?_, fun j hj => ?_⟩
  · by_cases e : j = k
    · rw [e, bt_setb_self hb]
      omega
    · rw [bt_setb_ne hb e]
      exact h.1 j hj
  · by_cases e : j = k
    · rw [e, bt_setb_self hb]
      omega
    · rw [bt_setb_ne hb e]
      exact h.2 j hj
theorem In.least {w : Nat} {l g : Int} (h : Sub w l g) : In w l g l := ⟨fun _ _ => Int.le_refl _, h⟩
theorem In.most {w : Nat} {l g : Int} (h : Sub w l g) : In w l g g := ⟨h, fun _ _ => Int.le_refl _⟩
/-- where the place is open, both bits come -/
theorem sum_open {w k : Nat} {c la ga lb gb b : Int} (ha : Sub w la ga) (hb : Sub w lb gb) (hk : k < w) (h : bt k (opS c la ga lb gb) = 1) (hB : b = 0 ∨ b = 1) :
    ∃ x y, In w la ga x ∧ In w lb gb y ∧ bt k (x + y + c) = b := by
  by_cases ea : bt k la = bt k ga
  · by_cases eb : bt k lb = bt k gb
    · have e : bt k (la + lb + c) ≠ bt k (ga + gb + c) := fun e => by
        rw [(bt_opS k c la ga lb gb).mpr ⟨e, ea, eb⟩] at h
        cases h
      have := bt_01 k (la + lb + c)
      have := bt_01 k (ga + gb + c)
      by_cases z : bt k (la + lb + c) = b
      · exact ⟨la, lb, .least ha, .least hb, z⟩
      · exact ⟨ga, gb, .most ha, .most hb, by omega⟩
    · by_cases z : bt k (la + lb + c) = b
      · exact ⟨la, lb, .least ha, .least hb, z⟩
      · have s := bt_sum k c la lb
        have q : 1 - bt k lb = 0 ∨ 1 - bt k lb = 1 := by have := bt_01 k lb; omega
        refine ⟨la, Lw.setb k (1 - bt k lb) lb, .least ha, (In.least hb).setb q eb hk, ?_⟩
        have s2 := bt_sum k c la (Lw.setb k (1 - bt k lb) lb)
        have ce : cy k c la (Lw.setb k (1 - bt k lb) lb) = cy k c la lb := by unfold cy; rw [setb_low]
        rw [bt_setb_self q, ce] at s2
        have := bt_01 k lb
        omega
  · by_cases z : bt k (la + lb + c) = b
    · exact ⟨la, lb, .least ha, .least hb, z⟩
    · have s := bt_sum k c la lb
      have q : 1 - bt k la = 0 ∨ 1 - bt k la = 1 := by have := bt_01 k la; omega
      refine ⟨Lw.setb k (1 - bt k la) la, lb, (In.least ha).setb q ea hk, .least hb, ?_⟩
      have s2 := bt_sum k c (Lw.setb k (1 - bt k la) la) lb
      have ce : cy k c (Lw.setb k (1 - bt k la) la) lb = cy k c la lb := by unfold cy; rw [setb_low]
      rw [bt_setb_self q, ce] at s2
      have := bt_01 k la
      omega
/-! ### words, masks, hulls -/
def Wd (w : Nat) (x : Int) : Prop := 0 ≤ x ∧ x < 2 ^ w
theorem Wd.half {w : Nat} {x : Int} (h : Wd (w + 1) x) : Wd w (x / 2) := by
  have := h.1
  have := h.2
  rw [p2s] at this
  exact ⟨by omega, by omega⟩
theorem Wd.and : ∀ {w : Nat} {x y : Int}, Wd w x → Wd w y → Wd w (Builtin.bitAnd x y)
  | 0, x, y, h, g => by
    have e : (2 : Int) ^ 0 = 1 := rfl
    obtain ⟨a, b⟩ := h
    obtain ⟨c, d⟩ := g
    rw [e] at b d
    have ex : x = 0 := by omega
    have ey : y = 0 := by omega
    rw [ex, ey]
    exact ⟨by decide, by decide⟩
  | w + 1, x, y, h, g => by
    obtain ⟨a, b⟩ := Wd.and h.half g.half
    have := kbt_halves x y
    refine ⟨by split at this <;> omega, ?_⟩
    rw [p2s]
    split at this <;> omega
theorem Wd.or : ∀ {w : Nat} {x y : Int}, Wd w x → Wd w y → Wd w (Builtin.bitOr x y)
  | 0, x, y, h, g => by
    have e : (2 : Int) ^ 0 = 1 := rfl
    obtain ⟨a, b⟩ := h
    obtain ⟨c, d⟩ := g
    rw [e] at b d
    have ex : x = 0 := by omega
    have ey : y = 0 := by omega
    rw [ex, ey]
    exact ⟨by decide, by decide⟩
  | w + 1, x, y, h, g => by
    obtain ⟨a, b⟩ := Wd.or h.half g.half
    have := or_halves x y
    refine ⟨by split at this <;> omega, ?_⟩
    rw [p2s]
    split at this <;> omega
theorem Wd.xor : ∀ {w : Nat} {x y : Int}, Wd w x → Wd w y → Wd w (Builtin.bitXor x y)
  | 0, x, y, h, g => by
    have e : (2 : Int) ^ 0 = 1 := rfl
    obtain ⟨a, b⟩ := h
    obtain ⟨c, d⟩ := g
    rw [e] at b d
    have ex : x = 0 := by omega
    have ey : y = 0 := by omega
    rw [ex, ey]
    exact ⟨by decide, by decide⟩
  | w + 1, x, y, h, g => by
    obtain ⟨a, b⟩ := Wd.xor h.half g.half
    have := xor_halves x y
    refine ⟨by split at this <;> omega, ?_⟩
    rw [p2s]
    split at this <;> omega
theorem Wd.mod (w : Nat) (x : Int) : Wd w (x % 2 ^ w) := low_b w x
theorem Wd.top (w : Nat) : Wd w (2 ^ w - 1) := by
  have := kbt_pos w
  exact ⟨by omega, by omega⟩
theorem Wd.zero (w : Nat) : Wd w 0 := ⟨Int.le_refl _, kbt_pos w⟩
theorem Wd.ext {w : Nat} {x y : Int} (hx : Wd w x) (hy : Wd w y) (h : ∀ k, k < w → bt k x = bt k y) : x = y := by
  have := bt_ext h
  rwa [Int.emod_eq_of_lt hx.1 hx.2, Int.emod_eq_of_lt hy.1 hy.2] at this
theorem bt_zero (k : Nat) : bt k 0 = 0 := by
  unfold bt
  rw [Int.zero_ediv]
  rfl
theorem bt_top {k w : Nat} (h : k < w) : bt k (2 ^ w - 1) = 1 := by
  have e : (2 ^ w - 1 : Int) % 2 ^ w = (Builtin.bitNot 0) % 2 ^ w := by
    show _ = (-0 - 1 : Int) % 2 ^ w
    rw [show (2 ^ w - 1 : Int) = (-0 - 1) + 2 ^ w * 1 by omega, Int.add_mul_emod_self_left]
  rw [bt_low e h, bt_not, bt_zero]
  rfl
/-- the mask of the bits `low` where `o` isn't open -/
def lsM (w : Nat) (low o : Int) : Int := Builtin.bitAnd low (Builtin.bitNot o) % 2 ^ w
def grM (w : Nat) (low o : Int) : Int := Builtin.bitOr (lsM w low o) (o % 2 ^ w)
theorem Wd.lsM (w : Nat) (low o : Int) : Wd w (lsM w low o) := .mod w _
theorem Wd.grM (w : Nat) (low o : Int) : Wd w (grM w low o) := .or (.mod w _) (.mod w _)
theorem bt_lsM {k w : Nat} (low o : Int) (h : k < w) : bt k (lsM w low o) = if bt k low = 1 ∧ bt k o = 0 then 1 else 0 := by
  unfold Lw.lsM
  rw [bt_mod _ h, bt_and, bt_not]
  rcases bt_01 k o with e | e <;> simp [e]
theorem bt_grM {k w : Nat} (low o : Int) (h : k < w) : bt k (grM w low o) = if bt k low = 1 ∨ bt k o = 1 then 1 else 0 := by
  unfold Lw.grM
  rw [bt_or, bt_lsM _ _ h, bt_mod _ h]
  rcases bt_01 k o with e | e <;> simp [e]
theorem Sub.mask (w : Nat) (low o : Int) : Sub w (lsM w low o) (grM w low o) := fun k h => by
  rw [bt_lsM _ _ h, bt_grM _ _ h]
  rcases bt_01 k o with e | e <;> simp [e]
theorem In.mask {w : Nat} {low o x : Int} : In w (lsM w low o) (grM w low o) x ↔ ∀ k, k < w → bt k o = 0 → bt k x = bt k low := by
  constructor
  · rintro ⟨h1, h2⟩ k hk e
    have h1 := h1 k hk
    have h2 := h2 k hk
    rw [bt_lsM _ _ hk] at h1
    rw [bt_grM _ _ hk] at h2
    rcases bt_01 k low with a | a <;> simp [a, e] at h1 h2 <;> have := bt_01 k x <;> omega
  · intro h
    refine ⟨fun k hk => ?_, fun k hk => ?_⟩
    · rw [bt_lsM _ _ hk]
      have := bt_01 k x
      by_cases e : bt k o = 0
      · rw [h k hk e]
        rcases bt_01 k low with a | a <;> simp [a, e]
      · simp [e]
        omega
    · rw [bt_grM _ _ hk]
      have := bt_01 k x
      by_cases e : bt k o = 0
      · rw [h k hk e]
        rcases bt_01 k low with a | a <;> simp [a, e]
      · have e : bt k o = 1 := by have := bt_01 k o; omega
        simp [e]
        omega
/-- one sign of a mask -/
def sgT (l g : Int) (k : Nat) : Str := if bt k l = bt k g then (if bt k l = 1 then (show Str from "1") else "0") else "?"
theorem sgT_mask {k w : Nat} (low o : Int) (h : k < w) : sgT (lsM w low o) (grM w low o) k = if bt k o = 1 then (show Str from "?") else if bt k low = 1 then (show Str from "1") else "0" := by
  unfold sgT
  rw [bt_lsM _ _ h, bt_grM _ _ h]
  rcases bt_01 k o with e | e <;> rcases bt_01 k low with a | a <;> simp [e, a]
/-- the least and the greatest of many words -/
structure Hul (w : Nat) (T : List Int) (lo hi : Int) : Prop where
  wl : Wd w lo
  wh : Wd w hi
  all : ∀ k, k < w → (bt k lo = 1 ↔ ∀ x, x ∈ T → bt k x = 1)
  some : ∀ k, k < w → (bt k hi = 1 ↔ ∃ x, x ∈ T ∧ bt k x = 1)
theorem Hul.nil (w : Nat) : Hul w [] (2 ^ w - 1) 0 := ⟨.top w, .zero w, fun k h => by simp [bt_top h], fun k h => by simp [bt_zero]⟩
theorem Hul.snoc {w : Nat} {T : List Int} {lo hi x : Int} (h : Hul w T lo hi) (hx : Wd w x) : Hul w (T ++ [x]) (Builtin.bitAnd lo x) (Builtin.bitOr hi x) := by
  refine ⟨h.wl.and hx, h.wh.or hx, fun k hk => ?_, fun k hk => ?_⟩
  · rw [bt_and]
    have := h.all k hk
    constructor
    · intro e y hy
      have e : bt k lo = 1 ∧ bt k x = 1 := by
        refine Decidable.byContradiction fun z => ?_
        rw [if_neg z] at e
        cases e
      rcases List.mem_append.mp hy with hy | hy
      · exact this.mp e.1 y hy
      · rw [List.mem_singleton.mp hy]
        exact e.2
    · intro e
      rw [if_pos ⟨this.mpr fun y hy => e y (List.mem_append_left _ hy), e x (List.mem_append_right _ (List.mem_singleton.mpr rfl))⟩]
  · rw [bt_or]
    have := h.some k hk
    constructor
    · intro e
      have e : bt k hi = 1 ∨ bt k x = 1 := by
        refine Decidable.byContradiction fun z => ?_
        rw [if_neg z] at e
        cases e
      rcases e with e | e
      · obtain ⟨y, hy, ey⟩ := this.mp e
        exact ⟨y, List.mem_append_left _ hy, ey⟩
      · exact ⟨x, List.mem_append_right _ (List.mem_singleton.mpr rfl), e⟩
    · rintro ⟨y, hy, ey⟩
      rcases List.mem_append.mp hy with hy | hy
      · rw [if_pos (.inl (this.mpr ⟨y, hy, ey⟩))]
      · rw [List.mem_singleton.mp hy] at ey
        rw [if_pos (.inr ey)]
/-- the hull of words that keep the shut places and take both bits at the open ones -/
theorem Hul.signs {w : Nat} {T : List Int} {lo hi low o : Int} (h : Hul w T lo hi) (hne : T ≠ []) (hs : ∀ x, x ∈ T → ∀ k, k < w → bt k o = 0 → bt k x = bt k low)
    (ho : ∀ k, k < w → bt k o = 1 → ∀ b, b = 0 ∨ b = 1 → ∃ x, x ∈ T ∧ bt k x = b) {k : Nat} (hk : k < w) : sgT lo hi k = sgT (lsM w low o) (grM w low o) k := by
  rw [sgT_mask _ _ hk]
  unfold sgT
  have a := h.all k hk
  have s := h.some k hk
  have l1 := bt_01 k lo
  have h1 := bt_01 k hi
  rcases bt_01 k o with e | e
  · obtain ⟨y, ys, rfl⟩ := List.exists_cons_of_ne_nil hne
    rw [if_neg (show ¬ bt k o = 1 by rw [e]; decide)]
    rcases bt_01 k low with z | z
    · have q1 : bt k lo = 0 := by
        refine Decidable.byContradiction fun c => ?_
        have t := a.mp (l1.resolve_left c) y List.mem_cons_self
        rw [hs y List.mem_cons_self k hk e, z] at t
        cases t
      have q2 : bt k hi = 0 := by
        refine Decidable.byContradiction fun c => ?_
        obtain ⟨x, hx, ex⟩ := s.mp (h1.resolve_left c)
        rw [hs x hx k hk e, z] at ex
        cases ex
      rw [q1, q2, z]
      rfl
    · have q1 : bt k lo = 1 := a.mpr fun x hx => by rw [hs x hx k hk e, z]
      have q2 : bt k hi = 1 := s.mpr ⟨y, List.mem_cons_self, by rw [hs y List.mem_cons_self k hk e, z]⟩
      rw [q1, q2, z]
      rfl
  · rw [if_pos e]
    obtain ⟨x0, m0, e0⟩ := ho k hk e 0 (.inl rfl)
    obtain ⟨x1, m1, e1⟩ := ho k hk e 1 (.inr rfl)
    have q2 : bt k hi = 1 := s.mpr ⟨x1, m1, e1⟩
    have q1 : bt k lo ≠ 1 := fun c => by
      have t := a.mp c x0 m0
      rw [e0] at t
      cases t
    rw [if_neg (show ¬ bt k lo = bt k hi by rw [q2]; exact q1)]
end Lw

set_option Elab.async false
set_option linter.all false
set_option maxRecDepth 100000
set_option maxHeartbeats 4000000
set_option pp.deepTerms false
set_option pp.deepTerms.threshold 12
namespace Lw
open PySem PySem.Spec PyProof.Rows L2 Glay Dl
/-- what is asked of the numbers by the way -/
local macro_rules | `(tactic| walk_at "side") => `(tactic| first
  | rfl
  | decide
  | assumption
  | omega
  | (unfold CMul; omega)
  | (unfold CPowW; exact ⟨by decide, by decide +kernel⟩)
  | exact wide_mul (a := 1400) (b := 1400) (by decide +kernel) (by decide +kernel) (by decide) (by decide) (by decide)
  | exact wide_div (b := 64) (by decide) (by decide) (by decide) (by decide)
  | (unfold CMul; exact Or.inr ⟨by decide, by decide⟩)
  | (unfold CMul; exact Or.inl ⟨by decide, by decide⟩)
  | (unfold CPow; omega)
  | (unfold CPow; refine ⟨by omega, by omega, ?_⟩; omega))
local macro_rules | `(tactic| walk_at "one") => `(tactic| with_reducible first
  | (refine' rd_var ?rdh ?_; (case rdh => with_unfolding_all exact rfl))
  | refine rd_c ?_
  | refine rd_op ?_
  | refine rd_un ?_
  | refine rd_I0 ?_
  | refine rd_I (by walk_at "side") ?_
  | refine rd_U ?_
  | refine rd_seq ?_
  | refine rd_next ?_
  | refine rd_asg ?_
  | refine rd_name ?_
  | refine rd_par ?_
  | refine rd_par2 ?_
  | refine rd_ret ?_
  | refine rd_ifs ?_
  | refine rd_if ?_
  | refine rd_test ?_
  | refine rd_B ?_
  | refine rd_not ?_
  | refine rd_and ?_
  | refine rd_or ?_
  | refine rd_andV ?_
  | refine rd_orV ?_
  | refine rd_notV ?_
  | refine rd_chain ?_
  | refine rd_k ?_
  | refine rd_eq (by with_unfolding_all rfl) ?_
  | refine rd_ne (by with_unfolding_all rfl) ?_
  | refine rd_call ?_
  | refine rd_cb ?_
  | refine rd_nil ?_
  | refine rd_cons ?_
  | refine rd_lst ?_
  | refine rd_gcons ?_
  | refine rd_gnil ?_
  | refine rd_sub ?_
  | (refine' rd_ixL (SqL.of (by assumption)) ?rde ?_; (case rde => with_unfolding_all exact rfl))
  | refine rd_intI ?_
  | refine rd_intB ?_
  | refine rd_abs ?_
  | refine rd_sl ?_
  | refine rd_nopart ?_
  | refine rd_part ?_
  | refine rd_pi ?_
  | refine rd_nt ?_
  | refine rd_nf ?_
  | refine rd_t ?_
  | refine rd_f ?_
  | refine rd_for ?_
  | refine rd_max2 ?_
  | refine rd_izip ?_
  | refine rd_min2 ?_
  | (refine' rd_in (SqT.of (by assumption)) ?rdf ?rda ?_; (case rdf => with_unfolding_all rfl); (case rda => with_unfolding_all rfl))
  | refine rd_lc ?_
  | refine rd_itup ?_
  | refine rd_tyes ?_
  | (refine' rd_ixT (SqT.of (by assumption)) ?rde ?_; (case rde => first | exact at_head | with_unfolding_all exact rfl))
  | refine rd_ilist ?_
  | refine rd_irng ?_
  | refine rd_tup ?_)
local macro_rules | `(tactic| walk_at "rd") => `(tactic| repeat walk_at "one")
/-- one of two ways, by a written text -/
local macro_rules | `(tactic| walk_at "br") => `(tactic| first
  | refine rd_yes (by decide +kernel) ?_
  | refine rd_no (by decide +kernel) ?_
  | refine rd_yesN (by decide +kernel) ?_
  | refine rd_noN (by decide +kernel) ?_
  | refine rd_brT (by decide +kernel) ?_
  | refine rd_brF (by decide +kernel) ?_)
local macro_rules | `(tactic| walk_at "go") => `(tactic| repeat (first | walk_at "one" | walk_at "br"))
/-- the walk of readings told by data -/
local macro_rules | `(tactic| walk_at "side") => `(tactic| first | assumption | exact cshl1 (by omega) (by omega))
local macro_rules | `(tactic| walk_at "d1") => `(tactic| first
  | ((with_reducible refine' se_dat ?rd0 ?_); (case rd0 => exact rfl))
  | ((with_reducible refine' se_ixO ?rd0 ?_); (case rd0 => exact rfl))
  | ((with_reducible refine' se_lenO ?rd0 ?_); (case rd0 => exact rfl))
  | ((with_reducible refine' se_listO ?rd0 ?_); (case rd0 => exact rfl))
  | (with_reducible refine den_int ?_)
  | (with_reducible refine ds_seq ?_)
  | (with_reducible refine ds_asg ?_)
  | (with_reducible refine den_op ?_)
  | ((with_reducible refine' dop_I0 ?rd0 ?_); (case rd0 => first | exact .int _ | exact .bl _ | exact .str _))
  | ((with_reducible refine' dop_I ?rd0 ?rd1 ?_); (case rd0 => first | exact .int _ | exact .bl _ | exact .str _); (case rd1 => walk_at "side"))
  | (with_reducible refine dena_nil ?_)
  | (with_reducible refine dena_cons ?_)
  | (with_reducible refine den_call ?_)
  | (with_reducible refine den_callD ?_)
  | (with_reducible refine den_callN ?_)
  | (with_reducible refine den_sset ?_)
  | (with_reducible refine den_cb ?_)
  | ((with_reducible refine' sg_dat ?rd0 ?rd1 ?_); (case rd0 => first | exact True.intro | decide); (case rd1 => (dsimp only [List.set, wipeD, List.map, List.map_cons, List.map_nil]; try exact rfl)))
  | ((with_reducible refine' sg_soft ?rd0 ?rd1 ?_); (case rd0 => first | exact True.intro | decide); (case rd1 => (dsimp only [List.set, wipeD, List.map, List.map_cons, List.map_nil]; try exact rfl)))
  | ((with_reducible refine' sg_own ?rd0 ?rd1 ?_); (case rd0 => first | exact True.intro | decide); (case rd1 => (dsimp only [List.set, wipeD, List.map, List.map_cons, List.map_nil]; try exact rfl)))
  | ((with_reducible refine' sg_ownD ?rd0 ?rd1 ?_); (case rd0 => first | exact True.intro | decide); (case rd1 => (dsimp only [List.set, wipeD, List.map, List.map_cons, List.map_nil]; try exact rfl)))
  | ((with_reducible refine' sg_drw ?rd0 ?rd1 ?_); (case rd0 => first | exact True.intro | decide); (case rd1 => (dsimp only [List.set, wipeD, List.map, List.map_cons, List.map_nil]; try exact rfl)))
  | (with_reducible refine dent_test ?_)
  | (with_reducible refine ex_b ?_)
  | (with_reducible refine ex_i ?_)
  | (with_reducible refine ex_xy ?_)
  | (with_reducible refine ex_z ?_)
  | ((with_reducible refine' se_drw ?rd0 ?_); (case rd0 => exact rfl))
  | ((with_reducible refine' se_raw ?rd0 ?_); (case rd0 => exact rfl))
  | ((with_reducible refine' se_own ?rd0 ?rd1 ?_); (case rd0 => exact rfl); (case rd1 => (dsimp only [List.set, wipeD, List.map, List.map_cons, List.map_nil]; try exact rfl)))
  | ((with_reducible refine' se_datO ?rd0 ?_); (case rd0 => exact rfl))
  | (with_reducible refine den_bl ?_)
  | (with_reducible refine den_str ?_)
  | (with_reducible refine den_non ?_)
  | (with_reducible refine den_ty ?_)
  | (with_reducible refine den_ref ?_)
  | (with_reducible refine den_un ?_)
  | ((with_reducible refine' dun_U ?rd0 ?_); (case rd0 => first | exact .int _ | exact .bl _ | exact .str _))
  | ((with_reducible refine' dop_eq ?rd0 ?_); (case rd0 => with_unfolding_all exact rfl))
  | ((with_reducible refine' dop_ne ?rd0 ?_); (case rd0 => with_unfolding_all exact rfl))
  | ((with_reducible refine' dop_isN ?rd0 ?_); (case rd0 => with_unfolding_all exact rfl))
  | ((with_reducible refine' dop_notN ?rd0 ?_); (case rd0 => with_unfolding_all exact rfl))
  | (with_reducible refine den_not ?_)
  | (with_reducible refine den_and ?_)
  | (with_reducible refine den_or ?_)
  | (with_reducible refine den_if ?_)
  | (with_reducible refine den_chain ?_)
  | (with_reducible refine den_tup ?_)
  | (with_reducible refine den_lst ?_)
  | (with_reducible refine den_sl ?_)
  | (with_reducible refine deno_none ?_)
  | (with_reducible refine deno_some ?_)
  | (with_reducible refine den_lrg1 ?_)
  | (with_reducible refine den_lrg2 ?_)
  | ((with_reducible refine' dcb_len ?rd0 ?_); (case rd0 => with_unfolding_all exact rfl))
  | (with_reducible refine dcb_lenT ?_)
  | (with_reducible refine dsl_A ?_)
  | (with_reducible refine den_dnew ?_)
  | (with_reducible refine den_disp1 ?_)
  | (with_reducible refine den_bits ?_)
  | (with_reducible refine dena_star ?_)
  | (with_reducible refine den_revT ?_)
  | ((with_reducible refine' dcb_list ?rd0 ?_); (case rd0 => with_unfolding_all exact rfl))
  | (with_reducible refine dcb_listT ?_)
  | ((with_reducible refine' dcb_tup ?rd0 ?_); (case rd0 => with_unfolding_all exact rfl))
  | (with_reducible refine dcb_int ?_)
  | (with_reducible refine dcb_intB ?_)
  | (with_reducible refine dcb_abs ?_)
  | (with_reducible refine dcb_max2 ?_)
  | (with_reducible refine dcb_min2 ?_)
  | ((with_reducible refine' dcb_isi ?rd0 ?rd1 ?rd2 ?rd3 ?_); (case rd0 => with_unfolding_all exact rfl); (case rd1 => with_unfolding_all exact rfl); (case rd2 => first | exact kb_tuple_tuple | exact kb_tuple_list | exact kb_tuple_int | exact kb_tuple_bool | exact kb_tuple_str | exact kb_tuple_dict | exact kb_list_tuple | exact kb_list_list | exact kb_list_int | exact kb_list_bool | exact kb_list_str | exact kb_list_dict | exact kb_int_tuple | exact kb_int_list | exact kb_int_int | exact kb_int_bool | exact kb_int_str | exact kb_int_dict | exact kb_bool_tuple | exact kb_bool_list | exact kb_bool_int | exact kb_bool_bool | exact kb_bool_str | exact kb_bool_dict | exact kb_str_tuple | exact kb_str_list | exact kb_str_int | exact kb_str_bool | exact kb_str_str | exact kb_str_dict | exact kb_NoneType_tuple | exact kb_NoneType_list | exact kb_NoneType_int | exact kb_NoneType_bool | exact kb_NoneType_str | exact kb_NoneType_dict | exact kb_dict_tuple | exact kb_dict_list | exact kb_dict_int | exact kb_dict_bool | exact kb_dict_str | exact kb_dict_dict); (case rd3 => first | exact .inl (by decide) | exact .inr (by decide)))
  | ((with_reducible refine' dcb_isO ?rd0 ?rd1 ?_); (case rd0 => with_unfolding_all exact rfl); (case rd1 => assumption))
  | (with_reducible refine dent_B ?_)
  | (with_reducible refine dent_not ?_)
  | (with_reducible refine dent_and ?_)
  | (with_reducible refine dent_or ?_)
  | (with_reducible refine dent_yes ?_)
  | (with_reducible refine dgs_nil ?_)
  | ((with_reducible refine' dgs_cons ?rd0 ?_); (case rd0 => exact fun _ => rfl))
  | ((with_reducible refine' dg_tup ?rd0 ?_); (case rd0 => with_unfolding_all exact rfl); simp only [List.map_cons, List.map_nil])
  | ((with_reducible refine' dg_unl ?rd0 ?rd1 ?_); (case rd0 => with_unfolding_all exact rfl); (case rd1 => with_unfolding_all exact rfl); simp only [List.map_cons, List.map_nil])
  | ((with_reducible refine' sg_sub ?rd0 ?rd1 ?_); (case rd0 => exact rfl); (case rd1 => exact rfl))
  | (with_reducible refine ds_next ?_)
  | (with_reducible refine ds_break ?_)
  | (with_reducible refine ds_cont ?_)
  | (with_reducible refine ds_ret ?_)
  | (with_reducible refine ds_retN ?_)
  | ((with_reducible refine' ss_app ?rd0 ?_); (case rd0 => exact rfl))
  | ((with_reducible refine' ss_ext ?rd0 ?_); (case rd0 => exact rfl))
  | (with_reducible refine ds_drop ?_)
  | (with_reducible refine ds_if ?_)
  | (with_reducible refine ds_par ?_)
  | (with_reducible refine ds_parO ?_)
  | (with_reducible refine ds_parP ?_)
  | (with_reducible refine ds_par3 ?_)
  | (with_reducible refine ex_xyz ?_)
  | ((with_reducible refine' ss_augA ?rd0 ?_); (case rd0 => exact rfl))
  | (with_reducible refine di_list ?_)
  | (with_reducible refine di_tup ?_)
  | (with_reducible refine di_rng1 ?_)
  | (with_reducible refine di_rng2 ?_)
  | (with_reducible refine di_zip ?_)
  | (with_reducible refine di_zipM ?_)
  | (with_reducible refine di_rev1 ?_)
  | (with_reducible refine di_rev2 ?_)
  | (with_reducible refine ex_T ?_)
  | ((with_reducible refine' ex_ds ?rd0 ?rd1 ?_); (case rd0 => with_unfolding_all exact rfl); (case rd1 => with_unfolding_all exact Nat.le_of_ble_eq_true rfl))
  | ((with_reducible refine' ex_dv ?rd0 ?_); (case rd0 => with_unfolding_all exact rfl))
  | ((with_reducible refine' ex_L ?rd0 ?_); (case rd0 => with_unfolding_all exact rfl))
  | (with_reducible refine rd_t ?_)
  | (with_reducible refine rd_f ?_)
  | (with_reducible refine rd_nt ?_)
  | (with_reducible refine rd_nf ?_)
  | ((with_reducible refine' se_rg ?rd0 ?_); (case rd0 => exact rfl))
  | ((with_reducible refine' sg_rg ?rd0 ?rd1 ?_); (case rd0 => first | exact True.intro | decide); (case rd1 => (dsimp only [List.set, wipeD, List.map, List.map_cons, List.map_nil]; try exact rfl)))
  | (with_reducible refine dcb_rgv ?_)
  | (with_reducible refine ex_rg ?_)
  | (with_reducible refine di_rgv ?_)
  | (with_reducible refine dop_isB ?_)
  | (with_reducible refine dop_notB ?_)
  | (with_reducible refine den_fld ?_)
  | ((with_reducible refine' ex_fld ?rd0 ?rd1 ?rd2 ?_); (case rd0 => with_unfolding_all exact rfl); (case rd1 => exact ⟨by assumption, by assumption⟩); (case rd2 => first | (with_reducible exact Fg.here) | (with_reducible exact (Fg.there (by decide +kernel) Fg.here)) | (with_reducible exact (Fg.there (by decide +kernel) (Fg.there (by decide +kernel) Fg.here))) | (with_reducible exact (Fg.there (by decide +kernel) (Fg.there (by decide +kernel) (Fg.there (by decide +kernel) Fg.here)))) | (with_reducible exact (Fg.there (by decide +kernel) (Fg.there (by decide +kernel) (Fg.there (by decide +kernel) (Fg.there (by decide +kernel) Fg.here))))) | (with_reducible exact (Fg.there (by decide +kernel) (Fg.there (by decide +kernel) (Fg.there (by decide +kernel) (Fg.there (by decide +kernel) (Fg.there (by decide +kernel) Fg.here)))))) | (with_reducible exact (Fg.there (by decide +kernel) (Fg.there (by decide +kernel) (Fg.there (by decide +kernel) (Fg.there (by decide +kernel) (Fg.there (by decide +kernel) (Fg.there (by decide +kernel) Fg.here))))))) | (with_reducible exact (Fg.there (by decide +kernel) (Fg.there (by decide +kernel) (Fg.there (by decide +kernel) (Fg.there (by decide +kernel) (Fg.there (by decide +kernel) (Fg.there (by decide +kernel) (Fg.there (by decide +kernel) Fg.here))))))))))
  | (with_reducible refine den_meth ?_)
  | ((with_reducible refine' ex_om ?rd0 ?rd1 ?_); (case rd0 => with_unfolding_all exact rfl); (case rd1 => repeat (first | exact Fn.nil | (refine' Fn.cons ?rne ?_; (case rne => decide +kernel)))))
  | (with_reducible refine den_prop ?_)
  | ((with_reducible refine' ex_op ?rd0 ?_); (case rd0 => with_unfolding_all exact rfl))
  | (with_reducible refine den_inst ?_)
  | ((with_reducible refine' den_make ?rd0 ?_); (case rd0 => assumption))
  | ((with_reducible refine' dop_ins ?rd0 ?rd1 ?_); (case rd0 => with_unfolding_all exact rfl); (case rd1 => with_unfolding_all exact rfl))
  | ((with_reducible refine' dop_insN ?rd0 ?rd1 ?_); (case rd0 => with_unfolding_all exact rfl); (case rd1 => with_unfolding_all exact rfl))
  | ((with_reducible refine' dop_insI ?rd0 ?_); (case rd0 => with_unfolding_all exact rfl))
  | ((with_reducible refine' dop_insNI ?rd0 ?_); (case rd0 => with_unfolding_all exact rfl))
  | ((with_reducible refine' dun_ins ?rd0 ?_); (case rd0 => with_unfolding_all exact rfl))
  | (with_reducible refine dop_leB ?_)
  | (with_reducible refine di_ks ?_)
  | (with_reducible refine den_join ?_)
  | (with_reducible refine den_revL ?_)
  | (with_reducible refine den_jd ?_)
  | (with_reducible refine denj_nil ?_)
  | (with_reducible refine denj_cons ?_)
  | (with_reducible refine den_fmt ?_)
  | (with_reducible refine den_maxd ?_)
  | (with_reducible refine di_enTS ?_)
  | (with_reducible refine di_enT ?_)
  | (with_reducible refine ex_T1 ?_)
  | (with_reducible refine den_skT ?_)
  | (with_reducible refine di_enL ?_)
  | ((with_reducible refine' den_callX2 ?rd0 ?_); (case rd0 => first | assumption | exact outE2.wt (by assumption) | exact WT.never))
  | ((with_reducible refine' den_methX ?rd0 ?_); (case rd0 => first | assumption | exact outE2.wt (by assumption) | exact WT.never))
  | ((with_reducible refine' den_opX ?rd0 ?_); (case rd0 => first | assumption | exact outE2.wt (by assumption) | exact WT.never))
  | ((with_reducible refine' den_instX ?rd0 ?_); (case rd0 => first | assumption | exact outE2.wt (by assumption) | exact WT.never))
  | ((with_reducible refine' den_makeX ?rd0 ?rd1 ?_); (case rd0 => first | assumption | exact outE2.wt (by assumption) | exact WT.never); (case rd1 => assumption))
  | ((with_reducible refine' ex_ob2 ?rd0 ?rd1 ?_); (case rd0 => with_unfolding_all exact rfl); (case rd1 => with_unfolding_all exact rfl))
  | ((with_reducible refine' dcb_strO ?rd0 ?_); (case rd0 => with_unfolding_all exact rfl)))
local macro_rules | `(tactic| walk_at "dw") => `(tactic| repeat walk_at "d1")
local macro_rules | `(tactic| walk_at "dgo") => `(tactic| repeat (first | walk_at "d1" | refine rd_yes rfl ?_ | refine rd_noN rfl ?_ | refine rd_brT (by rfl) ?_ | refine rd_brF (by rfl) ?_))
/-! ### words -/
def Sgw : DSp := fun xs t C => ∃ b : Int, xs = [.dat (.int b)] ∧ (0 ≤ b ∧ b ≤ 64) ∧ C (.dat (.int (2 ^ b.toNat - 1))) t
theorem pow_64 {b : Int} (h0 : 1 ≤ b) (h1 : b ≤ 64) : (2 : Int) ≤ 2 ^ b.toNat ∧ (2 : Int) ^ b.toNat ≤ 18446744073709551616 ∧ Bd 65 (2 ^ b.toNat) := by
  have a1 := Nat.pow_le_pow_right (n := 2) (by decide) (show 1 ≤ b.toNat by omega)
  have a2 := Nat.pow_le_pow_right (n := 2) (by decide) (show b.toNat ≤ 64 by omega)
  have e : ((2 ^ b.toNat : Nat) : Int) = 2 ^ b.toNat := by rw [Int.natCast_pow]; rfl
  have e64 : (2 : Nat) ^ 64 = 18446744073709551616 := by decide
  rw [e64] at a2
  have a1 : 2 ≤ 2 ^ b.toNat := a1
  refine ⟨by rw [← e]; omega, by rw [← e]; omega, two_pow_bd (by omega)⟩
def Stow : DSp := fun xs t C => ∃ x b : Int, xs = [.dat (.int x), .dat (.int b)] ∧ (0 ≤ b ∧ b ≤ 64) ∧ C (.dat (.int (x % 2 ^ b.toNat))) t
section
variable {P : Program} {w : World} {K : PySem.W.Frag} {mg : Str → Option Value} {base : Heap} {f f1 f2 f3 f4 f5 : Addr} {fd fd1 fd2 fd3 fd4 fd5 : FuncData}
theorem ok_gw (T : Top mg) (F : Fun K "greatest_word" "greatest_word" s_greatest_word f fd) : GOk P w K mg base 1 f fd ["width"] (spD K Sgw) := by
  refine okD F sc_greatest_word (fun h => ?_) (fun G cdv A outer s H E xs t C hq hr h => ?_)
  · obtain ⟨_, rfl, _⟩ := h
    rfl
  · obtain ⟨b, rfl, ⟨b0, b1⟩, hC⟩ := h
    refine ⟨_, (pss_one (ps_ret (pe_op op_sub (pe_op op_shlW pe_int (pv 0)) pe_int))), ?_⟩
    simp only [dst, n_greatest_word]
    walk_at "dw"
    rw [Int.one_mul]
    exact hC
theorem ok_tow (T : Top mg) (D_greatest_word : Df K mg "greatest_word" s_greatest_word ["width"] f1 fd1) (F : Fun K "to_word" "to_word" s_to_word f fd) : GOk P w K mg base 2 f fd ["number", "width"] (spD K Stow) := by
  have G_greatest_word : GOk P w K mg base 1 f1 fd1 _ (spD K Sgw) := ok_gw T D_greatest_word.fn
  refine okD F sc_to_word (fun h => ?_) (fun G cdv A outer s H E xs t C hq hr h => ?_)
  · obtain ⟨_, _, rfl, _⟩ := h
    rfl
  · obtain ⟨x, b, rfl, hb, hC⟩ := h
    refine ⟨_, (pss_one (ps_ret (pe_op op_andM' (pv 0) (callG D_greatest_word G_greatest_word (hr.mono (by omega)) hq (by rfl) (pa_cons (pv 1) pa_nil))))), ?_⟩
    simp only [dst, n_to_word]
    walk_at "dw"
    refine ⟨b, rfl, hb, ?_⟩
    walk_at "dw"
    refine dop_andM (n := b.toNat) rfl ?_
    walk_at "dw"
    exact hC
end
/-! ### widths, words -/
def Swi : DSp := fun xs t C => xs = [.drw] ∧ t ≤ 900000 ∧ ∀ b : Int, 1 ≤ b → b ≤ 64 → ∀ t', t' ≤ t + 2 → C (.dat (.int b)) t'
def Swo : DSp := fun xs t C => ∃ b : Int, xs = [.drw, .dat (.int b)] ∧ (1 ≤ b ∧ b ≤ 64) ∧ t ≤ 900000 ∧ ∀ v : Int, 0 ≤ v → v < 2 ^ b.toNat → ∀ t', t' ≤ t + 4 → C (.dat (.int v)) t'
theorem e1010 : (10 : Int) ^ (10 : Int).toNat = 10000000000 := by decide
section
variable {P : Program} {w : World} {K : PySem.W.Frag} {mg : Str → Option Value} {base : Heap} {f f1 f2 : Addr} {fd fd1 fd2 : FuncData}
theorem ok_width (T : Top mg) (D__law_next : Df K mg "_law_next" s__law_next ["_law_drawn", "_law_many"] f1 fd1) (D__law_one : Df K mg "_law_one" s__law_one ["_law_drawn", "_law_items"] f2 fd2) (F : Fun K "_law_width" "_law_width" s__law_width f fd) : GOk P w K mg base 3 f fd ["_law_drawn"] (spD K Swi) := by
  have G__law_next : GOk P w K mg base 1 f1 fd1 _ (spD K Sn) := okn T D__law_next.fn
  have G__law_one : GOk P w K mg base 2 f2 fd2 _ (spD K So) := oko T D__law_next D__law_one.fn
  refine okD F sc__law_width (fun h => ?_) (fun G cdv A outer s H E xs t C hq hr h => ?_)
  · obtain ⟨rfl, _⟩ := h
    rfl
  · obtain ⟨rfl, t1, hC⟩ := h
    refine ⟨_, (pss_one (ps_ret (callG D__law_one G__law_one (hr.mono (by omega)) hq (by rfl) (pa_cons (pv 0) (pa_cons (pe_lst (pa_cons pe_int (pa_cons pe_int (pa_cons pe_int (pa_cons pe_int (pa_cons pe_int (pa_cons pe_int (pa_cons pe_int (pa_cons pe_int (pa_cons pe_int (pa_cons pe_int (pa_cons (pe_op op_add pe_int (callG D__law_next G__law_next (hr.mono (by omega)) hq (by rfl) (pa_cons (pv 0) (pa_cons pe_int pa_nil)))) pa_nil)))))))))))) pa_nil))))), ?_⟩
    simp only [dst, n__law_width]
    walk_at "dw"
    refine ⟨_, rfl, by omega, by decide, by decide, fun v v0 v1 => ?_⟩
    walk_at "dw"
    intro p
    walk_at "dw"
    refine ⟨_, rfl, by omega, by simp, by simp, fun e he => ?_⟩
    have : ∃ b : Int, e = .int b ∧ 1 ≤ b ∧ b ≤ 64 := by
      simp only [List.mem_cons, List.not_mem_nil, or_false] at he
      rcases he with rfl | rfl | rfl | rfl | rfl | rfl | rfl | rfl | rfl | rfl | rfl <;> exact ⟨_, rfl, by omega, by omega⟩
    obtain ⟨b, rfl, b0, b1⟩ := this
    exact hC b b0 b1 _ (by omega)
theorem ok_word (T : Top mg) (D__law_next : Df K mg "_law_next" s__law_next ["_law_drawn", "_law_many"] f1 fd1) (D__law_one : Df K mg "_law_one" s__law_one ["_law_drawn", "_law_items"] f2 fd2) (F : Fun K "_law_word" "_law_word" s__law_word f fd) : GOk P w K mg base 3 f fd ["_law_drawn", "_law_width_here"] (spD K Swo) := by
  have G__law_next : GOk P w K mg base 1 f1 fd1 _ (spD K Sn) := okn T D__law_next.fn
  have G__law_one : GOk P w K mg base 2 f2 fd2 _ (spD K So) := oko T D__law_next D__law_one.fn
  refine okD F sc__law_word (fun h => ?_) (fun G cdv A outer s H E xs t C hq hr h => ?_)
  · obtain ⟨_, rfl, _⟩ := h
    rfl
  · obtain ⟨b, rfl, ⟨b1, b2⟩, t1, hC⟩ := h
    refine ⟨_, (pss_cons (ps_set (i := 2) sc__law_word.nd rfl (by first | exact Or.inl rfl | exact Or.inr rfl) (pe_op op_sub (pe_op op_shlW pe_int (pv 1)) pe_int))
      (pss_cons (ps_set (i := 3) sc__law_word.nd rfl (by first | exact Or.inl rfl | exact Or.inr rfl) (pe_op op_add (pe_op op_mulW (callG D__law_next G__law_next (hr.mono (by omega)) hq (by rfl) (pa_cons (pv 0) (pa_cons (pe_op op_pow pe_int pe_int) pa_nil))) (pe_op op_pow pe_int pe_int)) (callG D__law_next G__law_next (hr.mono (by omega)) hq (by rfl) (pa_cons (pv 0) (pa_cons (pe_op op_pow pe_int pe_int) pa_nil)))))
      (pss_cons (ps_set (i := 4) sc__law_word.nd rfl (by first | exact Or.inl rfl | exact Or.inr rfl) (pe_lst (pa_cons pe_int (pa_cons pe_int (pa_cons pe_int (pa_cons (pv 2) (pa_cons (pe_op op_sub (pv 2) pe_int) (pa_cons (pe_op op_fdivW (pv 2) pe_int) (pa_cons (pe_op op_add (pe_op op_fdivW (pv 2) pe_int) pe_int) (pa_cons (pe_op op_shlW pe_int (callG D__law_next G__law_next (hr.mono (by omega)) hq (by rfl) (pa_cons (pv 0) (pa_cons (pv 1) pa_nil)))) (pa_cons (pv 3) (pa_cons (pv 3) (pa_cons (pv 3) pa_nil)))))))))))))
      (pss_one (ps_ret (pe_op op_andM' (callG D__law_one G__law_one (hr.mono (by omega)) hq (by rfl) (pa_cons (pv 0) (pa_cons (pv 4) pa_nil))) (pv 2))))))), ?_⟩
    simp only [dst, n__law_word]
    have cp : CPowW 10 10 := by unfold CPowW; exact ⟨by decide, by decide +kernel⟩
    have ct : CDivW (1 * 2 ^ b.toNat - 1) 2 := divB (B := 2) (by decide) (by unfold Bd; decide)
    walk_at "dw"
    rw [e1010]
    refine ⟨_, rfl, by omega, by decide, by decide, fun u u0 u1 => ?_⟩
    have cm : CMulW u 10000000000 := mulB (A := 40) (B := 40) (bdn 40 (by omega) (by omega)) (by unfold Bd; decide)
    walk_at "dw"
    rw [e1010]
    refine ⟨_, rfl, by omega, by decide, by decide, fun v v0 v1 => ?_⟩
    walk_at "dw"
    refine ⟨_, rfl, by omega, by omega, by omega, fun z z0 z1 => ?_⟩
    walk_at "dw"
    intro p
    walk_at "dw"
    refine ⟨_, rfl, by omega, by simp, by simp, fun d hd => ?_⟩
    have : ∃ i : Int, d = .int i := by
      simp only [List.mem_cons, List.not_mem_nil, or_false] at hd
      rcases hd with rfl | rfl | rfl | rfl | rfl | rfl | rfl | rfl | rfl | rfl | rfl <;> exact ⟨_, rfl⟩
    obtain ⟨i, rfl⟩ := this
    walk_at "dw"
    refine dop_andM (n := b.toNat) (by rw [Int.one_mul]) ?_
    have p0 : (0 : Int) < 2 ^ b.toNat := Int.pow_pos (by decide)
    exact hC _ (Int.emod_nonneg _ (by omega)) (Int.emod_lt_of_pos _ p0) _ (by omega)
end
/-! ### a Mask -/
open PySem.W (kbt_halves kbt_pos)
abbrev mkD (c : Addr) (w l g : Int) : PyData := obD c [(.str "_width", .int w), (.str "_least", .int l), (.str "_greatest", .int g)]
structure InM (w l g : Int) : Prop where
  w1 : 1 ≤ w
  w2 : w ≤ 64
  wl : Wd w.toNat l
  wg : Wd w.toNat g
  s : Sub w.toNat l g
theorem InM.mask {w : Int} (low o : Int) (h1 : 1 ≤ w) (h2 : w ≤ 64) : InM w (lsM w.toNat low o) (grM w.toNat low o) := ⟨h1, h2, .lsM _ _ _, .grM _ _ _, .mask _ _ _⟩
theorem InM.same {w x : Int} (h1 : 1 ≤ w) (h2 : w ≤ 64) (h : Wd w.toNat x) : InM w x x := ⟨h1, h2, h, h, fun _ _ => Int.le_refl _⟩
theorem Wd.andL : ∀ {w : Nat} {x : Int} (y : Int), Wd w x → Wd w (Builtin.bitAnd x y)
  | 0, x, y, h => by
    obtain ⟨a, b⟩ := h
    have e : (2 : Int) ^ 0 = 1 := rfl
    rw [e] at b
    have ex : x = 0 := by omega
    subst ex
    refine ⟨?_, ?_⟩ <;> rw [show Builtin.bitAnd 0 y = 0 from by rw [bitAnd_comm]; have := PySem.W.kbt_mask y 0; rw [show (2 : Int) ^ 0 - 1 = 0 from rfl, show (2 : Int) ^ 0 = 1 from rfl, Int.emod_one] at this; exact this] <;> decide
  | w + 1, x, y, h => by
    obtain ⟨a, b⟩ := Wd.andL (y / 2) h.half
    have := kbt_halves x y
    refine ⟨by split at this <;> omega, ?_⟩
    rw [p2s]
    split at this <;> omega
theorem and_not {w : Nat} {l g : Int} (hl : Wd w l) (h : Sub w l g) : Builtin.bitAnd l (Builtin.bitNot g) = 0 := (hl.andL _).ext (.zero w) fun k hk => by
  have := h k hk
  rw [bt_and, bt_not, bt_zero, if_neg]
  rintro ⟨a, b⟩
  omega
def Siwd : DSp := fun xs t C => ∃ w : Int, xs = [.dat (.int w)] ∧ (1 ≤ w ∧ w ≤ 64) ∧ C (.dat (.bool true)) t
def Sisw : DSp := fun xs t C => ∃ x w : Int, xs = [.dat (.int x), .dat (.int w)] ∧ (Wd w.toNat x ∧ 1 ≤ w ∧ w ≤ 64) ∧ C (.dat (.bool true)) t
def Sini : ISp := fun xs t CC => ∃ w l g : Int, xs = [.dat (.int w), .dat (.int l), .dat (.int g)] ∧ InM w l g ∧ CC [(.str "_width", .int w), (.str "_least", .int l), (.str "_greatest", .int g)] t
def Swid (c : Addr) : DSp := fun xs t C => ∃ w l g : Int, xs = [.dat (mkD c w l g)] ∧ C (.dat (.int w)) t
def Slea (c : Addr) : DSp := fun xs t C => ∃ w l g : Int, xs = [.dat (mkD c w l g)] ∧ C (.dat (.int l)) t
def Sgre (c : Addr) : DSp := fun xs t C => ∃ w l g : Int, xs = [.dat (mkD c w l g)] ∧ C (.dat (.int g)) t
def Sopn (c : Addr) : DSp := fun xs t C => ∃ w l g : Int, xs = [.dat (mkD c w l g)] ∧ C (.dat (.int (Builtin.bitXor l g))) t
def Ssgn (c : Addr) : DSp := fun xs t C => ∃ (w l g : Int) (k : Nat), xs = [.dat (mkD c w l g), .dat (.int (k : Int))] ∧ k < 64 ∧ C (.dat (.str (sgT l g k))) t
def Sreq (c cU : Addr) : XSp2 := fun xs t C CE => ∃ w l g w' l' g' : Int, xs = [.dat (mkD c w l g), .dat (mkD c w' l' g')] ∧ (w ≠ w' → CE cU none t) ∧ (w = w' → C (.dat .none) t)
section
variable {P : Program} {w : World} {K : PySem.W.Frag} {mg : Str → Option Value} {base : Heap} {c cU f f1 f2 f3 f4 f5 f6 f7 f8 f9 f10 f11 f12 f13 f14 : Addr} {fd fd1 fd2 fd3 fd4 fd5 fd6 fd7 fd8 fd9 fd10 fd11 fd12 fd13 fd14 : FuncData}
theorem ok_iwd (T : Top mg) (D_is_integer : Df K mg "is_integer" s_is_integer ["value"] f1 fd1) (D_is_integer_within : Df K mg "is_integer_within" s_is_integer_within ["value", "low", "high"] f2 fd2)
    (F : Fun K "is_width" "is_width" s_is_width f fd) : GOk P w K mg base 3 f fd ["value"] (spD K Siwd) := by
  have G_is_integer_within : GOk P w K mg base 2 f2 fd2 _ (spD K Siw) := ok_iw T D_is_integer D_is_integer_within.fn
  refine okD F sc_is_width (fun h => ?_) (fun G cdv A outer s H E xs t C hq hr h => ?_)
  · obtain ⟨_, rfl, _⟩ := h
    rfl
  · obtain ⟨w, rfl, ⟨w0, w1⟩, hC⟩ := h
    refine ⟨_, (pss_one (ps_ret (callG D_is_integer_within G_is_integer_within (hr.mono (by omega)) hq (by rfl) (pa_cons (pv 0) (pa_cons pe_int (pa_cons (pe_globI T.g_WIDTH (by rfl)) pa_nil)))))), ?_⟩
    simp only [dst, n_is_width]
    walk_at "dw"
    refine ⟨_, _, _, rfl, ?_⟩
    rw [show inW 1 64 (.int w) = true from by simp [inW, w0, w1]]
    exact hC
theorem ok_isw (T : Top mg) (D_is_integer : Df K mg "is_integer" s_is_integer ["value"] f1 fd1) (D_is_integer_within : Df K mg "is_integer_within" s_is_integer_within ["value", "low", "high"] f2 fd2)
    (D_greatest_word : Df K mg "greatest_word" s_greatest_word ["width"] f3 fd3)
    (F : Fun K "is_word" "is_word" s_is_word f fd) : GOk P w K mg base 3 f fd ["value", "width"] (spD K Sisw) := by
  have G_is_integer_within : GOk P w K mg base 2 f2 fd2 _ (spD K Siw) := ok_iw T D_is_integer D_is_integer_within.fn
  have G_greatest_word : GOk P w K mg base 1 f3 fd3 _ (spD K Sgw) := ok_gw T D_greatest_word.fn
  refine okD F sc_is_word (fun h => ?_) (fun G cdv A outer s H E xs t C hq hr h => ?_)
  · obtain ⟨_, _, rfl, _⟩ := h
    rfl
  · obtain ⟨x, w, rfl, ⟨⟨x0, x1⟩, w0, w1⟩, hC⟩ := h
    refine ⟨_, (pss_one (ps_ret (callG D_is_integer_within G_is_integer_within (hr.mono (by omega)) hq (by rfl) (pa_cons (pv 0) (pa_cons pe_int (pa_cons (callG D_greatest_word G_greatest_word (hr.mono (by omega)) hq (by rfl) (pa_cons (pv 1) pa_nil)) pa_nil)))))), ?_⟩
    simp only [dst, n_is_word]
    walk_at "dw"
    refine ⟨w, rfl, by omega, ?_⟩
    walk_at "dw"
    refine ⟨_, _, _, rfl, ?_⟩
    rw [show inW 0 (2 ^ w.toNat - 1) (.int x) = true from by simp [inW]; omega]
    exact hC
theorem ok_mini (T : Top mg) (CL_Mask : Cls K c) (NO_Mask__width : NoAttr K c "_width") (NO_Mask__least : NoAttr K c "_least") (NO_Mask__greatest : NoAttr K c "_greatest")
    (D_is_integer : Df K mg "is_integer" s_is_integer ["value"] f1 fd1) (D_is_integer_within : Df K mg "is_integer_within" s_is_integer_within ["value", "low", "high"] f2 fd2)
    (D_greatest_word : Df K mg "greatest_word" s_greatest_word ["width"] f3 fd3) (D_is_width : Df K mg "is_width" s_is_width ["value"] f4 fd4) (D_is_word : Df K mg "is_word" s_is_word ["value", "width"] f5 fd5)
    (F : Fun K "__init__" "Mask.__init__" s_Mask_init f fd) : GOk P w K mg base 4 f fd ["self", "width", "least", "greatest"] (spI K c Sini) := by
  have G_is_width : GOk P w K mg base 3 f4 fd4 _ (spD K Siwd) := ok_iwd T D_is_integer D_is_integer_within D_is_width.fn
  have G_is_word : GOk P w K mg base 3 f5 fd5 _ (spD K Sisw) := ok_isw T D_is_integer D_is_integer_within D_greatest_word D_is_word.fn
  refine okI F sc_Mask_init (fun h => ?_) (fun G a dx cdv A outer s H E xs t CC hq hr h B => ?_)
  · obtain ⟨_, _, _, rfl, _⟩ := h
    rfl
  · obtain ⟨w, l, g, rfl, hI, hC⟩ := h
    refine ⟨_, (pss_cons (ps_if (pt_not (pt_val (callG D_is_width G_is_width (hr.mono (by omega)) hq (by rfl) (pa_cons (pv 1) pa_nil))))
       (pss_one (ps_never))
       pss_nil)
      (pss_cons (ps_for PassesOwn.never rfl (pit_k (K := K) rfl (pe_tup (pa_cons (pv 2) (pa_cons (pv 3) pa_nil)))) (pg_name (i := 4) sc_Mask_init.nd rfl (by first | exact Or.inl rfl | exact Or.inr rfl))
       (pss_one (ps_if (pt_not (pt_val (callG D_is_word G_is_word (hr.mono (by omega)) hq (by rfl) (pa_cons (pv 4) (pa_cons (pv 1) pa_nil)))))
         (pss_one (ps_never))
         pss_nil)))
      (pss_cons (ps_if (pt_cmpR op_ne (pe_op op_and (pv 2) (pe_un un_inv (pv 3))) pe_int (nomark _))
       (pss_one (ps_never))
       pss_nil)
      (pss_cons (sfld_k (K := K) rfl (pv 0) (pv 1) rfl)
      (pss_cons (sfld_k (K := K) rfl (pv 0) (pv 2) rfl)
      (pss_one (sfld_k (K := K) rfl (pv 0) (pv 3) rfl))))))), ?_⟩
    simp only [dst, n_Mask_init]
    refine dsg_seq (dsg_of ?_)
    walk_at "dgo"
    refine ⟨w, rfl, ⟨hI.w1, hI.w2⟩, ?_⟩
    walk_at "dgo"
    refine dsg_seq (dsg_of ?_)
    refine ds_for ?_
    walk_at "dgo"
    refine ⟨fun i δ t2 => t2 = t ∧ ∃ x : Sl, (x = .any ∨ ∃ n : Int, x = .dat (.int n)) ∧ δ = [.raw (V.ref a), .dat (.int w), .dat (.int l), .dat (.int g), x], ⟨rfl, _, .inl rfl, rfl⟩, ?_, ?_⟩
    · rintro i d δ2 t2 hi ⟨rfl, x, _, rfl⟩ τ2
      obtain ⟨n, rfl, hn⟩ : ∃ n : Int, d = .int n ∧ Wd w.toNat n := by
        have := List.mem_of_getElem? hi
        simp only [List.mem_cons, List.not_mem_nil, or_false] at this
        rcases this with rfl | rfl
        · exact ⟨_, rfl, hI.wl⟩
        · exact ⟨_, rfl, hI.wg⟩
      walk_at "dgo"
      refine ⟨n, w, rfl, ⟨hn, hI.w1, hI.w2⟩, ?_⟩
      walk_at "dgo"
      exact ⟨rfl, _, .inr ⟨_, rfl⟩, rfl⟩
    rintro δ2 t2 ⟨rfl, x, hx, rfl⟩
    have z := and_not hI.wl hI.s
    rcases hx with rfl | ⟨n, rfl⟩
    all_goals
      refine dsg_seq (dsg_of ?_)
      walk_at "dgo"
      rw [z]
      walk_at "dgo"
      refine dsg_seq (dsg_fld B (by simp) .nil ⟨CL_Mask, NO_Mask__width⟩ ?_)
      walk_at "dw"
      refine ⟨rfl, fun G1 U1 B1 => ?_⟩
      simp only [List.map, Sl.soft]
      refine dsg_seq (dsg_fld B1 (by simp) (.cons (by decide +kernel) .nil) ⟨CL_Mask, NO_Mask__least⟩ ?_)
      walk_at "dw"
      refine ⟨rfl, fun G2 U2 B2 => ?_⟩
      simp only [List.map, Sl.soft]
      refine dsg_fld B2 (by simp) (.cons (by decide +kernel) (.cons (by decide +kernel) .nil)) ⟨CL_Mask, NO_Mask__greatest⟩ ?_
      walk_at "dw"
      refine ⟨rfl, fun G3 U3 B3 => ?_⟩
      exact ⟨_, hC, (U1.trans U2).trans U3, B3⟩
theorem ok_mwid (T : Top mg) (CL_Mask : Cls K c) (NO_Mask__width : NoAttr K c "_width") (F : Fun K "width" "Mask.width" s_Mask_width f fd) : GOk P w K mg base 1 f fd ["self"] (spD K (Swid c)) := by
  refine okD F sc_Mask_width (fun h => ?_) (fun G cdv A outer s H E xs t C hq hr h => ?_)
  · obtain ⟨_, _, _, rfl, _⟩ := h
    rfl
  · obtain ⟨w, l, g, rfl, hC⟩ := h
    refine ⟨_, (pss_one (ps_ret (fld_k (K := K) rfl (pv 0) rfl))), ?_⟩
    simp only [dst, n_Mask_width]
    walk_at "dgo"
    exact hC
theorem ok_mlea (T : Top mg) (CL_Mask : Cls K c) (NO_Mask__least : NoAttr K c "_least") (F : Fun K "least" "Mask.least" s_Mask_least f fd) : GOk P w K mg base 1 f fd ["self"] (spD K (Slea c)) := by
  refine okD F sc_Mask_least (fun h => ?_) (fun G cdv A outer s H E xs t C hq hr h => ?_)
  · obtain ⟨_, _, _, rfl, _⟩ := h
    rfl
  · obtain ⟨w, l, g, rfl, hC⟩ := h
    refine ⟨_, (pss_one (ps_ret (fld_k (K := K) rfl (pv 0) rfl))), ?_⟩
    simp only [dst, n_Mask_least]
    walk_at "dgo"
    exact hC
theorem ok_mgre (T : Top mg) (CL_Mask : Cls K c) (NO_Mask__greatest : NoAttr K c "_greatest") (F : Fun K "greatest" "Mask.greatest" s_Mask_greatest f fd) : GOk P w K mg base 1 f fd ["self"] (spD K (Sgre c)) := by
  refine okD F sc_Mask_greatest (fun h => ?_) (fun G cdv A outer s H E xs t C hq hr h => ?_)
  · obtain ⟨_, _, _, rfl, _⟩ := h
    rfl
  · obtain ⟨w, l, g, rfl, hC⟩ := h
    refine ⟨_, (pss_one (ps_ret (fld_k (K := K) rfl (pv 0) rfl))), ?_⟩
    simp only [dst, n_Mask_greatest]
    walk_at "dgo"
    exact hC
theorem ok_mopn (T : Top mg) (CL_Mask : Cls K c) (NO_Mask__least : NoAttr K c "_least") (NO_Mask__greatest : NoAttr K c "_greatest") (F : Fun K "_open_bits" "Mask._open_bits" s_Mask_open_bits f fd) : GOk P w K mg base 1 f fd ["self"] (spD K (Sopn c)) := by
  refine okD F sc_Mask_open_bits (fun h => ?_) (fun G cdv A outer s H E xs t C hq hr h => ?_)
  · obtain ⟨_, _, _, rfl, _⟩ := h
    rfl
  · obtain ⟨w, l, g, rfl, hC⟩ := h
    refine ⟨_, (pss_one (ps_ret (pe_op op_xor (fld_k (K := K) rfl (pv 0) rfl) (fld_k (K := K) rfl (pv 0) rfl)))), ?_⟩
    simp only [dst, n_Mask_open_bits]
    walk_at "dgo"
    exact hC
theorem ok_msgn (T : Top mg) (CL_Mask : Cls K c) (NO_Mask__least : NoAttr K c "_least")
    (D_Mask_open_bits : Mt K c "_open_bits" "Mask._open_bits" s_Mask_open_bits ["self"] f1 fd1) (G_Mask_open_bits : GOk P w K mg base 1 f1 fd1 ["self"] (spD K (Sopn c)))
    (F : Fun K "_sign_at" "Mask._sign_at" s_Mask_sign_at f fd) : GOk P w K mg base 2 f fd ["self", "place"] (spD K (Ssgn c)) := by
  refine okD F sc_Mask_sign_at (fun h => ?_) (fun G cdv A outer s H E xs t C hq hr h => ?_)
  · obtain ⟨_, _, _, _, rfl, _⟩ := h
    rfl
  · obtain ⟨w, l, g, k, rfl, hk, hC⟩ := h
    refine ⟨_, (pss_cons (ps_if (pt_cmpR op_eq (pe_op op_andM' (pe_op op_shr (methG0 D_Mask_open_bits G_Mask_open_bits (hr.mono (by omega)) hq (pv 0)) (pv 1)) pe_int) pe_int (nomark _))
       (pss_one (ps_ret pe_str))
       pss_nil)
      (pss_one (ps_ret (pe_callTy str_1 (by rfl) T.z_str (by decide +kernel) (pa_cons (pe_op op_andM' (pe_op op_shr (fld_k (K := K) rfl (pv 0) rfl) (pv 1)) pe_int) pa_nil))))), ?_⟩
    simp only [dst, n_Mask_sign_at]
    walk_at "dw"
    refine ⟨w, l, g, rfl, ?_⟩
    walk_at "dgo"
    refine dop_andM (n := 1) rfl ?_
    rw [Int.toNat_natCast]
    have e : Builtin.bitXor l g / 2 ^ k % 2 ^ 1 = bt k (Builtin.bitXor l g) := rfl
    rw [e, bt_xor]
    unfold sgT at hC
    by_cases eq : bt k l = bt k g
    · rw [if_pos eq]
      rw [if_pos eq] at hC
      walk_at "dgo"
      refine dop_andM (n := 1) rfl ?_
      rw [Int.toNat_natCast]
      have e : l / 2 ^ k % 2 ^ 1 = bt k l := rfl
      rw [e]
      rcases bt_01 k l with z | z
      · rw [z] at hC ⊢
        walk_at "dgo"
        exact dcb_strI (by decide) hC
      · rw [z] at hC ⊢
        walk_at "dgo"
        exact dcb_strI (by decide) hC
    · rw [if_neg eq]
      rw [if_neg eq] at hC
      walk_at "dgo"
      exact hC
/-- the text of a mask -/
def msL (w l g : Int) : List Str := ((List.range w.toNat).map (sgT l g)).reverse
theorem sgT_len (l g : Int) (k : Nat) : (sgT l g k).length = 1 := by
  unfold sgT
  split
  · split <;> decide +kernel
  · decide +kernel
theorem ones_sum : ∀ {ys : List Str}, (∀ y, y ∈ ys → y.length = 1) → (ys.map (·.length)).sum = ys.length
  | [], _ => rfl
  | y :: ys, h => by
    rw [List.map_cons, List.sum_cons, ones_sum fun z hz => h z (List.mem_cons_of_mem _ hz), h y List.mem_cons_self, List.length_cons]
    omega
theorem msL_len (w l g : Int) : (msL w l g).length = w.toNat := by simp [msL]
theorem msL_ones {w l g : Int} : ∀ y, y ∈ msL w l g → y.length = 1 := fun y hy => by
  unfold msL at hy
  simp only [List.mem_reverse, List.mem_map] at hy
  obtain ⟨k, _, rfl⟩ := hy
  exact sgT_len l g k
def sgD (l g : Int) : PyData → PyData
  | .int i => .str (sgT l g i.toNat)
  | _ => .none
theorem msL_rng {w l g : Int} : (rngC (0 + ((w.toNat : Nat) : Int) - 1) (-1) w.toNat).map (sgD l g) = (msL w l g).map PyData.str := by
  apply List.ext_getElem
  · simp [msL, rngC]
  · intro i h1 h2
    have hi : i < w.toNat := by simpa [rngC] using h1
    simp only [rngC, msL, List.getElem_map, List.getElem_range, List.getElem_reverse, List.length_map, List.length_range, sgD]
    congr 2
    omega
theorem ok_mstr (T : Top mg) (CL_Mask : Cls K c) (NO_Mask__width : NoAttr K c "_width")
    (D_Mask_sign_at : Mt K c "_sign_at" "Mask._sign_at" s_Mask_sign_at ["self", "place"] f1 fd1) (G_Mask_sign_at : GOk P w K mg base 2 f1 fd1 ["self", "place"] (spD K (Ssgn c)))
    (F : Fun K "__str__" "Mask.__str__" s_Mask_str f fd) : GOk P w K mg base 3 f fd ["self"] (spD K fun xs t C => ∃ w l g : Int, xs = [.dat (mkD c w l g)] ∧ InM w l g ∧ C (.dat (.str (Txt.join "" (msL w l g)))) t) := by
  refine okD F sc_Mask_str (fun h => ?_) (fun G cdv A outer s H E xs t C hq hr h => ?_)
  · obtain ⟨_, _, _, rfl, _⟩ := h
    rfl
  · obtain ⟨w, l, g, rfl, hI, hC⟩ := h
    refine ⟨_, (pss_one (ps_ret (join_k (K := K) rfl pe_str (pe_lc (own := [("place", 1)]) (g := _) (tt := tYes) (by rfl) sc_Mask_str.nd (pi_revR (by rfl) T.z_reversed (prg_1 (by rfl) T.z_range (fld_k (K := K) rfl (pv 0) rfl))) (blkOk_by (own := [("place", 1)]) (N := n_Mask_str) (sc := defScope s_Mask_str) (by decide +kernel)) (fun _ _ _ _ _ => (pg_name (i := 1) sc_Mask_str.nd rfl (by first | exact Or.inl rfl | exact Or.inr rfl))) (fun _ _ _ _ _ => pts_nil) (fun _ _ _ _ _ => (methG D_Mask_sign_at G_Mask_sign_at (hr.mono (by omega)) hq (pv 0) (pa_cons (pv 1) pa_nil))))))), ?_⟩
    simp only [dst, n_Mask_str]
    have h1 := hI.w1
    have h2 := hI.w2
    walk_at "dgo"
    refine ⟨_, rfl, ?_⟩
    refine den_lcM (sgD l g) ?_
    walk_at "dgo"
    rw [Int.sub_zero]
    refine ⟨by omega, by rw [rngC_len]; omega, fun d hd τ2 => ?_, fun p => ⟨msL w l g, by rw [msL_rng]; rfl, ?_, hC⟩⟩
    · obtain ⟨k, hk, rfl⟩ : ∃ k : Nat, k < 64 ∧ d = .int (k : Int) := by
        obtain ⟨i, hi⟩ := List.getElem?_of_mem hd
        obtain ⟨h3, e⟩ := rngC_at hi
        refine ⟨w.toNat - 1 - i, by omega, ?_⟩
        rw [e]
        congr 1
        omega
      walk_at "dgo"
      refine ⟨w, l, g, k, rfl, hk, ?_⟩
      exact ⟨by show some _ = some (PyData.str (sgT l g (k : Int).toNat)); rw [Int.toNat_natCast], rfl, rfl⟩
    · rw [ones_sum msL_ones, msL_len]
      show _ + _ * 0 ≤ _
      omega
theorem ok_mreq (T : Top mg) (CL_Mask : Cls K c) (NO_Mask__width : NoAttr K c "_width") (EN_UnequalWidths : ErrN K mg "UnequalWidths" cU)
    (F : Fun K "_require_width_of" "Mask._require_width_of" s_Mask_require_width_of f fd) : GOkX P w K mg base 2 f fd ["self", "other"] (spDX2 K (Sreq c cU)) := by
  refine okDX2 F sc_Mask_require_width_of (fun h => ?_) (fun G cdv A outer s H E xs t C CE hq hr h hE => ?_)
  · obtain ⟨_, _, _, _, _, _, rfl, _⟩ := h
    rfl
  · obtain ⟨w, l, g, w', l', g', rfl, hU, hC⟩ := h
    refine ⟨_, (pss_one (ps_if (pt_cmpR op_ne (fld_k (K := K) rfl (pv 0) rfl) (fld_k (K := K) rfl (pv 1) rfl) (nomark _))
       (pss_one (psRaise0 EN_UnequalWidths rfl (takes_of rfl rfl rfl rfl) (by rfl)))
       pss_nil)), ?_⟩
    simp only [dst, n_Mask_require_width_of]
    walk_at "dgo"
    refine rd_ndec (fun h => ?_) fun h => ?_
    · walk_at "dgo"
      exact ds_raise0 hE (hU (by first | exact h | simpa using h))
    · obtain rfl : w = w' := by first | exact h | simpa using h
      walk_at "dgo"
      exact hC rfl
end
/-! ### drawn ends -/
theorem sub_ao (w : Nat) (x y z : Int) : Sub w (Builtin.bitAnd x y) (Builtin.bitOr x z) := fun k _ => by
  rw [bt_and, bt_or]
  rcases bt_01 k x with a | a <;> simp [a]
  · split <;> omega
  · split <;> omega
theorem Wd.pow {w k : Nat} (h : k < w) : Wd w (2 ^ k) := ⟨Int.le_of_lt (PySem.W.kbt_pos k), by
  have h1 := Nat.pow_lt_pow_right (a := 2) (by decide) h
  have e : ∀ n : Nat, ((2 ^ n : Nat) : Int) = 2 ^ n := fun n => by rw [Int.natCast_pow]; rfl
  rw [← e, ← e]
  omega⟩
def Sen : DSp := fun xs t C => ∃ b : Int, xs = [.drw, .dat (.int b)] ∧ (1 ≤ b ∧ b ≤ 64) ∧ t ≤ 800000 ∧ ∀ l g : Int, InM b l g → ∀ t', t' ≤ t + 12 → C (.dat (.tuple [.int l, .int g])) t'
section
variable {P : Program} {w : World} {K : PySem.W.Frag} {mg : Str → Option Value} {base : Heap} {c cU f f1 f2 f3 f4 f5 f6 f7 f8 f9 f10 f11 f12 f13 f14 : Addr} {fd fd1 fd2 fd3 fd4 fd5 fd6 fd7 fd8 fd9 fd10 fd11 fd12 fd13 fd14 : FuncData}
theorem ok_len (T : Top mg) (D__law_next : Df K mg "_law_next" s__law_next ["_law_drawn", "_law_many"] f1 fd1) (D__law_one : Df K mg "_law_one" s__law_one ["_law_drawn", "_law_items"] f2 fd2) (D__law_word : Df K mg "_law_word" s__law_word ["_law_drawn", "_law_width_here"] f3 fd3)
    (F : Fun K "_law_ends" "_law_ends" s__law_ends f fd) : GOk P w K mg base 4 f fd ["_law_drawn", "_law_width_here"] (spD K Sen) := by
  have G__law_next : GOk P w K mg base 1 f1 fd1 _ (spD K Sn) := okn T D__law_next.fn
  have G__law_word : GOk P w K mg base 3 f3 fd3 _ (spD K Swo) := ok_word T D__law_next D__law_one D__law_word.fn
  refine okD F sc__law_ends (fun h => ?_) (fun G cdv A outer s H E xs t C hq hr h => ?_)
  · obtain ⟨_, rfl, _⟩ := h
    rfl
  · obtain ⟨b, rfl, ⟨b1, b2⟩, t1, hC⟩ := h
    refine ⟨_, (pss_cons (ps_par3 (i := 2) (j := 3) (l := 4) (by rfl) sc__law_ends.nd rfl rfl rfl (by decide) (by decide) (by decide) rfl rfl rfl (pa_cons (callG D__law_word G__law_word (hr.mono (by omega)) hq (by rfl) (pa_cons (pv 0) (pa_cons (pv 1) pa_nil))) (pa_cons (callG D__law_word G__law_word (hr.mono (by omega)) hq (by rfl) (pa_cons (pv 0) (pa_cons (pv 1) pa_nil))) (pa_cons (callG D__law_next G__law_next (hr.mono (by omega)) hq (by rfl) (pa_cons (pv 0) (pa_cons pe_int pa_nil))) pa_nil))) (by rfl))
      (pss_cons (ps_if (pt_cmpR op_lt (pv 4) pe_int (nomark _))
       (pss_one (ps_ret (pe_ix (ixl_k (K := K) rfl) (pe_lst (pa_cons (pe_tup (pa_cons (pv 2) (pa_cons (pv 2) pa_nil))) (pa_cons (pe_tup (pa_cons pe_int (pa_cons (pe_op op_sub (pe_op op_shlW pe_int (pv 1)) pe_int) pa_nil))) pa_nil))) (pv 4) (fun _ _ => rfl))))
       pss_nil)
      (pss_cons (ps_if (pt_cmpR op_eq (pv 4) pe_int (nomark _))
       (pss_one (ps_ret (pe_tup (pa_cons (pe_op op_and (pv 2) (pe_un un_inv (pe_op op_shlW pe_int (pe_op op_sub (pv 1) pe_int)))) (pa_cons (pe_op op_or (pv 2) (pe_op op_shlW pe_int (pe_op op_sub (pv 1) pe_int))) pa_nil)))))
       pss_nil)
      (pss_one (ps_ret (pe_tup (pa_cons (pe_op op_and (pv 2) (pv 3)) (pa_cons (pe_op op_or (pv 2) (pv 3)) pa_nil)))))))), ?_⟩
    simp only [dst, n__law_ends]
    walk_at "dw"
    refine ⟨b, rfl, ⟨b1, b2⟩, by omega, fun x x0 x1 t2 ht2 => ?_⟩
    walk_at "dw"
    refine ⟨b, rfl, ⟨b1, b2⟩, by omega, fun y y0 y1 t3 ht3 => ?_⟩
    walk_at "dw"
    refine ⟨_, rfl, by omega, by decide, by decide, fun z z0 z1 => ?_⟩
    walk_at "dw"
    have wx : Wd b.toNat x := ⟨x0, x1⟩
    have wy : Wd b.toNat y := ⟨y0, y1⟩
    refine rd_dec (fun h => ?_) fun h => ?_
    · obtain rfl | rfl : z = 0 ∨ z = 1 := by omega
      · walk_at "dgo"
        intro p
        walk_at "dgo"
        refine dop_ixL rfl rfl ?_
        refine hC _ _ (.same b1 b2 wx) _ ?_
        omega
      · walk_at "dgo"
        intro p
        walk_at "dgo"
        refine dop_ixL rfl rfl ?_
        rw [Int.one_mul]
        refine hC _ _ ⟨b1, b2, .zero _, .top _, fun k hk => by rw [bt_zero, bt_top hk]; decide⟩ _ ?_
        omega
    · have wh : Wd b.toNat (1 * 2 ^ (b - 1).toNat) := by
        rw [Int.one_mul]
        exact .pow (by omega)
      walk_at "dw"
      refine rd_dec (fun h => ?_) fun h => ?_
      · walk_at "dw"
        exact hC _ _ ⟨b1, b2, wx.andL _, wx.or wh, sub_ao _ _ _ _⟩ _ (by omega)
      · walk_at "dw"
        exact hC _ _ ⟨b1, b2, wx.and wy, wx.or wy, sub_ao _ _ _ _⟩ _ (by omega)
end
def Strue (n : Nat) : DSp := fun xs t C => xs = [.drw] ∧ t ≤ 700000 ∧ ∀ t', t' ≤ t + n → C (.dat (.bool true)) t'
structure Cl65 (K : PySem.W.Frag) (mg : Str → Option Value) (cU cE : Addr) : Prop where
  c_WordError : mg "WordError" = some (.ref cE)
  xUE : PySem.W.exmOne K (.ref cU) (.ref cE) = some true
  kUU : PySem.W.kitOne K (.ref cU) (.ref cU) = some true
  kUL : PySem.W.kitOne K (.ref cU) (.type "LookupError") = some false
end Lw

set_option Elab.async false
set_option linter.all false
set_option maxRecDepth 100000
set_option maxHeartbeats 4000000
set_option pp.deepTerms false
set_option pp.deepTerms.threshold 12
namespace Lw
open PySem PySem.Spec PyProof.Rows L2 Glay Dl
/-- what is asked of the numbers by the way -/
local macro_rules | `(tactic| walk_at "side") => `(tactic| first
  | rfl
  | decide
  | assumption
  | omega
  | (unfold CMul; omega)
  | (unfold CPowW; exact ⟨by decide, by decide +kernel⟩)
  | exact wide_mul (a := 1400) (b := 1400) (by decide +kernel) (by decide +kernel) (by decide) (by decide) (by decide)
  | exact wide_div (b := 64) (by decide) (by decide) (by decide) (by decide)
  | (unfold CMul; exact Or.inr ⟨by decide, by decide⟩)
  | (unfold CMul; exact Or.inl ⟨by decide, by decide⟩)
  | (unfold CPow; omega)
  | (unfold CPow; refine ⟨by omega, by omega, ?_⟩; omega))
local macro_rules | `(tactic| walk_at "one") => `(tactic| with_reducible first
  | (refine' rd_var ?rdh ?_; (case rdh => with_unfolding_all exact rfl))
  | refine rd_c ?_
  | refine rd_op ?_
  | refine rd_un ?_
  | refine rd_I0 ?_
  | refine rd_I (by walk_at "side") ?_
  | refine rd_U ?_
  | refine rd_seq ?_
  | refine rd_next ?_
  | refine rd_asg ?_
  | refine rd_name ?_
  | refine rd_par ?_
  | refine rd_par2 ?_
  | refine rd_ret ?_
  | refine rd_ifs ?_
  | refine rd_if ?_
  | refine rd_test ?_
  | refine rd_B ?_
  | refine rd_not ?_
  | refine rd_and ?_
  | refine rd_or ?_
  | refine rd_andV ?_
  | refine rd_orV ?_
  | refine rd_notV ?_
  | refine rd_chain ?_
  | refine rd_k ?_
  | refine rd_eq (by with_unfolding_all rfl) ?_
  | refine rd_ne (by with_unfolding_all rfl) ?_
  | refine rd_call ?_
  | refine rd_cb ?_
  | refine rd_nil ?_
  | refine rd_cons ?_
  | refine rd_lst ?_
  | refine rd_gcons ?_
  | refine rd_gnil ?_
  | refine rd_sub ?_
  | (refine' rd_ixL (SqL.of (by assumption)) ?rde ?_; (case rde => with_unfolding_all exact rfl))
  | refine rd_intI ?_
  | refine rd_intB ?_
  | refine rd_abs ?_
  | refine rd_sl ?_
  | refine rd_nopart ?_
  | refine rd_part ?_
  | refine rd_pi ?_
  | refine rd_nt ?_
  | refine rd_nf ?_
  | refine rd_t ?_
  | refine rd_f ?_
  | refine rd_for ?_
  | refine rd_max2 ?_
  | refine rd_izip ?_
  | refine rd_min2 ?_
  | (refine' rd_in (SqT.of (by assumption)) ?rdf ?rda ?_; (case rdf => with_unfolding_all rfl); (case rda => with_unfolding_all rfl))
  | refine rd_lc ?_
  | refine rd_itup ?_
  | refine rd_tyes ?_
  | (refine' rd_ixT (SqT.of (by assumption)) ?rde ?_; (case rde => first | exact at_head | with_unfolding_all exact rfl))
  | refine rd_ilist ?_
  | refine rd_irng ?_
  | refine rd_tup ?_)
local macro_rules | `(tactic| walk_at "rd") => `(tactic| repeat walk_at "one")
/-- one of two ways, by a written text -/
local macro_rules | `(tactic| walk_at "br") => `(tactic| first
  | refine rd_yes (by decide +kernel) ?_
  | refine rd_no (by decide +kernel) ?_
  | refine rd_yesN (by decide +kernel) ?_
  | refine rd_noN (by decide +kernel) ?_
  | refine rd_brT (by decide +kernel) ?_
  | refine rd_brF (by decide +kernel) ?_)
local macro_rules | `(tactic| walk_at "go") => `(tactic| repeat (first | walk_at "one" | walk_at "br"))
/-- the walk of readings told by data -/
local macro_rules | `(tactic| walk_at "side") => `(tactic| first | assumption | exact cshl1 (by omega) (by omega))
local macro_rules | `(tactic| walk_at "d1") => `(tactic| first
  | ((with_reducible refine' se_dat ?rd0 ?_); (case rd0 => exact rfl))
  | ((with_reducible refine' se_ixO ?rd0 ?_); (case rd0 => exact rfl))
  | ((with_reducible refine' se_lenO ?rd0 ?_); (case rd0 => exact rfl))
  | ((with_reducible refine' se_listO ?rd0 ?_); (case rd0 => exact rfl))
  | (with_reducible refine den_int ?_)
  | (with_reducible refine ds_seq ?_)
  | (with_reducible refine ds_asg ?_)
  | (with_reducible refine den_op ?_)
  | ((with_reducible refine' dop_I0 ?rd0 ?_); (case rd0 => first | exact .int _ | exact .bl _ | exact .str _))
  | ((with_reducible refine' dop_I ?rd0 ?rd1 ?_); (case rd0 => first | exact .int _ | exact .bl _ | exact .str _); (case rd1 => walk_at "side"))
  | (with_reducible refine dena_nil ?_)
  | (with_reducible refine dena_cons ?_)
  | (with_reducible refine den_call ?_)
  | (with_reducible refine den_callD ?_)
  | (with_reducible refine den_callN ?_)
  | (with_reducible refine den_sset ?_)
  | (with_reducible refine den_cb ?_)
  | ((with_reducible refine' sg_dat ?rd0 ?rd1 ?_); (case rd0 => first | exact True.intro | decide); (case rd1 => (dsimp only [List.set, wipeD, List.map, List.map_cons, List.map_nil]; try exact rfl)))
  | ((with_reducible refine' sg_soft ?rd0 ?rd1 ?_); (case rd0 => first | exact True.intro | decide); (case rd1 => (dsimp only [List.set, wipeD, List.map, List.map_cons, List.map_nil]; try exact rfl)))
  | ((with_reducible refine' sg_own ?rd0 ?rd1 ?_); (case rd0 => first | exact True.intro | decide); (case rd1 => (dsimp only [List.set, wipeD, List.map, List.map_cons, List.map_nil]; try exact rfl)))
  | ((with_reducible refine' sg_ownD ?rd0 ?rd1 ?_); (case rd0 => first | exact True.intro | decide); (case rd1 => (dsimp only [List.set, wipeD, List.map, List.map_cons, List.map_nil]; try exact rfl)))
  | ((with_reducible refine' sg_drw ?rd0 ?rd1 ?_); (case rd0 => first | exact True.intro | decide); (case rd1 => (dsimp only [List.set, wipeD, List.map, List.map_cons, List.map_nil]; try exact rfl)))
  | (with_reducible refine dent_test ?_)
  | (with_reducible refine ex_b ?_)
  | (with_reducible refine ex_i ?_)
  | (with_reducible refine ex_xy ?_)
  | (with_reducible refine ex_z ?_)
  | ((with_reducible refine' se_drw ?rd0 ?_); (case rd0 => exact rfl))
  | ((with_reducible refine' se_raw ?rd0 ?_); (case rd0 => exact rfl))
  | ((with_reducible refine' se_own ?rd0 ?rd1 ?_); (case rd0 => exact rfl); (case rd1 => (dsimp only [List.set, wipeD, List.map, List.map_cons, List.map_nil]; try exact rfl)))
  | ((with_reducible refine' se_datO ?rd0 ?_); (case rd0 => exact rfl))
  | (with_reducible refine den_bl ?_)
  | (with_reducible refine den_str ?_)
  | (with_reducible refine den_non ?_)
  | (with_reducible refine den_ty ?_)
  | (with_reducible refine den_ref ?_)
  | (with_reducible refine den_un ?_)
  | ((with_reducible refine' dun_U ?rd0 ?_); (case rd0 => first | exact .int _ | exact .bl _ | exact .str _))
  | ((with_reducible refine' dop_eq ?rd0 ?_); (case rd0 => with_unfolding_all exact rfl))
  | ((with_reducible refine' dop_ne ?rd0 ?_); (case rd0 => with_unfolding_all exact rfl))
  | ((with_reducible refine' dop_isN ?rd0 ?_); (case rd0 => with_unfolding_all exact rfl))
  | ((with_reducible refine' dop_notN ?rd0 ?_); (case rd0 => with_unfolding_all exact rfl))
  | (with_reducible refine den_not ?_)
  | (with_reducible refine den_and ?_)
  | (with_reducible refine den_or ?_)
  | (with_reducible refine den_if ?_)
  | (with_reducible refine den_chain ?_)
  | (with_reducible refine den_tup ?_)
  | (with_reducible refine den_lst ?_)
  | (with_reducible refine den_sl ?_)
  | (with_reducible refine deno_none ?_)
  | (with_reducible refine deno_some ?_)
  | (with_reducible refine den_lrg1 ?_)
  | (with_reducible refine den_lrg2 ?_)
  | ((with_reducible refine' dcb_len ?rd0 ?_); (case rd0 => with_unfolding_all exact rfl))
  | (with_reducible refine dcb_lenT ?_)
  | (with_reducible refine dsl_A ?_)
  | (with_reducible refine den_dnew ?_)
  | (with_reducible refine den_disp1 ?_)
  | (with_reducible refine den_bits ?_)
  | (with_reducible refine dena_star ?_)
  | (with_reducible refine den_revT ?_)
  | ((with_reducible refine' dcb_list ?rd0 ?_); (case rd0 => with_unfolding_all exact rfl))
  | (with_reducible refine dcb_listT ?_)
  | ((with_reducible refine' dcb_tup ?rd0 ?_); (case rd0 => with_unfolding_all exact rfl))
  | (with_reducible refine dcb_int ?_)
  | (with_reducible refine dcb_intB ?_)
  | (with_reducible refine dcb_abs ?_)
  | (with_reducible refine dcb_max2 ?_)
  | (with_reducible refine dcb_min2 ?_)
  | ((with_reducible refine' dcb_isi ?rd0 ?rd1 ?rd2 ?rd3 ?_); (case rd0 => with_unfolding_all exact rfl); (case rd1 => with_unfolding_all exact rfl); (case rd2 => first | exact kb_tuple_tuple | exact kb_tuple_list | exact kb_tuple_int | exact kb_tuple_bool | exact kb_tuple_str | exact kb_tuple_dict | exact kb_list_tuple | exact kb_list_list | exact kb_list_int | exact kb_list_bool | exact kb_list_str | exact kb_list_dict | exact kb_int_tuple | exact kb_int_list | exact kb_int_int | exact kb_int_bool | exact kb_int_str | exact kb_int_dict | exact kb_bool_tuple | exact kb_bool_list | exact kb_bool_int | exact kb_bool_bool | exact kb_bool_str | exact kb_bool_dict | exact kb_str_tuple | exact kb_str_list | exact kb_str_int | exact kb_str_bool | exact kb_str_str | exact kb_str_dict | exact kb_NoneType_tuple | exact kb_NoneType_list | exact kb_NoneType_int | exact kb_NoneType_bool | exact kb_NoneType_str | exact kb_NoneType_dict | exact kb_dict_tuple | exact kb_dict_list | exact kb_dict_int | exact kb_dict_bool | exact kb_dict_str | exact kb_dict_dict); (case rd3 => first | exact .inl (by decide) | exact .inr (by decide)))
  | ((with_reducible refine' dcb_isO ?rd0 ?rd1 ?_); (case rd0 => with_unfolding_all exact rfl); (case rd1 => assumption))
  | (with_reducible refine dent_B ?_)
  | (with_reducible refine dent_not ?_)
  | (with_reducible refine dent_and ?_)
  | (with_reducible refine dent_or ?_)
  | (with_reducible refine dent_yes ?_)
  | (with_reducible refine dgs_nil ?_)
  | ((with_reducible refine' dgs_cons ?rd0 ?_); (case rd0 => exact fun _ => rfl))
  | ((with_reducible refine' dg_tup ?rd0 ?_); (case rd0 => with_unfolding_all exact rfl); simp only [List.map_cons, List.map_nil])
  | ((with_reducible refine' dg_unl ?rd0 ?rd1 ?_); (case rd0 => with_unfolding_all exact rfl); (case rd1 => with_unfolding_all exact rfl); simp only [List.map_cons, List.map_nil])
  | ((with_reducible refine' sg_sub ?rd0 ?rd1 ?_); (case rd0 => exact rfl); (case rd1 => exact rfl))
  | (with_reducible refine ds_next ?_)
  | (with_reducible refine ds_break ?_)
  | (with_reducible refine ds_cont ?_)
  | (with_reducible refine ds_ret ?_)
  | (with_reducible refine ds_retN ?_)
  | ((with_reducible refine' ss_app ?rd0 ?_); (case rd0 => exact rfl))
  | ((with_reducible refine' ss_ext ?rd0 ?_); (case rd0 => exact rfl))
  | (with_reducible refine ds_drop ?_)
  | (with_reducible refine ds_if ?_)
  | (with_reducible refine ds_par ?_)
  | (with_reducible refine ds_parO ?_)
  | (with_reducible refine ds_parP ?_)
  | (with_reducible refine ds_par3 ?_)
  | (with_reducible refine ex_xyz ?_)
  | ((with_reducible refine' ss_augA ?rd0 ?_); (case rd0 => exact rfl))
  | (with_reducible refine di_list ?_)
  | (with_reducible refine di_tup ?_)
  | (with_reducible refine di_rng1 ?_)
  | (with_reducible refine di_rng2 ?_)
  | (with_reducible refine di_zip ?_)
  | (with_reducible refine di_zipM ?_)
  | (with_reducible refine di_rev1 ?_)
  | (with_reducible refine di_rev2 ?_)
  | (with_reducible refine ex_T ?_)
  | ((with_reducible refine' ex_ds ?rd0 ?rd1 ?_); (case rd0 => with_unfolding_all exact rfl); (case rd1 => with_unfolding_all exact Nat.le_of_ble_eq_true rfl))
  | ((with_reducible refine' ex_dv ?rd0 ?_); (case rd0 => with_unfolding_all exact rfl))
  | ((with_reducible refine' ex_L ?rd0 ?_); (case rd0 => with_unfolding_all exact rfl))
  | (with_reducible refine rd_t ?_)
  | (with_reducible refine rd_f ?_)
  | (with_reducible refine rd_nt ?_)
  | (with_reducible refine rd_nf ?_)
  | ((with_reducible refine' se_rg ?rd0 ?_); (case rd0 => exact rfl))
  | ((with_reducible refine' sg_rg ?rd0 ?rd1 ?_); (case rd0 => first | exact True.intro | decide); (case rd1 => (dsimp only [List.set, wipeD, List.map, List.map_cons, List.map_nil]; try exact rfl)))
  | (with_reducible refine dcb_rgv ?_)
  | (with_reducible refine ex_rg ?_)
  | (with_reducible refine di_rgv ?_)
  | (with_reducible refine dop_isB ?_)
  | (with_reducible refine dop_notB ?_)
  | (with_reducible refine den_fld ?_)
  | ((with_reducible refine' ex_fld ?rd0 ?rd1 ?rd2 ?_); (case rd0 => with_unfolding_all exact rfl); (case rd1 => exact ⟨by assumption, by assumption⟩); (case rd2 => first | (with_reducible exact Fg.here) | (with_reducible exact (Fg.there (by decide +kernel) Fg.here)) | (with_reducible exact (Fg.there (by decide +kernel) (Fg.there (by decide +kernel) Fg.here))) | (with_reducible exact (Fg.there (by decide +kernel) (Fg.there (by decide +kernel) (Fg.there (by decide +kernel) Fg.here)))) | (with_reducible exact (Fg.there (by decide +kernel) (Fg.there (by decide +kernel) (Fg.there (by decide +kernel) (Fg.there (by decide +kernel) Fg.here))))) | (with_reducible exact (Fg.there (by decide +kernel) (Fg.there (by decide +kernel) (Fg.there (by decide +kernel) (Fg.there (by decide +kernel) (Fg.there (by decide +kernel) Fg.here)))))) | (with_reducible exact (Fg.there (by decide +kernel) (Fg.there (by decide +kernel) (Fg.there (by decide +kernel) (Fg.there (by decide +kernel) (Fg.there (by decide +kernel) (Fg.there (by decide +kernel) Fg.here))))))) | (with_reducible exact (Fg.there (by decide +kernel) (Fg.there (by decide +kernel) (Fg.there (by decide +kernel) (Fg.there (by decide +kernel) (Fg.there (by decide +kernel) (Fg.there (by decide +kernel) (Fg.there (by decide +kernel) Fg.here))))))))))
  | (with_reducible refine den_meth ?_)
  | ((with_reducible refine' ex_om ?rd0 ?rd1 ?_); (case rd0 => with_unfolding_all exact rfl); (case rd1 => repeat (first | exact Fn.nil | (refine' Fn.cons ?rne ?_; (case rne => decide +kernel)))))
  | (with_reducible refine den_prop ?_)
  | ((with_reducible refine' ex_op ?rd0 ?_); (case rd0 => with_unfolding_all exact rfl))
  | (with_reducible refine den_inst ?_)
  | ((with_reducible refine' den_make ?rd0 ?_); (case rd0 => assumption))
  | ((with_reducible refine' dop_ins ?rd0 ?rd1 ?_); (case rd0 => with_unfolding_all exact rfl); (case rd1 => with_unfolding_all exact rfl))
  | ((with_reducible refine' dop_insN ?rd0 ?rd1 ?_); (case rd0 => with_unfolding_all exact rfl); (case rd1 => with_unfolding_all exact rfl))
  | ((with_reducible refine' dop_insI ?rd0 ?_); (case rd0 => with_unfolding_all exact rfl))
  | ((with_reducible refine' dop_insNI ?rd0 ?_); (case rd0 => with_unfolding_all exact rfl))
  | ((with_reducible refine' dun_ins ?rd0 ?_); (case rd0 => with_unfolding_all exact rfl))
  | (with_reducible refine dop_leB ?_)
  | (with_reducible refine di_ks ?_)
  | (with_reducible refine den_join ?_)
  | (with_reducible refine den_revL ?_)
  | (with_reducible refine den_jd ?_)
  | (with_reducible refine denj_nil ?_)
  | (with_reducible refine denj_cons ?_)
  | (with_reducible refine den_fmt ?_)
  | (with_reducible refine den_maxd ?_)
  | (with_reducible refine di_enTS ?_)
  | (with_reducible refine di_enT ?_)
  | (with_reducible refine ex_T1 ?_)
  | (with_reducible refine den_skT ?_)
  | (with_reducible refine di_enL ?_)
  | ((with_reducible refine' den_callX2 ?rd0 ?_); (case rd0 => first | assumption | exact outE2.wt (by assumption) | exact WT.never))
  | ((with_reducible refine' den_methX ?rd0 ?_); (case rd0 => first | assumption | exact outE2.wt (by assumption) | exact WT.never))
  | ((with_reducible refine' den_opX ?rd0 ?_); (case rd0 => first | assumption | exact outE2.wt (by assumption) | exact WT.never))
  | ((with_reducible refine' den_instX ?rd0 ?_); (case rd0 => first | assumption | exact outE2.wt (by assumption) | exact WT.never))
  | ((with_reducible refine' den_makeX ?rd0 ?rd1 ?_); (case rd0 => first | assumption | exact outE2.wt (by assumption) | exact WT.never); (case rd1 => assumption))
  | ((with_reducible refine' ex_ob2 ?rd0 ?rd1 ?_); (case rd0 => with_unfolding_all exact rfl); (case rd1 => with_unfolding_all exact rfl))
  | ((with_reducible refine' dcb_strO ?rd0 ?_); (case rd0 => with_unfolding_all exact rfl)))
local macro_rules | `(tactic| walk_at "dw") => `(tactic| repeat walk_at "d1")
local macro_rules | `(tactic| walk_at "dgo") => `(tactic| repeat (first | walk_at "d1" | refine rd_yes rfl ?_ | refine rd_noN rfl ?_ | refine rd_brT (by rfl) ?_ | refine rd_brF (by rfl) ?_))
/-! ### lists of numbers, wrong ones -/
def cI (p : Int → Bool) : PyData → Bool
  | .int z => p z
  | _ => false
theorem filter_ints (p : Int → Bool) : ∀ l : List Int, ((l.map PyData.int).filter (cI p)).map id = (l.filter p).map PyData.int
  | [] => rfl
  | a :: l => by
    have ih := filter_ints p l
    rw [List.map_id] at ih ⊢
    rw [List.map_cons]
    cases h : p a with
    | true => rw [List.filter_cons_of_pos (show cI p (.int a) = true from h), List.filter_cons_of_pos h, ih, List.map_cons]
    | false => rw [List.filter_cons_of_neg (show ¬ cI p (.int a) = true by rw [show cI p (.int a) = p a from rfl, h]; decide), List.filter_cons_of_neg (by rw [h]; decide), ih]
theorem eqv_ints_nil (l : List Int) : PyData.eqv (.list (l.map PyData.int)) (.list []) = decide (l = []) := by
  cases l with
  | nil => rfl
  | cons a l => rfl
theorem dop_eqN {K : PySem.W.Frag} {G : Pa} {δ τ : List Sl} {t : Nat} {R : RX} {x y : Sl} {l : List Int} (hx : x.dv = some (.list (l.map PyData.int))) (hy : y.dv = some (.list [])) (q : R (.dat (.bool (decide (l = [])))) δ t) : Dop K G (rEqD K) x y δ τ t R :=
  dop_eqD hx hy (shaped_ints l) rfl (by rw [eqv_ints_nil]; exact q)
theorem dop_neN {K : PySem.W.Frag} {G : Pa} {δ τ : List Sl} {t : Nat} {R : RX} {x y : Sl} {l : List Int} (hx : x.dv = some (.list (l.map PyData.int))) (hy : y.dv = some (.list [])) (q : R (.dat (.bool (!decide (l = [])))) δ t) : Dop K G (rNeD K) x y δ τ t R :=
  dop_neD hx hy (shaped_ints l) rfl (by rw [eqv_ints_nil]; exact q)
def rngI (lo : Int) (n : Nat) : List Int := (List.range n).map fun i : Nat => lo + (i : Int)
theorem rngI_succ (lo : Int) (n : Nat) : rngI lo (n + 1) = rngI lo n ++ [lo + (n : Int)] := by
  unfold rngI
  rw [List.range_succ, List.map_append]
  rfl
theorem rngI_mem {lo x : Int} {n : Nat} : x ∈ rngI lo n ↔ lo ≤ x ∧ x < lo + n := by
  unfold rngI
  rw [List.mem_map]
  constructor
  · rintro ⟨i, hi, rfl⟩
    have := List.mem_range.mp hi
    omega
  · rintro ⟨h0, h1⟩
    exact ⟨(x - lo).toNat, List.mem_range.mpr (by omega), by omega⟩
/-! ### members, hulls -/
def memB (l g x : Int) : Bool := decide (Builtin.bitAnd x l = l) && decide (Builtin.bitAnd x (Builtin.bitNot g) = 0)
def memL (w l g : Int) : List Int := (rngI 0 (2 ^ w.toNat : Int).toNat).filter (memB l g)
theorem mem_memL {w l g x : Int} (h : InM w l g) : x ∈ memL w l g ↔ Wd w.toNat x ∧ In w.toNat l g x := by
  have p := PySem.W.kbt_pos w.toNat
  unfold memL memB
  rw [List.mem_filter, rngI_mem, Bool.and_eq_true, decide_eq_true_iff, decide_eq_true_iff]
  constructor
  · rintro ⟨⟨a, b⟩, c, d⟩
    have wx : Wd w.toNat x := ⟨a, by omega⟩
    refine ⟨wx, fun k hk => ?_, fun k hk => ?_⟩
    · have e := congrArg (bt k) c
      rw [bt_and] at e
      have := bt_01 k x
      by_cases z : bt k x = 1 ∧ bt k l = 1
      · rw [if_pos z] at e
        omega
      · rw [if_neg z] at e
        omega
    · have e := congrArg (bt k) d
      rw [bt_and, bt_not, bt_zero] at e
      have := bt_01 k x
      have := bt_01 k g
      by_cases z : bt k x = 1 ∧ 1 - bt k g = 1
      · rw [if_pos z] at e
        cases e
      · omega
  · rintro ⟨wx, h1, h2⟩
    have e : 0 + (((2 ^ w.toNat : Int).toNat : Nat) : Int) = 2 ^ w.toNat := by omega
    refine ⟨⟨wx.1, by rw [e]; exact wx.2⟩, (wx.andL _).ext h.wl fun k hk => ?_, and_not wx h2⟩
    have := h1 k hk
    have := bt_01 k x
    have := bt_01 k l
    rw [bt_and]
    by_cases z : bt k x = 1 ∧ bt k l = 1
    · rw [if_pos z, z.2]
    · rw [if_neg z]
      omega
theorem msL_rngL {w l g : Int} : ((rngL 0 w.toNat).map (sgD l g)).reverse = (msL w l g).map PyData.str := by
  unfold msL rngL
  rw [List.map_reverse, List.map_map, List.map_map]
  congr 1
  refine List.map_congr_left fun k _ => ?_
  show PyData.str (sgT l g (0 + (k : Int)).toNat) = PyData.str (sgT l g k)
  rw [Int.zero_add, Int.toNat_natCast]
def Smem : DSp := fun xs t C => ∃ w l g : Int, xs = [.dat (.int w), .dat (.int l), .dat (.int g)] ∧ (InM w l g ∧ w ≤ 6) ∧ ∀ p, C (.own p ((memL w l g).map PyData.int)) t
def Shul : DSp := fun xs t C => ∃ (w : Int) (L : List Int), xs = [.dat (.int w), .dat (.list (L.map PyData.int))] ∧ (1 ≤ w ∧ w ≤ 6) ∧ (∀ x, x ∈ L → Wd w.toNat x) ∧ ∀ lo hi, Hul w.toNat L lo hi → C (.dat (.str (Txt.join "" (msL w lo hi)))) t
section
variable {P : Program} {w : World} {K : PySem.W.Frag} {mg : Str → Option Value} {base : Heap} {c cU f f1 f2 f3 : Addr} {fd fd1 fd2 fd3 : FuncData}
theorem ok_lmem (T : Top mg) (F : Fun K "_law_members" "_law_members" s__law_members f fd) : GOk P w K mg base 1 f fd ["_law_width_here", "_law_least", "_law_greatest"] (spD K Smem) := by
  refine okD F sc__law_members (fun h => ?_) (fun G cdv A outer s H E xs t C hq hr h => ?_)
  · obtain ⟨_, _, _, rfl, _⟩ := h
    rfl
  · obtain ⟨w, l, g, rfl, ⟨hI, h6⟩, hC⟩ := h
    refine ⟨_, (pss_one (ps_ret (pe_lc (own := [("_law_word_here", 3)]) (g := _) (by rfl) sc__law_members.nd (pi_range1 (by rfl) T.z_range (pa_cons (pe_op op_shlW pe_int (pv 0)) pa_nil)) (blkOk_by (own := [("_law_word_here", 3)]) (N := n__law_members) (sc := defScope s__law_members) (by decide +kernel)) (fun _ _ _ _ _ => (pg_name (i := 3) sc__law_members.nd rfl (by first | exact Or.inl rfl | exact Or.inr rfl))) (fun _ _ _ _ _ => (pts_one (PW.pt (pw_and (pt_cmpR op_eq (pe_op op_and (pv 3) (pv 1)) (pv 1) (nomark _)) (pw_and1 (pt_cmpR op_eq (pe_op op_and (pv 3) (pe_un un_inv (pv 2))) pe_int (nomark _))))))) (fun _ _ _ _ _ => (pv 3))))), ?_⟩
    simp only [dst, n__law_members]
    have h1 := hI.w1
    have p1 := pow_64 h1 hI.w2
    have q6 : (2 : Int) ^ w.toNat ≤ 64 := by
      have a1 := Nat.pow_le_pow_right (n := 2) (by decide) (show w.toNat ≤ 6 by omega)
      have e : ((2 ^ w.toNat : Nat) : Int) = 2 ^ w.toNat := by rw [Int.natCast_pow]; rfl
      have e6 : (2 : Nat) ^ 6 = 64 := by decide
      omega
    walk_at "dw"
    refine den_lcF id (cI (memB l g)) ?_
    walk_at "dw"
    rw [Int.one_mul]
    have er : rngL 0 (2 ^ w.toNat : Int).toNat = (rngI 0 (2 ^ w.toNat : Int).toNat).map PyData.int := by
      unfold rngL rngI
      rw [List.map_map]
      rfl
    refine ⟨_, rfl, by omega, by omega, by rw [rngL_len]; omega, fun d hd τ2 => ?_, fun p => ?_⟩
    · rw [er] at hd
      obtain ⟨x, _, rfl⟩ := List.mem_map.mp hd
      walk_at "dgo"
      have em : cI (memB l g) (.int x) = (decide (Builtin.bitAnd x l = l) && decide (Builtin.bitAnd x (Builtin.bitNot g) = 0)) := rfl
      rw [em]
      refine rd_dec (fun z => ?_) fun z => ?_
      · rw [decide_eq_true z, Bool.true_and]
        walk_at "dgo"
        refine ⟨rfl, ?_⟩
        refine rd_dec (fun z => ?_) fun z => ?_
        · walk_at "dgo"
          exact ⟨rfl, rfl, rfl⟩
        · exact ⟨rfl, rfl⟩
      · rw [decide_eq_false z, Bool.false_and]
        exact ⟨rfl, rfl, rfl⟩
    · rw [er, filter_ints]
      exact hC p
theorem ok_lhul (T : Top mg) (F : Fun K "_law_hull" "_law_hull" s__law_hull f fd) : GOk P w K mg base 1 f fd ["_law_width_here", "_law_words"] (spD K Shul) := by
  refine okD F sc__law_hull (fun h => ?_) (fun G cdv A outer s H E xs t C hq hr h => ?_)
  · obtain ⟨_, _, rfl, _⟩ := h
    rfl
  · obtain ⟨w, L, rfl, ⟨w1, w6⟩, hL, hC⟩ := h
    refine ⟨_, (pss_cons (ps_asg (pe_tup (pa_cons (pe_op op_sub (pe_op op_shlW pe_int (pv 0)) pe_int) (pa_cons pe_int pa_nil))) (pgt_k (K := K) (n := 2) rfl rfl (pgs_cons (pg_name (i := 2) sc__law_hull.nd rfl (by first | exact Or.inl rfl | exact Or.inr rfl)) (pgs_cons (pg_name (i := 3) sc__law_hull.nd rfl (by first | exact Or.inl rfl | exact Or.inr rfl)) pgs_nil))))
      (pss_cons (ps_for PassesOwn.never rfl (pil_k (K := K) rfl (pv 1)) (pg_name (i := 4) sc__law_hull.nd rfl (by first | exact Or.inl rfl | exact Or.inr rfl))
       (pss_one (ps_asg (pe_tup (pa_cons (pe_op op_and (pv 2) (pv 4)) (pa_cons (pe_op op_or (pv 3) (pv 4)) pa_nil))) (pgt_k (K := K) (n := 2) rfl rfl (pgs_cons (pg_name (i := 2) sc__law_hull.nd rfl (by first | exact Or.inl rfl | exact Or.inr rfl)) (pgs_cons (pg_name (i := 3) sc__law_hull.nd rfl (by first | exact Or.inl rfl | exact Or.inr rfl)) pgs_nil))))))
      (pss_cons (ps_setLc (i := 5) (own := [("_law_bit", 6)]) (g := _) (tt := tYes) (by rfl) sc__law_hull.nd rfl rfl (sw_true rfl rfl rfl (by decide +kernel)) (pi_range1 (by rfl) T.z_range (pa_cons (pv 0) pa_nil)) (blkOk_by (own := [("_law_bit", 6)]) (N := n__law_hull) (sc := defScope s__law_hull) (by decide +kernel)) (fun _ _ _ _ _ => (pg_name (i := 6) sc__law_hull.nd rfl (by first | exact Or.inl rfl | exact Or.inr rfl))) (fun _ _ _ _ _ => pts_nil) (fun _ _ _ _ _ => (pe_ifExp (pt_cmpR op_eq (pe_op op_and (pe_op op_shr (pe_op op_xor (pv 2) (pv 3)) (pv 6)) pe_int) pe_int (nomark _)) (pe_ix ix_str pe_str (pe_op op_and (pe_op op_shr (pv 2) (pv 6)) pe_int) (fun _ _ => rfl)) pe_str)))
      (pss_one (ps_ret (join_k (K := K) rfl pe_str (revL_k (K := K) rfl (pv 5)))))))), ?_⟩
    simp only [dst, n__law_hull]
    walk_at "dw"
    rw [Int.one_mul]
    refine ds_for ?_
    walk_at "dw"
    refine ⟨fun i δ t' => t' = t ∧ ∃ lo hi : Int, Hul w.toNat (L.take i) lo hi ∧ ∃ x4 x5 x6 : Sl, δ = [.dat (.int w), .dat (.list (L.map PyData.int)), .dat (.int lo), .dat (.int hi), x4, x5, x6], ⟨rfl, _, _, .nil _, _, _, _, rfl⟩, ?_, ?_⟩
    · rintro i d δ2 t2 hi ⟨rfl, lo, gr, hH, x4, x5, x6, rfl⟩ τ2
      rw [List.getElem?_map] at hi
      obtain ⟨x, hx, rfl⟩ := Option.map_eq_some_iff.mp hi
      walk_at "dgo"
      exact ⟨rfl, _, _, by rw [List.take_succ, hx]; exact hH.snoc (hL x (List.mem_of_getElem? hx)), _, _, _, rfl⟩
    · rintro δ2 t2 ⟨rfl, lo, gr, hH, x4, x5, x6, rfl⟩
      rw [List.length_map, List.take_length] at hH
      walk_at "dgo"
      refine den_lcM (sgD lo gr) ?_
      walk_at "dgo"
      refine ⟨_, rfl, by omega, by omega, by rw [rngL_len]; omega, fun d hd τ2 => ?_, fun p => ?_⟩
      · obtain ⟨k, hk, rfl⟩ : ∃ k : Nat, k < 64 ∧ d = .int (k : Int) := by
          obtain ⟨i, hi⟩ := List.getElem?_of_mem hd
          obtain ⟨h3, e⟩ := rngL_at hi
          exact ⟨i, by omega, by rw [e, Int.zero_add]⟩
        have hb : ∀ x : Int, Builtin.bitAnd (x / 2 ^ (k : Int).toNat) 1 = bt k x := fun x => by
          rw [Int.toNat_natCast]
          exact PySem.W.kbt_mask _ 1
        have es : sgD lo gr (.int (k : Int)) = .str (sgT lo gr k) := by
          show PyData.str (sgT lo gr (k : Int).toNat) = _
          rw [Int.toNat_natCast]
        rw [es]
        unfold sgT
        walk_at "dgo"
        rw [hb, bt_xor]
        by_cases eq : bt k lo = bt k gr
        · rw [if_pos eq, if_pos eq]
          walk_at "dgo"
          rw [hb]
          rcases bt_01 k lo with z | z
          · rw [z]
            refine dop_ixS (c := 48) (by decide +kernel) (by decide +kernel) ?_
            exact ⟨rfl, rfl, rfl⟩
          · rw [z]
            refine dop_ixS (c := 49) (by decide +kernel) (by decide +kernel) ?_
            exact ⟨rfl, rfl, rfl⟩
        · rw [if_neg eq, if_neg eq]
          walk_at "dgo"
          exact ⟨rfl, rfl, rfl⟩
      · walk_at "dgo"
        refine ⟨_, rfl, ?_⟩
        walk_at "dgo"
        refine fun p => ⟨msL w lo gr, by rw [← msL_rngL]; rfl, ?_, hC lo gr hH⟩
        rw [ones_sum msL_ones, msL_len]
        show _ + _ * 0 ≤ _
        omega
end
theorem memL_len {w l g : Int} (h : w ≤ 6) : (memL w l g).length ≤ 64 := by
  unfold memL
  refine Nat.le_trans (List.length_filter_le _ _) ?_
  have a1 := Nat.pow_le_pow_right (n := 2) (by decide) (show w.toNat ≤ 6 by omega)
  have e : ((2 ^ w.toNat : Nat) : Int) = 2 ^ w.toNat := by rw [Int.natCast_pow]; rfl
  have e6 : (2 : Nat) ^ 6 = 64 := by decide
  simp only [rngI, List.length_map, List.length_range]
  omega
/-! ### words that two masks share -/
theorem and_iff {w : Nat} {l g : Int} (hl : Wd w l) : Builtin.bitAnd l (Builtin.bitNot g) = 0 ↔ Sub w l g := by
  constructor
  · intro h k hk
    have e := congrArg (bt k) h
    rw [bt_and, bt_not, bt_zero] at e
    have := bt_01 k l
    have := bt_01 k g
    by_cases z : bt k l = 1 ∧ 1 - bt k g = 1
    · rw [if_pos z] at e
      cases e
    · omega
  · exact and_not hl
theorem Sub.or {w : Nat} {l l' x : Int} : Sub w (Builtin.bitOr l l') x ↔ Sub w l x ∧ Sub w l' x := by
  constructor
  · intro h
    refine ⟨fun k hk => ?_, fun k hk => ?_⟩
    all_goals
      have e := h k hk
      rw [bt_or] at e
      have := bt_01 k l
      have := bt_01 k l'
      split at e <;> omega
  · rintro ⟨a, b⟩ k hk
    have := a k hk
    have := b k hk
    have := bt_01 k x
    rw [bt_or]
    split <;> omega
theorem Sub.and {w : Nat} {g g' x : Int} : Sub w x (Builtin.bitAnd g g') ↔ Sub w x g ∧ Sub w x g' := by
  constructor
  · intro h
    refine ⟨fun k hk => ?_, fun k hk => ?_⟩
    all_goals
      have e := h k hk
      rw [bt_and] at e
      have := bt_01 k g
      have := bt_01 k g'
      have := bt_01 k x
      split at e <;> omega
  · rintro ⟨a, b⟩ k hk
    have := a k hk
    have := b k hk
    have := bt_01 k x
    have := bt_01 k g
    have := bt_01 k g'
    rw [bt_and]
    split <;> omega
theorem In.both {w : Nat} {l g l' g' x : Int} : In w (Builtin.bitOr l l') (Builtin.bitAnd g g') x ↔ In w l g x ∧ In w l' g' x :=
  ⟨fun h => ⟨⟨(Sub.or.mp h.1).1, (Sub.and.mp h.2).1⟩, (Sub.or.mp h.1).2, (Sub.and.mp h.2).2⟩, fun h => ⟨Sub.or.mpr ⟨h.1.1, h.2.1⟩, Sub.and.mpr ⟨h.1.2, h.2.2⟩⟩⟩
theorem Sub.trans {w : Nat} {x y z : Int} (h : Sub w x y) (g : Sub w y z) : Sub w x z := fun k hk => Int.le_trans (h k hk) (g k hk)
theorem Sub.anti {w : Nat} {x y : Int} (hx : Wd w x) (hy : Wd w y) (h : Sub w x y) (g : Sub w y x) : x = y := hx.ext hy fun k hk => Int.le_antisymm (h k hk) (g k hk)
theorem mem_memL2 {w l g x : Int} (wl : Wd w.toNat l) : x ∈ memL w l g ↔ Wd w.toNat x ∧ In w.toNat l g x := by
  have p := PySem.W.kbt_pos w.toNat
  unfold memL memB
  rw [List.mem_filter, rngI_mem, Bool.and_eq_true, decide_eq_true_iff, decide_eq_true_iff]
  constructor
  · rintro ⟨⟨a, b⟩, c, d⟩
    have wx : Wd w.toNat x := ⟨a, by omega⟩
    refine ⟨wx, fun k hk => ?_, (and_iff wx).mp d⟩
    have e := congrArg (bt k) c
    rw [bt_and] at e
    have := bt_01 k x
    by_cases z : bt k x = 1 ∧ bt k l = 1
    · rw [if_pos z] at e
      omega
    · rw [if_neg z] at e
      omega
  · rintro ⟨wx, h1, h2⟩
    have e : 0 + (((2 ^ w.toNat : Int).toNat : Nat) : Int) = 2 ^ w.toNat := by omega
    refine ⟨⟨wx.1, by rw [e]; exact wx.2⟩, (wx.andL _).ext wl fun k hk => ?_, and_not wx h2⟩
    have := h1 k hk
    have := bt_01 k x
    have := bt_01 k l
    rw [bt_and]
    by_cases z : bt k x = 1 ∧ bt k l = 1
    · rw [if_pos z, z.2]
    · rw [if_neg z]
      omega
theorem memB_mem {w l g x : Int} (hx : x ∈ rngI 0 (2 ^ w.toNat : Int).toNat) : memB l g x = true ↔ x ∈ memL w l g := by
  unfold memL
  rw [List.mem_filter]
  exact ⟨fun h => ⟨hx, h⟩, fun h => h.2⟩
theorem both_eq {w l g l' g' : Int} (wl : Wd w.toNat l) (wl' : Wd w.toNat l') : (memL w l g).filter (fun x => decide (x ∈ memL w l' g')) = memL w (Builtin.bitOr l l') (Builtin.bitAnd g g') := by
  have e : memL w l g = (rngI 0 (2 ^ w.toNat : Int).toNat).filter (memB l g) := rfl
  rw [e, List.filter_filter]
  show _ = (rngI 0 (2 ^ w.toNat : Int).toNat).filter (memB (Builtin.bitOr l l') (Builtin.bitAnd g g'))
  refine List.filter_congr fun x hx => ?_
  refine Bool.eq_iff_iff.mpr ?_
  rw [Bool.and_eq_true, decide_eq_true_iff, memB_mem hx, memB_mem hx, mem_memL2 wl, mem_memL2 wl', mem_memL2 (wl.or wl'), In.both]
  exact ⟨fun ⟨⟨a, b⟩, _, d⟩ => ⟨a, d, b⟩, fun ⟨a, d, b⟩ => ⟨⟨a, b⟩, a, d⟩⟩
theorem memL_nil {w l g : Int} (wl : Wd w.toNat l) : memL w l g = [] ↔ ¬ Sub w.toNat l g := by
  constructor
  · intro h s
    have := (mem_memL2 (x := l) wl).mpr ⟨wl, .least s⟩
    rw [h] at this
    cases this
  · intro n
    refine List.eq_nil_iff_forall_not_mem.mpr fun x hx => n ?_
    have := ((mem_memL2 wl).mp hx).2
    exact this.1.trans this.2
theorem within_iff {w l g l' g' : Int} (h : InM w l g) (h' : InM w l' g') : memL w (Builtin.bitOr l l') (Builtin.bitAnd g g') = memL w l g ↔ Sub w.toNat l' l ∧ Sub w.toNat g g' := by
  constructor
  · intro e
    have a := (mem_memL2 (x := l) h.wl).mpr ⟨h.wl, .least h.s⟩
    have b := (mem_memL2 (x := g) h.wl).mpr ⟨h.wg, .most h.s⟩
    rw [← e] at a b
    have a := ((mem_memL2 (h.wl.or h'.wl)).mp a).2
    have b := ((mem_memL2 (h.wl.or h'.wl)).mp b).2
    exact ⟨(Sub.or.mp a.1).2, (Sub.and.mp b.2).2⟩
  · rintro ⟨a, b⟩
    have e1 : Builtin.bitOr l l' = l := Sub.anti (h.wl.or h'.wl) h.wl (Sub.or.mpr ⟨fun _ _ => Int.le_refl _, a⟩) (Sub.or.mp fun _ _ => Int.le_refl _).1
    have e2 : Builtin.bitAnd g g' = g := Sub.anti (h.wg.and h'.wg) h.wg (Sub.and.mp fun _ _ => Int.le_refl _).1 (Sub.and.mpr ⟨fun _ _ => Int.le_refl _, b⟩)
    rw [e1, e2]
theorem ends_iff {w l g l' g' : Int} (h : InM w l g) (h' : InM w l' g') : (Builtin.bitOr l l' = l ∧ Builtin.bitAnd g g' = g) ↔ Sub w.toNat l' l ∧ Sub w.toNat g g' := by
  constructor
  · rintro ⟨a, b⟩
    exact ⟨(Sub.or.mp (by rw [a]; exact fun _ _ => Int.le_refl _)).2, (Sub.and.mp (by rw [b]; exact fun _ _ => Int.le_refl _)).2⟩
  · rintro ⟨a, b⟩
    exact ⟨Sub.anti (h.wl.or h'.wl) h.wl (Sub.or.mpr ⟨fun _ _ => Int.le_refl _, a⟩) (Sub.or.mp fun _ _ => Int.le_refl _).1, Sub.anti (h.wg.and h'.wg) h.wg (Sub.and.mp fun _ _ => Int.le_refl _).1 (Sub.and.mpr ⟨fun _ _ => Int.le_refl _, b⟩)⟩
theorem low_iff {w : Nat} {l g : Int} (hl : Wd w l) : Builtin.bitAnd l g = l ↔ Sub w l g := by
  constructor
  · intro e k hk
    have e := congrArg (bt k) e
    rw [bt_and] at e
    have := bt_01 k l
    have := bt_01 k g
    split at e <;> omega
  · intro s
    refine (hl.andL _).ext hl fun k hk => ?_
    have := s k hk
    have := bt_01 k l
    have := bt_01 k g
    rw [bt_and]
    split <;> omega
theorem and_comm (x y : Int) : Builtin.bitAnd x y = Builtin.bitAnd y x := bitAnd_comm x y
theorem Sub.union {w : Nat} {l g l' g' : Int} (h : Sub w l g) : Sub w (Builtin.bitAnd l l') (Builtin.bitOr g g') := fun k hk => by
  have := h k hk
  have := bt_01 k l
  have := bt_01 k g
  rw [bt_and, bt_or]
  split <;> split <;> omega
theorem InM.union {w l g l' g' : Int} (h : InM w l g) (h' : InM w l' g') : InM w (Builtin.bitAnd l l') (Builtin.bitOr g g') := ⟨h.w1, h.w2, h.wl.and h'.wl, h.wg.or h'.wg, h.s.union⟩
theorem hull_union {w l g l' g' lo hi : Int} (h : InM w l g) (h' : InM w l' g') (H : Hul w.toNat (memL w l g ++ memL w l' g') lo hi) : lo = Builtin.bitAnd l l' ∧ hi = Builtin.bitOr g g' := by
  have ml := (mem_memL2 (x := l) h.wl).mpr ⟨h.wl, .least h.s⟩
  have mg := (mem_memL2 (x := g) h.wl).mpr ⟨h.wg, .most h.s⟩
  have ml' := (mem_memL2 (x := l') h'.wl).mpr ⟨h'.wl, .least h'.s⟩
  have mg' := (mem_memL2 (x := g') h'.wl).mpr ⟨h'.wg, .most h'.s⟩
  refine ⟨H.wl.ext (h.wl.and h'.wl) fun k hk => ?_, H.wh.ext (h.wg.or h'.wg) fun k hk => ?_⟩
  · have a := H.all k hk
    have := bt_01 k lo
    rw [bt_and]
    by_cases z : bt k l = 1 ∧ bt k l' = 1
    · rw [if_pos z]
      refine a.mpr fun x hx => ?_
      have := bt_01 k x
      rcases List.mem_append.mp hx with hx | hx
      · have := ((mem_memL2 h.wl).mp hx).2.1 k hk
        omega
      · have := ((mem_memL2 h'.wl).mp hx).2.1 k hk
        omega
    · rw [if_neg z]
      have : bt k lo ≠ 1 := fun e => z ⟨a.mp e l (List.mem_append_left _ ml), a.mp e l' (List.mem_append_right _ ml')⟩
      omega
  · have a := H.some k hk
    have := bt_01 k hi
    rw [bt_or]
    by_cases z : bt k g = 1 ∨ bt k g' = 1
    · rw [if_pos z]
      refine a.mpr ?_
      rcases z with z | z
      · exact ⟨g, List.mem_append_left _ mg, z⟩
      · exact ⟨g', List.mem_append_right _ mg', z⟩
    · rw [if_neg z]
      have : bt k hi ≠ 1 := fun e => by
        obtain ⟨x, hx, ex⟩ := a.mp e
        have := bt_01 k g
        have := bt_01 k g'
        rcases List.mem_append.mp hx with hx | hx
        · have := ((mem_memL2 h.wl).mp hx).2.2 k hk
          omega
        · have := ((mem_memL2 h'.wl).mp hx).2.2 k hk
          omega
      omega
/-! ### rules for lists of numbers -/
theorem eqv_intsA : ∀ l m : List Int, PyData.eqvAll (l.map PyData.int) (m.map PyData.int) = decide (l = m)
  | [], [] => rfl
  | [], _ :: _ => rfl
  | _ :: _, [] => rfl
  | a :: l, c :: m => by
    show ((a == c) && PyData.eqvAll (l.map PyData.int) (m.map PyData.int)) = _
    rw [eqv_intsA l m]
    by_cases h1 : a = c
    · subst h1
      by_cases h2 : l = m
      · subst h2
        simp
      · rw [decide_eq_false h2, decide_eq_false (fun z => h2 (List.cons.inj z).2), Bool.and_false]
    · rw [decide_eq_false (fun z => h1 (List.cons.inj z).1)]
      have : (a == c) = false := by simpa using h1
      rw [this, Bool.false_and]
theorem eqv_ints (l m : List Int) : PyData.eqv (.list (l.map PyData.int)) (.list (m.map PyData.int)) = decide (l = m) := eqv_intsA l m
theorem inV_ints (L : List Int) (x : Int) : inV (Dl.cV (.int x)) ((L.map PyData.int).map Dl.cV) = decide (x ∈ L) := by
  unfold inV
  rw [List.map_map, List.any_map]
  refine Bool.eq_iff_iff.mpr ?_
  rw [List.any_eq_true, decide_eq_true_iff]
  constructor
  · rintro ⟨y, hy, e⟩
    have e : (y == x) = true := e
    have e := eq_of_beq e
    cases e
    exact hy
  · intro h
    exact ⟨x, h, beq_self_eq_true x⟩
theorem isC_ints (L : List Int) : (L.map PyData.int).all Dl.isC = true := by
  rw [List.all_map, List.all_eq_true]
  intro _ _
  rfl
section
variable {K : PySem.W.Frag} {G : Pa} {δ τ : List Sl} {t : Nat} {R : RX}
theorem dop_eqI {x y : Sl} {l m : List Int} (hx : x.dv = some (.list (l.map PyData.int))) (hy : y.dv = some (.list (m.map PyData.int))) (q : R (.dat (.bool (decide (l = m)))) δ t) : Dop K G (rEqD K) x y δ τ t R :=
  dop_eqD hx hy (shaped_ints l) (shaped_ints m) (by rw [eqv_ints]; exact q)
theorem dop_neI {x y : Sl} {l m : List Int} (hx : x.dv = some (.list (l.map PyData.int))) (hy : y.dv = some (.list (m.map PyData.int))) (q : R (.dat (.bool (!decide (l = m)))) δ t) : Dop K G (rNeD K) x y δ τ t R :=
  dop_neD hx hy (shaped_ints l) (shaped_ints m) (by rw [eqv_ints]; exact q)
theorem dop_inI {x y : Sl} {i : Int} {l : List Int} (hx : x.dv = some (.int i)) (hy : y.dv = some (.list (l.map PyData.int))) (q : R (.dat (.bool (decide (i ∈ l)))) δ t) : Dop K G (rIn K false) x y δ τ t R :=
  dop_inL hx hy rfl (isC_ints l) (by rw [inV_ints]; exact q)
theorem sh_bool (b : Bool) : Shows (.bool b) := Sm.bool.shows (by decide) (by decide)
end
end Lw

set_option Elab.async false
set_option linter.all false
set_option maxRecDepth 100000
set_option maxHeartbeats 4000000
set_option pp.deepTerms false
set_option pp.deepTerms.threshold 12
namespace Lw
open PySem PySem.Spec PyProof.Rows L2 Glay Dl
/-- what is asked of the numbers by the way -/
local macro_rules | `(tactic| walk_at "side") => `(tactic| first
  | rfl
  | decide
  | assumption
  | omega
  | (unfold CMul; omega)
  | (unfold CPowW; exact ⟨by decide, by decide +kernel⟩)
  | exact wide_mul (a := 1400) (b := 1400) (by decide +kernel) (by decide +kernel) (by decide) (by decide) (by decide)
  | exact wide_div (b := 64) (by decide) (by decide) (by decide) (by decide)
  | (unfold CMul; exact Or.inr ⟨by decide, by decide⟩)
  | (unfold CMul; exact Or.inl ⟨by decide, by decide⟩)
  | (unfold CPow; omega)
  | (unfold CPow; refine ⟨by omega, by omega, ?_⟩; omega))
local macro_rules | `(tactic| walk_at "one") => `(tactic| with_reducible first
  | (refine' rd_var ?rdh ?_; (case rdh => with_unfolding_all exact rfl))
  | refine rd_c ?_
  | refine rd_op ?_
  | refine rd_un ?_
  | refine rd_I0 ?_
  | refine rd_I (by walk_at "side") ?_
  | refine rd_U ?_
  | refine rd_seq ?_
  | refine rd_next ?_
  | refine rd_asg ?_
  | refine rd_name ?_
  | refine rd_par ?_
  | refine rd_par2 ?_
  | refine rd_ret ?_
  | refine rd_ifs ?_
  | refine rd_if ?_
  | refine rd_test ?_
  | refine rd_B ?_
  | refine rd_not ?_
  | refine rd_and ?_
  | refine rd_or ?_
  | refine rd_andV ?_
  | refine rd_orV ?_
  | refine rd_notV ?_
  | refine rd_chain ?_
  | refine rd_k ?_
  | refine rd_eq (by with_unfolding_all rfl) ?_
  | refine rd_ne (by with_unfolding_all rfl) ?_
  | refine rd_call ?_
  | refine rd_cb ?_
  | refine rd_nil ?_
  | refine rd_cons ?_
  | refine rd_lst ?_
  | refine rd_gcons ?_
  | refine rd_gnil ?_
  | refine rd_sub ?_
  | (refine' rd_ixL (SqL.of (by assumption)) ?rde ?_; (case rde => with_unfolding_all exact rfl))
  | refine rd_intI ?_
  | refine rd_intB ?_
  | refine rd_abs ?_
  | refine rd_sl ?_
  | refine rd_nopart ?_
  | refine rd_part ?_
  | refine rd_pi ?_
  | refine rd_nt ?_
  | refine rd_nf ?_
  | refine rd_t ?_
  | refine rd_f ?_
  | refine rd_for ?_
  | refine rd_max2 ?_
  | refine rd_izip ?_
  | refine rd_min2 ?_
  | (refine' rd_in (SqT.of (by assumption)) ?rdf ?rda ?_; (case rdf => with_unfolding_all rfl); (case rda => with_unfolding_all rfl))
  | refine rd_lc ?_
  | refine rd_itup ?_
  | refine rd_tyes ?_
  | (refine' rd_ixT (SqT.of (by assumption)) ?rde ?_; (case rde => first | exact at_head | with_unfolding_all exact rfl))
  | refine rd_ilist ?_
  | refine rd_irng ?_
  | refine rd_tup ?_)
local macro_rules | `(tactic| walk_at "rd") => `(tactic| repeat walk_at "one")
/-- one of two ways, by a written text -/
local macro_rules | `(tactic| walk_at "br") => `(tactic| first
  | refine rd_yes (by decide +kernel) ?_
  | refine rd_no (by decide +kernel) ?_
  | refine rd_yesN (by decide +kernel) ?_
  | refine rd_noN (by decide +kernel) ?_
  | refine rd_brT (by decide +kernel) ?_
  | refine rd_brF (by decide +kernel) ?_)
local macro_rules | `(tactic| walk_at "go") => `(tactic| repeat (first | walk_at "one" | walk_at "br"))
/-- the walk of readings told by data -/
local macro_rules | `(tactic| walk_at "side") => `(tactic| first | assumption | exact cshl1 (by omega) (by omega))
local macro_rules | `(tactic| walk_at "d1") => `(tactic| first
  | ((with_reducible refine' se_dat ?rd0 ?_); (case rd0 => exact rfl))
  | ((with_reducible refine' se_ixO ?rd0 ?_); (case rd0 => exact rfl))
  | ((with_reducible refine' se_lenO ?rd0 ?_); (case rd0 => exact rfl))
  | ((with_reducible refine' se_listO ?rd0 ?_); (case rd0 => exact rfl))
  | (with_reducible refine den_int ?_)
  | (with_reducible refine ds_seq ?_)
  | (with_reducible refine ds_asg ?_)
  | (with_reducible refine den_op ?_)
  | ((with_reducible refine' dop_I0 ?rd0 ?_); (case rd0 => first | exact .int _ | exact .bl _ | exact .str _))
  | ((with_reducible refine' dop_I ?rd0 ?rd1 ?_); (case rd0 => first | exact .int _ | exact .bl _ | exact .str _); (case rd1 => walk_at "side"))
  | (with_reducible refine dena_nil ?_)
  | (with_reducible refine dena_cons ?_)
  | (with_reducible refine den_call ?_)
  | (with_reducible refine den_callD ?_)
  | (with_reducible refine den_callN ?_)
  | (with_reducible refine den_sset ?_)
  | (with_reducible refine den_cb ?_)
  | ((with_reducible refine' sg_dat ?rd0 ?rd1 ?_); (case rd0 => first | exact True.intro | decide); (case rd1 => (dsimp only [List.set, wipeD, List.map, List.map_cons, List.map_nil]; try exact rfl)))
  | ((with_reducible refine' sg_soft ?rd0 ?rd1 ?_); (case rd0 => first | exact True.intro | decide); (case rd1 => (dsimp only [List.set, wipeD, List.map, List.map_cons, List.map_nil]; try exact rfl)))
  | ((with_reducible refine' sg_own ?rd0 ?rd1 ?_); (case rd0 => first | exact True.intro | decide); (case rd1 => (dsimp only [List.set, wipeD, List.map, List.map_cons, List.map_nil]; try exact rfl)))
  | ((with_reducible refine' sg_ownD ?rd0 ?rd1 ?_); (case rd0 => first | exact True.intro | decide); (case rd1 => (dsimp only [List.set, wipeD, List.map, List.map_cons, List.map_nil]; try exact rfl)))
  | ((with_reducible refine' sg_drw ?rd0 ?rd1 ?_); (case rd0 => first | exact True.intro | decide); (case rd1 => (dsimp only [List.set, wipeD, List.map, List.map_cons, List.map_nil]; try exact rfl)))
  | (with_reducible refine dent_test ?_)
  | (with_reducible refine ex_b ?_)
  | (with_reducible refine ex_i ?_)
  | (with_reducible refine ex_xy ?_)
  | (with_reducible refine ex_z ?_)
  | ((with_reducible refine' se_drw ?rd0 ?_); (case rd0 => exact rfl))
  | ((with_reducible refine' se_raw ?rd0 ?_); (case rd0 => exact rfl))
  | ((with_reducible refine' se_own ?rd0 ?rd1 ?_); (case rd0 => exact rfl); (case rd1 => (dsimp only [List.set, wipeD, List.map, List.map_cons, List.map_nil]; try exact rfl)))
  | ((with_reducible refine' se_datO ?rd0 ?_); (case rd0 => exact rfl))
  | (with_reducible refine den_bl ?_)
  | (with_reducible refine den_str ?_)
  | (with_reducible refine den_non ?_)
  | (with_reducible refine den_ty ?_)
  | (with_reducible refine den_ref ?_)
  | (with_reducible refine den_un ?_)
  | ((with_reducible refine' dun_U ?rd0 ?_); (case rd0 => first | exact .int _ | exact .bl _ | exact .str _))
  | ((with_reducible refine' dop_eq ?rd0 ?_); (case rd0 => with_unfolding_all exact rfl))
  | ((with_reducible refine' dop_ne ?rd0 ?_); (case rd0 => with_unfolding_all exact rfl))
  | ((with_reducible refine' dop_isN ?rd0 ?_); (case rd0 => with_unfolding_all exact rfl))
  | ((with_reducible refine' dop_notN ?rd0 ?_); (case rd0 => with_unfolding_all exact rfl))
  | (with_reducible refine den_not ?_)
  | (with_reducible refine den_and ?_)
  | (with_reducible refine den_or ?_)
  | (with_reducible refine den_if ?_)
  | (with_reducible refine den_chain ?_)
  | (with_reducible refine den_tup ?_)
  | (with_reducible refine den_lst ?_)
  | (with_reducible refine den_sl ?_)
  | (with_reducible refine deno_none ?_)
  | (with_reducible refine deno_some ?_)
  | (with_reducible refine den_lrg1 ?_)
  | (with_reducible refine den_lrg2 ?_)
  | ((with_reducible refine' dcb_len ?rd0 ?_); (case rd0 => with_unfolding_all exact rfl))
  | (with_reducible refine dcb_lenT ?_)
  | (with_reducible refine dsl_A ?_)
  | (with_reducible refine den_dnew ?_)
  | (with_reducible refine den_disp1 ?_)
  | (with_reducible refine den_bits ?_)
  | (with_reducible refine dena_star ?_)
  | (with_reducible refine den_revT ?_)
  | ((with_reducible refine' dcb_list ?rd0 ?_); (case rd0 => with_unfolding_all exact rfl))
  | (with_reducible refine dcb_listT ?_)
  | ((with_reducible refine' dcb_tup ?rd0 ?_); (case rd0 => with_unfolding_all exact rfl))
  | (with_reducible refine dcb_int ?_)
  | (with_reducible refine dcb_intB ?_)
  | (with_reducible refine dcb_abs ?_)
  | (with_reducible refine dcb_max2 ?_)
  | (with_reducible refine dcb_min2 ?_)
  | ((with_reducible refine' dcb_isi ?rd0 ?rd1 ?rd2 ?rd3 ?_); (case rd0 => with_unfolding_all exact rfl); (case rd1 => with_unfolding_all exact rfl); (case rd2 => first | exact kb_tuple_tuple | exact kb_tuple_list | exact kb_tuple_int | exact kb_tuple_bool | exact kb_tuple_str | exact kb_tuple_dict | exact kb_list_tuple | exact kb_list_list | exact kb_list_int | exact kb_list_bool | exact kb_list_str | exact kb_list_dict | exact kb_int_tuple | exact kb_int_list | exact kb_int_int | exact kb_int_bool | exact kb_int_str | exact kb_int_dict | exact kb_bool_tuple | exact kb_bool_list | exact kb_bool_int | exact kb_bool_bool | exact kb_bool_str | exact kb_bool_dict | exact kb_str_tuple | exact kb_str_list | exact kb_str_int | exact kb_str_bool | exact kb_str_str | exact kb_str_dict | exact kb_NoneType_tuple | exact kb_NoneType_list | exact kb_NoneType_int | exact kb_NoneType_bool | exact kb_NoneType_str | exact kb_NoneType_dict | exact kb_dict_tuple | exact kb_dict_list | exact kb_dict_int | exact kb_dict_bool | exact kb_dict_str | exact kb_dict_dict); (case rd3 => first | exact .inl (by decide) | exact .inr (by decide)))
  | ((with_reducible refine' dcb_isO ?rd0 ?rd1 ?_); (case rd0 => with_unfolding_all exact rfl); (case rd1 => assumption))
  | (with_reducible refine dent_B ?_)
  | (with_reducible refine dent_not ?_)
  | (with_reducible refine dent_and ?_)
  | (with_reducible refine dent_or ?_)
  | (with_reducible refine dent_yes ?_)
  | (with_reducible refine dgs_nil ?_)
  | ((with_reducible refine' dgs_cons ?rd0 ?_); (case rd0 => exact fun _ => rfl))
  | ((with_reducible refine' dg_tup ?rd0 ?_); (case rd0 => with_unfolding_all exact rfl); simp only [List.map_cons, List.map_nil])
  | ((with_reducible refine' dg_unl ?rd0 ?rd1 ?_); (case rd0 => with_unfolding_all exact rfl); (case rd1 => with_unfolding_all exact rfl); simp only [List.map_cons, List.map_nil])
  | ((with_reducible refine' sg_sub ?rd0 ?rd1 ?_); (case rd0 => exact rfl); (case rd1 => exact rfl))
  | (with_reducible refine ds_next ?_)
  | (with_reducible refine ds_break ?_)
  | (with_reducible refine ds_cont ?_)
  | (with_reducible refine ds_ret ?_)
  | (with_reducible refine ds_retN ?_)
  | ((with_reducible refine' ss_app ?rd0 ?_); (case rd0 => exact rfl))
  | ((with_reducible refine' ss_ext ?rd0 ?_); (case rd0 => exact rfl))
  | (with_reducible refine ds_drop ?_)
  | (with_reducible refine ds_if ?_)
  | (with_reducible refine ds_par ?_)
  | (with_reducible refine ds_parO ?_)
  | (with_reducible refine ds_parP ?_)
  | (with_reducible refine ds_par3 ?_)
  | (with_reducible refine ex_xyz ?_)
  | ((with_reducible refine' ss_augA ?rd0 ?_); (case rd0 => exact rfl))
  | (with_reducible refine di_list ?_)
  | (with_reducible refine di_tup ?_)
  | (with_reducible refine di_rng1 ?_)
  | (with_reducible refine di_rng2 ?_)
  | (with_reducible refine di_zip ?_)
  | (with_reducible refine di_zipM ?_)
  | (with_reducible refine di_rev1 ?_)
  | (with_reducible refine di_rev2 ?_)
  | (with_reducible refine ex_T ?_)
  | ((with_reducible refine' ex_ds ?rd0 ?rd1 ?_); (case rd0 => with_unfolding_all exact rfl); (case rd1 => with_unfolding_all exact Nat.le_of_ble_eq_true rfl))
  | ((with_reducible refine' ex_dv ?rd0 ?_); (case rd0 => with_unfolding_all exact rfl))
  | ((with_reducible refine' ex_L ?rd0 ?_); (case rd0 => with_unfolding_all exact rfl))
  | (with_reducible refine rd_t ?_)
  | (with_reducible refine rd_f ?_)
  | (with_reducible refine rd_nt ?_)
  | (with_reducible refine rd_nf ?_)
  | ((with_reducible refine' se_rg ?rd0 ?_); (case rd0 => exact rfl))
  | ((with_reducible refine' sg_rg ?rd0 ?rd1 ?_); (case rd0 => first | exact True.intro | decide); (case rd1 => (dsimp only [List.set, wipeD, List.map, List.map_cons, List.map_nil]; try exact rfl)))
  | (with_reducible refine dcb_rgv ?_)
  | (with_reducible refine ex_rg ?_)
  | (with_reducible refine di_rgv ?_)
  | (with_reducible refine dop_isB ?_)
  | (with_reducible refine dop_notB ?_)
  | (with_reducible refine den_fld ?_)
  | ((with_reducible refine' ex_fld ?rd0 ?rd1 ?rd2 ?_); (case rd0 => with_unfolding_all exact rfl); (case rd1 => exact ⟨by assumption, by assumption⟩); (case rd2 => first | (with_reducible exact Fg.here) | (with_reducible exact (Fg.there (by decide +kernel) Fg.here)) | (with_reducible exact (Fg.there (by decide +kernel) (Fg.there (by decide +kernel) Fg.here))) | (with_reducible exact (Fg.there (by decide +kernel) (Fg.there (by decide +kernel) (Fg.there (by decide +kernel) Fg.here)))) | (with_reducible exact (Fg.there (by decide +kernel) (Fg.there (by decide +kernel) (Fg.there (by decide +kernel) (Fg.there (by decide +kernel) Fg.here))))) | (with_reducible exact (Fg.there (by decide +kernel) (Fg.there (by decide +kernel) (Fg.there (by decide +kernel) (Fg.there (by decide +kernel) (Fg.there (by decide +kernel) Fg.here)))))) | (with_reducible exact (Fg.there (by decide +kernel) (Fg.there (by decide +kernel) (Fg.there (by decide +kernel) (Fg.there (by decide +kernel) (Fg.there (by decide +kernel) (Fg.there (by decide +kernel) Fg.here))))))) | (with_reducible exact (Fg.there (by decide +kernel) (Fg.there (by decide +kernel) (Fg.there (by decide +kernel) (Fg.there (by decide +kernel) (Fg.there (by decide +kernel) (Fg.there (by decide +kernel) (Fg.there (by decide +kernel) Fg.here))))))))))
  | (with_reducible refine den_meth ?_)
  | ((with_reducible refine' ex_om ?rd0 ?rd1 ?_); (case rd0 => with_unfolding_all exact rfl); (case rd1 => repeat (first | exact Fn.nil | (refine' Fn.cons ?rne ?_; (case rne => decide +kernel)))))
  | (with_reducible refine den_prop ?_)
  | ((with_reducible refine' ex_op ?rd0 ?_); (case rd0 => with_unfolding_all exact rfl))
  | (with_reducible refine den_inst ?_)
  | ((with_reducible refine' den_make ?rd0 ?_); (case rd0 => assumption))
  | ((with_reducible refine' dop_ins ?rd0 ?rd1 ?_); (case rd0 => with_unfolding_all exact rfl); (case rd1 => with_unfolding_all exact rfl))
  | ((with_reducible refine' dop_insN ?rd0 ?rd1 ?_); (case rd0 => with_unfolding_all exact rfl); (case rd1 => with_unfolding_all exact rfl))
  | ((with_reducible refine' dop_insI ?rd0 ?_); (case rd0 => with_unfolding_all exact rfl))
  | ((with_reducible refine' dop_insNI ?rd0 ?_); (case rd0 => with_unfolding_all exact rfl))
  | ((with_reducible refine' dun_ins ?rd0 ?_); (case rd0 => with_unfolding_all exact rfl))
  | (with_reducible refine dop_leB ?_)
  | (with_reducible refine di_ks ?_)
  | (with_reducible refine den_join ?_)
  | (with_reducible refine den_revL ?_)
  | (with_reducible refine den_jd ?_)
  | (with_reducible refine denj_nil ?_)
  | (with_reducible refine denj_cons ?_)
  | (with_reducible refine den_fmt ?_)
  | (with_reducible refine den_maxd ?_)
  | (with_reducible refine di_enTS ?_)
  | (with_reducible refine di_enT ?_)
  | (with_reducible refine ex_T1 ?_)
  | (with_reducible refine den_skT ?_)
  | (with_reducible refine di_enL ?_)
  | ((with_reducible refine' den_callX2 ?rd0 ?_); (case rd0 => first | assumption | exact outE2.wt (by assumption) | exact WT.never))
  | ((with_reducible refine' den_methX ?rd0 ?_); (case rd0 => first | assumption | exact outE2.wt (by assumption) | exact WT.never))
  | ((with_reducible refine' den_opX ?rd0 ?_); (case rd0 => first | assumption | exact outE2.wt (by assumption) | exact WT.never))
  | ((with_reducible refine' den_instX ?rd0 ?_); (case rd0 => first | assumption | exact outE2.wt (by assumption) | exact WT.never))
  | ((with_reducible refine' den_makeX ?rd0 ?rd1 ?_); (case rd0 => first | assumption | exact outE2.wt (by assumption) | exact WT.never); (case rd1 => assumption))
  | ((with_reducible refine' ex_ob2 ?rd0 ?rd1 ?_); (case rd0 => with_unfolding_all exact rfl); (case rd1 => with_unfolding_all exact rfl))
  | ((with_reducible refine' dcb_strO ?rd0 ?_); (case rd0 => with_unfolding_all exact rfl)))
local macro_rules | `(tactic| walk_at "dw") => `(tactic| repeat walk_at "d1")
local macro_rules | `(tactic| walk_at "dgo") => `(tactic| repeat (first | walk_at "d1" | refine rd_yes rfl ?_ | refine rd_noN rfl ?_ | refine rd_brT (by rfl) ?_ | refine rd_brF (by rfl) ?_))
/-! ### common, union, within; other ends -/
def Scom (c cU : Addr) : XSp2 := fun xs t C CE => ∃ w l g w' l' g' : Int, xs = [.dat (mkD c w l g), .dat (mkD c w' l' g')] ∧ (InM w l g ∧ InM w' l' g') ∧ (w ≠ w' → CE cU none t) ∧
  (w = w' → (Sub w.toNat (Builtin.bitOr l l') (Builtin.bitAnd g g') → C (.dat (mkD c w (Builtin.bitOr l l') (Builtin.bitAnd g g'))) t) ∧ (¬ Sub w.toNat (Builtin.bitOr l l') (Builtin.bitAnd g g') → C (.dat .none) t))
def Suni (c cU : Addr) : XSp2 := fun xs t C CE => ∃ w l g w' l' g' : Int, xs = [.dat (mkD c w l g), .dat (mkD c w' l' g')] ∧ (InM w l g ∧ InM w' l' g') ∧ (w ≠ w' → CE cU none t) ∧
  (w = w' → C (.dat (mkD c w (Builtin.bitAnd l l') (Builtin.bitOr g g'))) t)
def Swin (c cU : Addr) : XSp2 := fun xs t C CE => ∃ w l g w' l' g' : Int, xs = [.dat (mkD c w l g), .dat (mkD c w' l' g')] ∧ (InM w l g ∧ InM w' l' g') ∧ (w ≠ w' → CE cU none t) ∧
  (w = w' → ∀ b : Bool, (b = true ↔ Sub w.toNat l' l ∧ Sub w.toNat g g') → C (.dat (.bool b)) t)
def Soth : DSp := fun xs t C => ∃ b l g : Int, xs = [.drw, .dat (.int b), .dat (.tuple [.int l, .int g])] ∧ InM b l g ∧ t ≤ 780000 ∧ ∀ l' g' : Int, InM b l' g' → ∀ t', t' ≤ t + 20 → C (.dat (.tuple [.int l', .int g'])) t'
section
variable {P : Program} {w : World} {K : PySem.W.Frag} {mg : Str → Option Value} {base : Heap} {c cU f f1 f2 f3 f4 f5 f6 f7 f8 f9 f10 f11 f12 f13 f14 : Addr} {fd fd1 fd2 fd3 fd4 fd5 fd6 fd7 fd8 fd9 fd10 fd11 fd12 fd13 fd14 : FuncData}
theorem ok_mcom (T : Top mg) (CL_Mask : Cls K c) (OC_Mask : OC K c) (NO_Mask__width : NoAttr K c "_width") (NO_Mask__least : NoAttr K c "_least") (NO_Mask__greatest : NoAttr K c "_greatest")
    (D_Mask_require_width_of : Mt K c "_require_width_of" "Mask._require_width_of" s_Mask_require_width_of ["self", "other"] f1 fd1) (GX_Mask_require_width_of : GOkX P w K mg base 2 f1 fd1 ["self", "other"] (spDX2 K (Sreq c cU)))
    (D_Mask_init : MkC K mg "Mask" c "Mask.__init__" s_Mask_init ["self", "width", "least", "greatest"] f6 fd6) (G_Mask_init : GOk P w K mg base 4 f6 fd6 ["self", "width", "least", "greatest"] (spI K c Sini))
    (F : Fun K "common_with" "Mask.common_with" s_Mask_common_with f fd) : GOkX P w K mg base 6 f fd ["self", "other"] (spDX2 K (Scom c cU)) := by
  refine okDX2 F sc_Mask_common_with (fun h => ?_) (fun G cdv A outer s H E xs t C CE hq hr h hE => ?_)
  · obtain ⟨_, _, _, _, _, _, rfl, _⟩ := h
    rfl
  · obtain ⟨w, l, g, w', l', g', rfl, ⟨hI, hI'⟩, hU, hC⟩ := h
    refine ⟨_, (pss_cons (ps_expr (methGX D_Mask_require_width_of GX_Mask_require_width_of (hr.mono (by omega)) hq (takes_of rfl rfl rfl rfl) (pv 0) (pa_cons (pv 1) pa_nil)))
      (pss_cons (ps_set (i := 2) sc_Mask_common_with.nd rfl (by first | exact Or.inl rfl | exact Or.inr rfl) (pe_op op_or (fld_k (K := K) rfl (pv 0) rfl) (fld_k (K := K) rfl (pv 1) rfl)))
      (pss_cons (ps_set (i := 3) sc_Mask_common_with.nd rfl (by first | exact Or.inl rfl | exact Or.inr rfl) (pe_op op_and (fld_k (K := K) rfl (pv 0) rfl) (fld_k (K := K) rfl (pv 1) rfl)))
      (pss_cons (ps_if (pt_cmpR op_ne (pe_op op_and (pv 2) (pe_un un_inv (pv 3))) pe_int (nomark _))
       (pss_one (ps_ret pe_non))
       pss_nil)
      (pss_one (ps_ret (makeG D_Mask_init G_Mask_init (hr.mono (by omega)) hq (by rfl) (pa_cons (fld_k (K := K) rfl (pv 0) rfl) (pa_cons (pv 2) (pa_cons (pv 3) pa_nil)))))))))), ?_⟩
    simp only [dst, n_Mask_common_with]
    walk_at "dgo"
    refine ⟨w, l, g, w', l', g', rfl, hU, fun h => ?_⟩
    subst h
    obtain ⟨hY, hN⟩ := hC rfl
    walk_at "dgo"
    by_cases z : Sub w.toNat (Builtin.bitOr l l') (Builtin.bitAnd g g')
    · rw [(and_iff (hI.wl.or hI'.wl)).mpr z]
      walk_at "dgo"
      exact ⟨w, _, _, rfl, ⟨hI.w1, hI.w2, hI.wl.or hI'.wl, hI.wg.and hI'.wg, z⟩, hY z⟩
    · have nz : Builtin.bitAnd (Builtin.bitOr l l') (Builtin.bitNot (Builtin.bitAnd g g')) ≠ 0 := fun e => z ((and_iff (hI.wl.or hI'.wl)).mp e)
      refine rd_ndec (fun h => ?_) fun h => ?_
      · walk_at "dgo"
        exact hN z
      · exact (nz (by first | exact h | simpa using h)).elim
theorem ok_muni (T : Top mg) (CL_Mask : Cls K c) (OC_Mask : OC K c) (NO_Mask__width : NoAttr K c "_width") (NO_Mask__least : NoAttr K c "_least") (NO_Mask__greatest : NoAttr K c "_greatest")
    (D_Mask_require_width_of : Mt K c "_require_width_of" "Mask._require_width_of" s_Mask_require_width_of ["self", "other"] f1 fd1) (GX_Mask_require_width_of : GOkX P w K mg base 2 f1 fd1 ["self", "other"] (spDX2 K (Sreq c cU)))
    (D_Mask_init : MkC K mg "Mask" c "Mask.__init__" s_Mask_init ["self", "width", "least", "greatest"] f6 fd6) (G_Mask_init : GOk P w K mg base 4 f6 fd6 ["self", "width", "least", "greatest"] (spI K c Sini))
    (F : Fun K "union_with" "Mask.union_with" s_Mask_union_with f fd) : GOkX P w K mg base 6 f fd ["self", "other"] (spDX2 K (Suni c cU)) := by
  refine okDX2 F sc_Mask_union_with (fun h => ?_) (fun G cdv A outer s H E xs t C CE hq hr h hE => ?_)
  · obtain ⟨_, _, _, _, _, _, rfl, _⟩ := h
    rfl
  · obtain ⟨w, l, g, w', l', g', rfl, ⟨hI, hI'⟩, hU, hC⟩ := h
    refine ⟨_, (pss_cons (ps_expr (methGX D_Mask_require_width_of GX_Mask_require_width_of (hr.mono (by omega)) hq (takes_of rfl rfl rfl rfl) (pv 0) (pa_cons (pv 1) pa_nil)))
      (pss_one (ps_ret (makeG D_Mask_init G_Mask_init (hr.mono (by omega)) hq (by rfl) (pa_cons (fld_k (K := K) rfl (pv 0) rfl) (pa_cons (pe_op op_and (fld_k (K := K) rfl (pv 0) rfl) (fld_k (K := K) rfl (pv 1) rfl)) (pa_cons (pe_op op_or (fld_k (K := K) rfl (pv 0) rfl) (fld_k (K := K) rfl (pv 1) rfl)) pa_nil))))))), ?_⟩
    simp only [dst, n_Mask_union_with]
    walk_at "dgo"
    refine ⟨w, l, g, w', l', g', rfl, hU, fun h => ?_⟩
    subst h
    walk_at "dgo"
    exact ⟨w, _, _, rfl, hI.union hI', hC rfl⟩
theorem ok_mwin (T : Top mg) (CL_Mask : Cls K c) (NO_Mask__least : NoAttr K c "_least") (NO_Mask__greatest : NoAttr K c "_greatest")
    (D_Mask_require_width_of : Mt K c "_require_width_of" "Mask._require_width_of" s_Mask_require_width_of ["self", "other"] f1 fd1) (GX_Mask_require_width_of : GOkX P w K mg base 2 f1 fd1 ["self", "other"] (spDX2 K (Sreq c cU)))
    (F : Fun K "is_within" "Mask.is_within" s_Mask_is_within f fd) : GOkX P w K mg base 6 f fd ["self", "other"] (spDX2 K (Swin c cU)) := by
  refine okDX2 F sc_Mask_is_within (fun h => ?_) (fun G cdv A outer s H E xs t C CE hq hr h hE => ?_)
  · obtain ⟨_, _, _, _, _, _, rfl, _⟩ := h
    rfl
  · obtain ⟨w, l, g, w', l', g', rfl, ⟨hI, hI'⟩, hU, hC⟩ := h
    refine ⟨_, (pss_cons (ps_expr (methGX D_Mask_require_width_of GX_Mask_require_width_of (hr.mono (by omega)) hq (takes_of rfl rfl rfl rfl) (pv 0) (pa_cons (pv 1) pa_nil)))
      (pss_one (ps_ret (pe_and (pe_cmpR op_eq (pe_op op_and (fld_k (K := K) rfl (pv 1) rfl) (pe_un un_inv (fld_k (K := K) rfl (pv 0) rfl))) pe_int (nomark _)) (pe_one (pe_cmpR op_eq (pe_op op_and (fld_k (K := K) rfl (pv 0) rfl) (pe_un un_inv (fld_k (K := K) rfl (pv 1) rfl))) pe_int (nomark _))))))), ?_⟩
    simp only [dst, n_Mask_is_within]
    walk_at "dgo"
    refine ⟨w, l, g, w', l', g', rfl, hU, fun h => ?_⟩
    subst h
    have hC := hC rfl
    walk_at "dgo"
    refine rd_dec (fun z => ?_) fun z => ?_
    · have z := (and_iff hI'.wl).mp z
      walk_at "dgo"
      refine hC _ ?_
      rw [decide_eq_true_iff, and_iff hI.wg]
      exact ⟨fun y => ⟨z, y⟩, fun y => y.2⟩
    · refine hC _ ⟨fun y => (Bool.noConfusion y), fun y => (z ((and_iff hI'.wl).mpr y.1)).elim⟩
theorem ok_loth (T : Top mg) (D__law_next : Df K mg "_law_next" s__law_next ["_law_drawn", "_law_many"] f1 fd1) (D__law_one : Df K mg "_law_one" s__law_one ["_law_drawn", "_law_items"] f2 fd2) (D__law_word : Df K mg "_law_word" s__law_word ["_law_drawn", "_law_width_here"] f3 fd3)
    (D__law_ends : Df K mg "_law_ends" s__law_ends ["_law_drawn", "_law_width_here"] f5 fd5)
    (F : Fun K "_law_other_ends" "_law_other_ends" s__law_other_ends f fd) : GOk P w K mg base 5 f fd ["_law_drawn", "_law_width_here", "_law_ends_here"] (spD K Soth) := by
  have G__law_next : GOk P w K mg base 1 f1 fd1 _ (spD K Sn) := okn T D__law_next.fn
  have G__law_word : GOk P w K mg base 3 f3 fd3 _ (spD K Swo) := ok_word T D__law_next D__law_one D__law_word.fn
  have G__law_ends : GOk P w K mg base 4 f5 fd5 _ (spD K Sen) := ok_len T D__law_next D__law_one D__law_word D__law_ends.fn
  refine okD F sc__law_other_ends (fun h => ?_) (fun G cdv A outer s H E xs t C hq hr h => ?_)
  · obtain ⟨_, _, _, rfl, _⟩ := h
    rfl
  · obtain ⟨b, l, g, rfl, hI, t1, hC⟩ := h
    refine ⟨_, (pss_cons (ps_asg (pv 2) (pgt_k (K := K) (n := 2) rfl rfl (pgs_cons (pg_name (i := 3) sc__law_other_ends.nd rfl (by first | exact Or.inl rfl | exact Or.inr rfl)) (pgs_cons (pg_name (i := 4) sc__law_other_ends.nd rfl (by first | exact Or.inl rfl | exact Or.inr rfl)) pgs_nil))))
      (pss_cons (ps_par (i := 5) (j := 6) (by rfl) sc__law_other_ends.nd rfl rfl (by decide) rfl rfl (pa_cons (callG D__law_next G__law_next (hr.mono (by omega)) hq (by rfl) (pa_cons (pv 0) (pa_cons pe_int pa_nil))) (pa_cons (callG D__law_word G__law_word (hr.mono (by omega)) hq (by rfl) (pa_cons (pv 0) (pa_cons (pv 1) pa_nil))) pa_nil)) (by rfl))
      (pss_cons (ps_if (pt_cmpR op_eq (pv 5) pe_int (nomark _))
       (pss_one (ps_ret (pe_tup (pa_cons (pe_op op_and (pv 3) (pv 6)) (pa_cons (pe_op op_or (pv 4) (pe_op op_and (pv 3) (pv 6))) pa_nil)))))
       pss_nil)
      (pss_cons (ps_if (pt_cmpR op_eq (pv 5) pe_int (nomark _))
       (pss_one (ps_ret (pe_tup (pa_cons (pe_op op_or (pv 3) (pe_op op_and (pv 4) (pv 6))) (pa_cons (pv 4) pa_nil)))))
       pss_nil)
      (pss_one (ps_ret (pe_ifExp (PW.pt (pw_and (pt_cmpR op_eq (pv 5) pe_int (nomark _)) (pw_and1 (pt_cmpR op_eq (pe_op op_mod (pv 6) pe_int) pe_int (nomark _))))) (pv 2) (callG D__law_ends G__law_ends (hr.mono (by omega)) hq (by rfl) (pa_cons (pv 0) (pa_cons (pv 1) pa_nil)))))))))), ?_⟩
    simp only [dst, n__law_other_ends]
    have b1 := hI.w1
    have b2 := hI.w2
    walk_at "dgo"
    refine ⟨_, rfl, by omega, by decide, by decide, fun z z0 z1 => ?_⟩
    walk_at "dgo"
    refine ⟨b, rfl, ⟨b1, b2⟩, by omega, fun x x0 x1 t2 ht2 => ?_⟩
    have wx : Wd b.toNat x := ⟨x0, x1⟩
    walk_at "dgo"
    refine rd_dec (fun h => ?_) fun h => ?_
    · walk_at "dgo"
      refine hC _ _ ⟨b1, b2, hI.wl.and wx, hI.wg.or (hI.wl.and wx), fun k _ => ?_⟩ _ (by omega)
      have := bt_01 k (Builtin.bitAnd l x)
      rw [bt_or]
      split <;> omega
    · walk_at "dgo"
      refine rd_dec (fun h => ?_) fun h => ?_
      · walk_at "dgo"
        refine hC _ _ ⟨b1, b2, hI.wl.or (hI.wg.and wx), hI.wg, Sub.or.mpr ⟨hI.s, (Sub.and.mp fun _ _ => Int.le_refl _).1⟩⟩ _ (by omega)
      · walk_at "dgo"
        have last : ∀ l' g', InM b l' g' → ∀ t', t' ≤ t2 + 12 → C (.dat (.tuple [.int l', .int g'])) t' := fun l' g' h' t' ht => hC l' g' h' t' (by omega)
        refine rd_dec (fun h => ?_) fun h => ?_
        · walk_at "dgo"
          refine rd_dec (fun h => ?_) fun h => ?_
          · walk_at "dgo"
            exact last _ _ hI _ (by omega)
          · walk_at "dgo"
            exact ⟨b, rfl, ⟨b1, b2⟩, by omega, fun l' g' hI' t3 ht3 => last _ _ hI' _ ht3⟩
        · walk_at "dgo"
          exact ⟨b, rfl, ⟨b1, b2⟩, by omega, fun l' g' hI' t3 ht3 => last _ _ hI' _ ht3⟩
end
end Lw

set_option Elab.async false
set_option linter.all false
set_option maxRecDepth 100000
set_option maxHeartbeats 4000000
set_option pp.deepTerms false
set_option pp.deepTerms.threshold 12
namespace Lw
open PySem PySem.Spec PyProof.Rows L2 Glay Dl
/-- what is asked of the numbers by the way -/
local macro_rules | `(tactic| walk_at "side") => `(tactic| first
  | rfl
  | decide
  | assumption
  | omega
  | (unfold CMul; omega)
  | (unfold CPowW; exact ⟨by decide, by decide +kernel⟩)
  | exact wide_mul (a := 1400) (b := 1400) (by decide +kernel) (by decide +kernel) (by decide) (by decide) (by decide)
  | exact wide_div (b := 64) (by decide) (by decide) (by decide) (by decide)
  | (unfold CMul; exact Or.inr ⟨by decide, by decide⟩)
  | (unfold CMul; exact Or.inl ⟨by decide, by decide⟩)
  | (unfold CPow; omega)
  | (unfold CPow; refine ⟨by omega, by omega, ?_⟩; omega))
local macro_rules | `(tactic| walk_at "one") => `(tactic| with_reducible first
  | (refine' rd_var ?rdh ?_; (case rdh => with_unfolding_all exact rfl))
  | refine rd_c ?_
  | refine rd_op ?_
  | refine rd_un ?_
  | refine rd_I0 ?_
  | refine rd_I (by walk_at "side") ?_
  | refine rd_U ?_
  | refine rd_seq ?_
  | refine rd_next ?_
  | refine rd_asg ?_
  | refine rd_name ?_
  | refine rd_par ?_
  | refine rd_par2 ?_
  | refine rd_ret ?_
  | refine rd_ifs ?_
  | refine rd_if ?_
  | refine rd_test ?_
  | refine rd_B ?_
  | refine rd_not ?_
  | refine rd_and ?_
  | refine rd_or ?_
  | refine rd_andV ?_
  | refine rd_orV ?_
  | refine rd_notV ?_
  | refine rd_chain ?_
  | refine rd_k ?_
  | refine rd_eq (by with_unfolding_all rfl) ?_
  | refine rd_ne (by with_unfolding_all rfl) ?_
  | refine rd_call ?_
  | refine rd_cb ?_
  | refine rd_nil ?_
  | refine rd_cons ?_
  | refine rd_lst ?_
  | refine rd_gcons ?_
  | refine rd_gnil ?_
  | refine rd_sub ?_
  | (refine' rd_ixL (SqL.of (by assumption)) ?rde ?_; (case rde => with_unfolding_all exact rfl))
  | refine rd_intI ?_
  | refine rd_intB ?_
  | refine rd_abs ?_
  | refine rd_sl ?_
  | refine rd_nopart ?_
  | refine rd_part ?_
  | refine rd_pi ?_
  | refine rd_nt ?_
  | refine rd_nf ?_
  | refine rd_t ?_
  | refine rd_f ?_
  | refine rd_for ?_
  | refine rd_max2 ?_
  | refine rd_izip ?_
  | refine rd_min2 ?_
  | (refine' rd_in (SqT.of (by assumption)) ?rdf ?rda ?_; (case rdf => with_unfolding_all rfl); (case rda => with_unfolding_all rfl))
  | refine rd_lc ?_
  | refine rd_itup ?_
  | refine rd_tyes ?_
  | (refine' rd_ixT (SqT.of (by assumption)) ?rde ?_; (case rde => first | exact at_head | with_unfolding_all exact rfl))
  | refine rd_ilist ?_
  | refine rd_irng ?_
  | refine rd_tup ?_)
local macro_rules | `(tactic| walk_at "rd") => `(tactic| repeat walk_at "one")
/-- one of two ways, by a written text -/
local macro_rules | `(tactic| walk_at "br") => `(tactic| first
  | refine rd_yes (by decide +kernel) ?_
  | refine rd_no (by decide +kernel) ?_
  | refine rd_yesN (by decide +kernel) ?_
  | refine rd_noN (by decide +kernel) ?_
  | refine rd_brT (by decide +kernel) ?_
  | refine rd_brF (by decide +kernel) ?_)
local macro_rules | `(tactic| walk_at "go") => `(tactic| repeat (first | walk_at "one" | walk_at "br"))
/-- the walk of readings told by data -/
local macro_rules | `(tactic| walk_at "side") => `(tactic| first | assumption | exact cshl1 (by omega) (by omega))
local macro_rules | `(tactic| walk_at "d1") => `(tactic| first
  | ((with_reducible refine' se_dat ?rd0 ?_); (case rd0 => exact rfl))
  | ((with_reducible refine' se_ixO ?rd0 ?_); (case rd0 => exact rfl))
  | ((with_reducible refine' se_lenO ?rd0 ?_); (case rd0 => exact rfl))
  | ((with_reducible refine' se_listO ?rd0 ?_); (case rd0 => exact rfl))
  | (with_reducible refine den_int ?_)
  | (with_reducible refine ds_seq ?_)
  | (with_reducible refine ds_asg ?_)
  | (with_reducible refine den_op ?_)
  | ((with_reducible refine' dop_I0 ?rd0 ?_); (case rd0 => first | exact .int _ | exact .bl _ | exact .str _))
  | ((with_reducible refine' dop_I ?rd0 ?rd1 ?_); (case rd0 => first | exact .int _ | exact .bl _ | exact .str _); (case rd1 => walk_at "side"))
  | (with_reducible refine dena_nil ?_)
  | (with_reducible refine dena_cons ?_)
  | (with_reducible refine den_call ?_)
  | (with_reducible refine den_callD ?_)
  | (with_reducible refine den_callN ?_)
  | (with_reducible refine den_sset ?_)
  | (with_reducible refine den_cb ?_)
  | ((with_reducible refine' sg_dat ?rd0 ?rd1 ?_); (case rd0 => first | exact True.intro | decide); (case rd1 => (dsimp only [List.set, wipeD, List.map, List.map_cons, List.map_nil]; try exact rfl)))
  | ((with_reducible refine' sg_soft ?rd0 ?rd1 ?_); (case rd0 => first | exact True.intro | decide); (case rd1 => (dsimp only [List.set, wipeD, List.map, List.map_cons, List.map_nil]; try exact rfl)))
  | ((with_reducible refine' sg_own ?rd0 ?rd1 ?_); (case rd0 => first | exact True.intro | decide); (case rd1 => (dsimp only [List.set, wipeD, List.map, List.map_cons, List.map_nil]; try exact rfl)))
  | ((with_reducible refine' sg_ownD ?rd0 ?rd1 ?_); (case rd0 => first | exact True.intro | decide); (case rd1 => (dsimp only [List.set, wipeD, List.map, List.map_cons, List.map_nil]; try exact rfl)))
  | ((with_reducible refine' sg_drw ?rd0 ?rd1 ?_); (case rd0 => first | exact True.intro | decide); (case rd1 => (dsimp only [List.set, wipeD, List.map, List.map_cons, List.map_nil]; try exact rfl)))
  | (with_reducible refine dent_test ?_)
  | (with_reducible refine ex_b ?_)
  | (with_reducible refine ex_i ?_)
  | (with_reducible refine ex_xy ?_)
  | (with_reducible refine ex_z ?_)
  | ((with_reducible refine' se_drw ?rd0 ?_); (case rd0 => exact rfl))
  | ((with_reducible refine' se_raw ?rd0 ?_); (case rd0 => exact rfl))
  | ((with_reducible refine' se_own ?rd0 ?rd1 ?_); (case rd0 => exact rfl); (case rd1 => (dsimp only [List.set, wipeD, List.map, List.map_cons, List.map_nil]; try exact rfl)))
  | ((with_reducible refine' se_datO ?rd0 ?_); (case rd0 => exact rfl))
  | (with_reducible refine den_bl ?_)
  | (with_reducible refine den_str ?_)
  | (with_reducible refine den_non ?_)
  | (with_reducible refine den_ty ?_)
  | (with_reducible refine den_ref ?_)
  | (with_reducible refine den_un ?_)
  | ((with_reducible refine' dun_U ?rd0 ?_); (case rd0 => first | exact .int _ | exact .bl _ | exact .str _))
  | ((with_reducible refine' dop_eq ?rd0 ?_); (case rd0 => with_unfolding_all exact rfl))
  | ((with_reducible refine' dop_ne ?rd0 ?_); (case rd0 => with_unfolding_all exact rfl))
  | ((with_reducible refine' dop_isN ?rd0 ?_); (case rd0 => with_unfolding_all exact rfl))
  | ((with_reducible refine' dop_notN ?rd0 ?_); (case rd0 => with_unfolding_all exact rfl))
  | (with_reducible refine den_not ?_)
  | (with_reducible refine den_and ?_)
  | (with_reducible refine den_or ?_)
  | (with_reducible refine den_if ?_)
  | (with_reducible refine den_chain ?_)
  | (with_reducible refine den_tup ?_)
  | (with_reducible refine den_lst ?_)
  | (with_reducible refine den_sl ?_)
  | (with_reducible refine deno_none ?_)
  | (with_reducible refine deno_some ?_)
  | (with_reducible refine den_lrg1 ?_)
  | (with_reducible refine den_lrg2 ?_)
  | ((with_reducible refine' dcb_len ?rd0 ?_); (case rd0 => with_unfolding_all exact rfl))
  | (with_reducible refine dcb_lenT ?_)
  | (with_reducible refine dsl_A ?_)
  | (with_reducible refine den_dnew ?_)
  | (with_reducible refine den_disp1 ?_)
  | (with_reducible refine den_bits ?_)
  | (with_reducible refine dena_star ?_)
  | (with_reducible refine den_revT ?_)
  | ((with_reducible refine' dcb_list ?rd0 ?_); (case rd0 => with_unfolding_all exact rfl))
  | (with_reducible refine dcb_listT ?_)
  | ((with_reducible refine' dcb_tup ?rd0 ?_); (case rd0 => with_unfolding_all exact rfl))
  | (with_reducible refine dcb_int ?_)
  | (with_reducible refine dcb_intB ?_)
  | (with_reducible refine dcb_abs ?_)
  | (with_reducible refine dcb_max2 ?_)
  | (with_reducible refine dcb_min2 ?_)
  | ((with_reducible refine' dcb_isi ?rd0 ?rd1 ?rd2 ?rd3 ?_); (case rd0 => with_unfolding_all exact rfl); (case rd1 => with_unfolding_all exact rfl); (case rd2 => first | exact kb_tuple_tuple | exact kb_tuple_list | exact kb_tuple_int | exact kb_tuple_bool | exact kb_tuple_str | exact kb_tuple_dict | exact kb_list_tuple | exact kb_list_list | exact kb_list_int | exact kb_list_bool | exact kb_list_str | exact kb_list_dict | exact kb_int_tuple | exact kb_int_list | exact kb_int_int | exact kb_int_bool | exact kb_int_str | exact kb_int_dict | exact kb_bool_tuple | exact kb_bool_list | exact kb_bool_int | exact kb_bool_bool | exact kb_bool_str | exact kb_bool_dict | exact kb_str_tuple | exact kb_str_list | exact kb_str_int | exact kb_str_bool | exact kb_str_str | exact kb_str_dict | exact kb_NoneType_tuple | exact kb_NoneType_list | exact kb_NoneType_int | exact kb_NoneType_bool | exact kb_NoneType_str | exact kb_NoneType_dict | exact kb_dict_tuple | exact kb_dict_list | exact kb_dict_int | exact kb_dict_bool | exact kb_dict_str | exact kb_dict_dict); (case rd3 => first | exact .inl (by decide) | exact .inr (by decide)))
  | ((with_reducible refine' dcb_isO ?rd0 ?rd1 ?_); (case rd0 => with_unfolding_all exact rfl); (case rd1 => assumption))
  | (with_reducible refine dent_B ?_)
  | (with_reducible refine dent_not ?_)
  | (with_reducible refine dent_and ?_)
  | (with_reducible refine dent_or ?_)
  | (with_reducible refine dent_yes ?_)
  | (with_reducible refine dgs_nil ?_)
  | ((with_reducible refine' dgs_cons ?rd0 ?_); (case rd0 => exact fun _ => rfl))
  | ((with_reducible refine' dg_tup ?rd0 ?_); (case rd0 => with_unfolding_all exact rfl); simp only [List.map_cons, List.map_nil])
  | ((with_reducible refine' dg_unl ?rd0 ?rd1 ?_); (case rd0 => with_unfolding_all exact rfl); (case rd1 => with_unfolding_all exact rfl); simp only [List.map_cons, List.map_nil])
  | ((with_reducible refine' sg_sub ?rd0 ?rd1 ?_); (case rd0 => exact rfl); (case rd1 => exact rfl))
  | (with_reducible refine ds_next ?_)
  | (with_reducible refine ds_break ?_)
  | (with_reducible refine ds_cont ?_)
  | (with_reducible refine ds_ret ?_)
  | (with_reducible refine ds_retN ?_)
  | ((with_reducible refine' ss_app ?rd0 ?_); (case rd0 => exact rfl))
  | ((with_reducible refine' ss_ext ?rd0 ?_); (case rd0 => exact rfl))
  | (with_reducible refine ds_drop ?_)
  | (with_reducible refine ds_if ?_)
  | (with_reducible refine ds_par ?_)
  | (with_reducible refine ds_parO ?_)
  | (with_reducible refine ds_parP ?_)
  | (with_reducible refine ds_par3 ?_)
  | (with_reducible refine ex_xyz ?_)
  | ((with_reducible refine' ss_augA ?rd0 ?_); (case rd0 => exact rfl))
  | (with_reducible refine di_list ?_)
  | (with_reducible refine di_tup ?_)
  | (with_reducible refine di_rng1 ?_)
  | (with_reducible refine di_rng2 ?_)
  | (with_reducible refine di_zip ?_)
  | (with_reducible refine di_zipM ?_)
  | (with_reducible refine di_rev1 ?_)
  | (with_reducible refine di_rev2 ?_)
  | (with_reducible refine ex_T ?_)
  | ((with_reducible refine' ex_ds ?rd0 ?rd1 ?_); (case rd0 => with_unfolding_all exact rfl); (case rd1 => with_unfolding_all exact Nat.le_of_ble_eq_true rfl))
  | ((with_reducible refine' ex_dv ?rd0 ?_); (case rd0 => with_unfolding_all exact rfl))
  | ((with_reducible refine' ex_L ?rd0 ?_); (case rd0 => with_unfolding_all exact rfl))
  | (with_reducible refine rd_t ?_)
  | (with_reducible refine rd_f ?_)
  | (with_reducible refine rd_nt ?_)
  | (with_reducible refine rd_nf ?_)
  | ((with_reducible refine' se_rg ?rd0 ?_); (case rd0 => exact rfl))
  | ((with_reducible refine' sg_rg ?rd0 ?rd1 ?_); (case rd0 => first | exact True.intro | decide); (case rd1 => (dsimp only [List.set, wipeD, List.map, List.map_cons, List.map_nil]; try exact rfl)))
  | (with_reducible refine dcb_rgv ?_)
  | (with_reducible refine ex_rg ?_)
  | (with_reducible refine di_rgv ?_)
  | (with_reducible refine dop_isB ?_)
  | (with_reducible refine dop_notB ?_)
  | (with_reducible refine den_fld ?_)
  | ((with_reducible refine' ex_fld ?rd0 ?rd1 ?rd2 ?_); (case rd0 => with_unfolding_all exact rfl); (case rd1 => exact ⟨by assumption, by assumption⟩); (case rd2 => first | (with_reducible exact Fg.here) | (with_reducible exact (Fg.there (by decide +kernel) Fg.here)) | (with_reducible exact (Fg.there (by decide +kernel) (Fg.there (by decide +kernel) Fg.here))) | (with_reducible exact (Fg.there (by decide +kernel) (Fg.there (by decide +kernel) (Fg.there (by decide +kernel) Fg.here)))) | (with_reducible exact (Fg.there (by decide +kernel) (Fg.there (by decide +kernel) (Fg.there (by decide +kernel) (Fg.there (by decide +kernel) Fg.here))))) | (with_reducible exact (Fg.there (by decide +kernel) (Fg.there (by decide +kernel) (Fg.there (by decide +kernel) (Fg.there (by decide +kernel) (Fg.there (by decide +kernel) Fg.here)))))) | (with_reducible exact (Fg.there (by decide +kernel) (Fg.there (by decide +kernel) (Fg.there (by decide +kernel) (Fg.there (by decide +kernel) (Fg.there (by decide +kernel) (Fg.there (by decide +kernel) Fg.here))))))) | (with_reducible exact (Fg.there (by decide +kernel) (Fg.there (by decide +kernel) (Fg.there (by decide +kernel) (Fg.there (by decide +kernel) (Fg.there (by decide +kernel) (Fg.there (by decide +kernel) (Fg.there (by decide +kernel) Fg.here))))))))))
  | (with_reducible refine den_meth ?_)
  | ((with_reducible refine' ex_om ?rd0 ?rd1 ?_); (case rd0 => with_unfolding_all exact rfl); (case rd1 => repeat (first | exact Fn.nil | (refine' Fn.cons ?rne ?_; (case rne => decide +kernel)))))
  | (with_reducible refine den_prop ?_)
  | ((with_reducible refine' ex_op ?rd0 ?_); (case rd0 => with_unfolding_all exact rfl))
  | (with_reducible refine den_inst ?_)
  | ((with_reducible refine' den_make ?rd0 ?_); (case rd0 => assumption))
  | ((with_reducible refine' dop_ins ?rd0 ?rd1 ?_); (case rd0 => with_unfolding_all exact rfl); (case rd1 => with_unfolding_all exact rfl))
  | ((with_reducible refine' dop_insN ?rd0 ?rd1 ?_); (case rd0 => with_unfolding_all exact rfl); (case rd1 => with_unfolding_all exact rfl))
  | ((with_reducible refine' dop_insI ?rd0 ?_); (case rd0 => with_unfolding_all exact rfl))
  | ((with_reducible refine' dop_insNI ?rd0 ?_); (case rd0 => with_unfolding_all exact rfl))
  | ((with_reducible refine' dun_ins ?rd0 ?_); (case rd0 => with_unfolding_all exact rfl))
  | (with_reducible refine dop_leB ?_)
  | (with_reducible refine di_ks ?_)
  | (with_reducible refine den_join ?_)
  | (with_reducible refine den_revL ?_)
  | (with_reducible refine den_jd ?_)
  | (with_reducible refine denj_nil ?_)
  | (with_reducible refine denj_cons ?_)
  | (with_reducible refine den_fmt ?_)
  | (with_reducible refine den_maxd ?_)
  | (with_reducible refine di_enTS ?_)
  | (with_reducible refine di_enT ?_)
  | (with_reducible refine ex_T1 ?_)
  | (with_reducible refine den_skT ?_)
  | (with_reducible refine di_enL ?_)
  | ((with_reducible refine' den_callX2 ?rd0 ?_); (case rd0 => first | assumption | exact outE2.wt (by assumption) | exact WT.never))
  | ((with_reducible refine' den_methX ?rd0 ?_); (case rd0 => first | assumption | exact outE2.wt (by assumption) | exact WT.never))
  | ((with_reducible refine' den_opX ?rd0 ?_); (case rd0 => first | assumption | exact outE2.wt (by assumption) | exact WT.never))
  | ((with_reducible refine' den_instX ?rd0 ?_); (case rd0 => first | assumption | exact outE2.wt (by assumption) | exact WT.never))
  | ((with_reducible refine' den_makeX ?rd0 ?rd1 ?_); (case rd0 => first | assumption | exact outE2.wt (by assumption) | exact WT.never); (case rd1 => assumption))
  | ((with_reducible refine' ex_ob2 ?rd0 ?rd1 ?_); (case rd0 => with_unfolding_all exact rfl); (case rd1 => with_unfolding_all exact rfl))
  | ((with_reducible refine' dcb_strO ?rd0 ?_); (case rd0 => with_unfolding_all exact rfl)))
local macro_rules | `(tactic| walk_at "dw") => `(tactic| repeat walk_at "d1")
local macro_rules | `(tactic| walk_at "dgo") => `(tactic| repeat (first | walk_at "d1" | refine rd_yes rfl ?_ | refine rd_noN rfl ?_ | refine rd_brT (by rfl) ?_ | refine rd_brF (by rfl) ?_))
/-! ### small, great, refused, the law -/
def Sref (c : Addr) : DSp := fun xs t C => ∃ k w l g w' l' g' : Int, xs = [.dat (.int k), .dat (mkD c w l g), .dat (mkD c w' l' g')] ∧ (InM w l g ∧ InM w' l' g' ∧ w ≠ w') ∧ C (.dat (.bool true)) t
theorem bitOr_comm (x y : Int) : Builtin.bitOr x y = Builtin.bitOr y x := by
  show Builtin.bitNot (Builtin.bitAnd _ _) = Builtin.bitNot (Builtin.bitAnd _ _)
  rw [bitAnd_comm]
section
variable {P : Program} {w : World} {K : PySem.W.Frag} {mg : Str → Option Value} {base : Heap} {c cU f f1 f2 f3 f4 f5 f6 f7 f8 f9 f10 f11 f12 f13 f14 f15 f16 : Addr} {fd fd1 fd2 fd3 fd4 fd5 fd6 fd7 fd8 fd9 fd10 fd11 fd12 fd13 fd14 fd15 fd16 : FuncData}
theorem ok_lsm (T : Top mg) (OC_Mask : OC K c) (sf_Mask : PySem.W.selfFirst K c = true) (D__law_next : Df K mg "_law_next" s__law_next ["_law_drawn", "_law_many"] f1 fd1)
    (D__law_one : Df K mg "_law_one" s__law_one ["_law_drawn", "_law_items"] f2 fd2)
    (D__law_word : Df K mg "_law_word" s__law_word ["_law_drawn", "_law_width_here"] f3 fd3)
    (D__law_ends : Df K mg "_law_ends" s__law_ends ["_law_drawn", "_law_width_here"] f4 fd4)
    (D__law_other_ends : Df K mg "_law_other_ends" s__law_other_ends ["_law_drawn", "_law_width_here", "_law_ends_here"] f5 fd5)
    (D_Mask_init : MkC K mg "Mask" c "Mask.__init__" s_Mask_init ["self", "width", "least", "greatest"] f6 fd6) (G_Mask_init : GOk P w K mg base 4 f6 fd6 ["self", "width", "least", "greatest"] (spI K c Sini))
    (D__law_members : Df K mg "_law_members" s__law_members ["_law_width_here", "_law_least", "_law_greatest"] f7 fd7)
    (D__law_hull : Df K mg "_law_hull" s__law_hull ["_law_width_here", "_law_words"] f8 fd8)
    (D_Mask_str : Mt K c "__str__" "Mask.__str__" s_Mask_str ["self"] f9 fd9) (G_Mask_str : GOk P w K mg base 3 f9 fd9 ["self"] (spD K fun xs t C => ∃ w l g : Int, xs = [.dat (mkD c w l g)] ∧ InM w l g ∧ C (.dat (.str (Txt.join "" (msL w l g)))) t))
    (D_Mask_least : Pp K c "least" "Mask.least" s_Mask_least f10 fd10) (G_Mask_least : GOk P w K mg base 1 f10 fd10 ["self"] (spD K (Slea c)))
    (D_Mask_greatest : Pp K c "greatest" "Mask.greatest" s_Mask_greatest f11 fd11) (G_Mask_greatest : GOk P w K mg base 1 f11 fd11 ["self"] (spD K (Sgre c)))
    (D_Mask_common_with : Mt K c "common_with" "Mask.common_with" s_Mask_common_with ["self", "other"] f12 fd12) (GX_Mask_common_with : GOkX P w K mg base 6 f12 fd12 ["self", "other"] (spDX2 K (Scom c cU)))
    (D_Mask_union_with : Mt K c "union_with" "Mask.union_with" s_Mask_union_with ["self", "other"] f13 fd13) (GX_Mask_union_with : GOkX P w K mg base 6 f13 fd13 ["self", "other"] (spDX2 K (Suni c cU)))
    (D_Mask_is_within : Mt K c "is_within" "Mask.is_within" s_Mask_is_within ["self", "other"] f14 fd14) (GX_Mask_is_within : GOkX P w K mg base 6 f14 fd14 ["self", "other"] (spDX2 K (Swin c cU)))
    (F : Fun K "_law_small_right" "_law_small_right" s__law_small_right f fd) : GOk P w K mg base 12 f fd ["_law_drawn"] (spD K (Strue 400)) := by
  have G__law_next : GOk P w K mg base 1 f1 fd1 _ (spD K Sn) := okn T D__law_next.fn
  have G__law_ends : GOk P w K mg base 4 f4 fd4 _ (spD K Sen) := ok_len T D__law_next D__law_one D__law_word D__law_ends.fn
  have G__law_other_ends : GOk P w K mg base 5 f5 fd5 _ (spD K Soth) := ok_loth T D__law_next D__law_one D__law_word D__law_ends D__law_other_ends.fn
  have G__law_members : GOk P w K mg base 1 f7 fd7 _ (spD K Smem) := ok_lmem T D__law_members.fn
  have G__law_hull : GOk P w K mg base 1 f8 fd8 _ (spD K Shul) := ok_lhul T D__law_hull.fn
  refine okD F sc__law_small_right (fun h => ?_) (fun G cdv A outer s H E xs t C hq hr h => ?_)
  · obtain ⟨rfl, _⟩ := h
    rfl
  · obtain ⟨rfl, t1, hC⟩ := h
    refine ⟨_, (pss_cons (ps_set (i := 1) sc__law_small_right.nd rfl (by first | exact Or.inl rfl | exact Or.inr rfl) (pe_op op_add pe_int (callG D__law_next G__law_next (hr.mono (by omega)) hq (by rfl) (pa_cons (pv 0) (pa_cons pe_int pa_nil)))))
      (pss_cons (ps_set (i := 2) sc__law_small_right.nd rfl (by first | exact Or.inl rfl | exact Or.inr rfl) (callG D__law_ends G__law_ends (hr.mono (by omega)) hq (by rfl) (pa_cons (pv 0) (pa_cons (pv 1) pa_nil))))
      (pss_cons (ps_set (i := 3) sc__law_small_right.nd rfl (by first | exact Or.inl rfl | exact Or.inr rfl) (callG D__law_other_ends G__law_other_ends (hr.mono (by omega)) hq (by rfl) (pa_cons (pv 0) (pa_cons (pv 1) (pa_cons (pv 2) pa_nil)))))
      (pss_cons (ps_par (i := 4) (j := 5) (by rfl) sc__law_small_right.nd rfl rfl (by decide) rfl rfl (pa_cons (makeG D_Mask_init G_Mask_init (hr.mono (by omega)) hq (by rfl) (pa_cons (pv 1) (pa_cons (pe_ix (ixt_k (K := K) rfl) (pv 2) pe_int (fun _ _ => rfl)) (pa_cons (pe_ix (ixt_k (K := K) rfl) (pv 2) pe_int (fun _ _ => rfl)) pa_nil)))) (pa_cons (makeG D_Mask_init G_Mask_init (hr.mono (by omega)) hq (by rfl) (pa_cons (pv 1) (pa_cons (pe_ix (ixt_k (K := K) rfl) (pv 3) pe_int (fun _ _ => rfl)) (pa_cons (pe_ix (ixt_k (K := K) rfl) (pv 3) pe_int (fun _ _ => rfl)) pa_nil)))) pa_nil)) (by rfl))
      (pss_cons (ps_asg (pe_tup (pa_cons (callG D__law_members G__law_members (hr.mono (by omega)) hq (by rfl) (pa_cons (pv 1) (pa_cons (pe_ix (ixt_k (K := K) rfl) (pv 2) pe_int (fun _ _ => rfl)) (pa_cons (pe_ix (ixt_k (K := K) rfl) (pv 2) pe_int (fun _ _ => rfl)) pa_nil)))) (pa_cons (callG D__law_members G__law_members (hr.mono (by omega)) hq (by rfl) (pa_cons (pv 1) (pa_cons (pe_ix (ixt_k (K := K) rfl) (pv 3) pe_int (fun _ _ => rfl)) (pa_cons (pe_ix (ixt_k (K := K) rfl) (pv 3) pe_int (fun _ _ => rfl)) pa_nil)))) pa_nil))) (pgt_k (K := K) (n := 2) rfl rfl (pgs_cons (pg_name (i := 6) sc__law_small_right.nd rfl (by first | exact Or.inl rfl | exact Or.inr rfl)) (pgs_cons (pg_name (i := 7) sc__law_small_right.nd rfl (by first | exact Or.inl rfl | exact Or.inr rfl)) pgs_nil))))
      (pss_cons (ps_par (i := 8) (j := 9) (by rfl) sc__law_small_right.nd rfl rfl (by decide) rfl rfl (pa_cons (pe_lc (own := [("_law_word_here", 10)]) (g := _) (by rfl) sc__law_small_right.nd (pil_k (K := K) rfl (pv 6)) (blkOk_by (own := [("_law_word_here", 10)]) (N := n__law_small_right) (sc := defScope s__law_small_right) (by decide +kernel)) (fun _ _ _ _ _ => (pg_name (i := 10) sc__law_small_right.nd rfl (by first | exact Or.inl rfl | exact Or.inr rfl))) (fun _ _ _ _ _ => (pts_one (pt_cmpR (ins_k (K := K) rfl) (pv 10) (pv 7) (by rfl)))) (fun _ _ _ _ _ => (pv 10))) (pa_cons (methGX D_Mask_common_with GX_Mask_common_with (hr.mono (by omega)) hq takes0 (pv 4) (pa_cons (pv 5) pa_nil)) pa_nil)) (by rfl))
      (pss_cons (ps_if (PW.pt (pw_or (pt_cmpR op_ne (pe_cmpR op_isN (pv 9) pe_non (nomark _)) (pe_cmpR (eqd_k (K := K) rfl hr.units) (pv 8) (pe_lst pa_nil) (nomark _)) (nomark _)) (pw_or1 (pt_cmpR op_ne (pe_callB (reprD_k (K := K) rfl hq (roomU hr)) (by rfl) T.z_repr (by decide +kernel) (pa_cons (methGX D_Mask_is_within GX_Mask_is_within (hr.mono (by omega)) hq takes0 (pv 4) (pa_cons (pv 5) pa_nil)) pa_nil)) (pe_callB (reprD_k (K := K) rfl hq (roomU hr)) (by rfl) T.z_repr (by decide +kernel) (pa_cons (pe_cmpR (eqd_k (K := K) rfl hr.units) (pv 8) (pv 6) (nomark _)) pa_nil)) (nomark _)))))
       (pss_one (ps_ret pe_bl))
       pss_nil)
      (pss_cons (ps_if (PW.pt (pw_and (pt_cmpR (ned_k (K := K) rfl hr.units) (pv 8) (pe_lst pa_nil) (nomark _)) (pw_and1 (pt_cmpR (ned_k (K := K) rfl hr.units) (callG D__law_members G__law_members (hr.mono (by omega)) hq (by rfl) (pa_cons (pv 1) (pa_cons (propG D_Mask_least G_Mask_least (hr.mono (by omega)) hq (pv 9)) (pa_cons (propG D_Mask_greatest G_Mask_greatest (hr.mono (by omega)) hq (pv 9)) pa_nil)))) (pv 8) (nomark _)))))
       (pss_one (ps_ret pe_bl))
       pss_nil)
      (pss_cons (ps_if (pt_cmpR op_ne (pe_callB (reprD_k (K := K) rfl hq (roomU hr)) (by rfl) T.z_repr (by decide +kernel) (pa_cons (methGX D_Mask_is_within GX_Mask_is_within (hr.mono (by omega)) hq takes0 (pv 5) (pa_cons (pv 4) pa_nil)) pa_nil)) (pe_callB (reprD_k (K := K) rfl hq (roomU hr)) (by rfl) T.z_repr (by decide +kernel) (pa_cons (pe_cmpR (eqd_k (K := K) rfl hr.units) (pv 8) (pv 7) (nomark _)) pa_nil)) (nomark _))
       (pss_one (ps_ret pe_bl))
       pss_nil)
      (pss_one (ps_ret (pe_cmpR op_eq (pe_callTy (strG D_Mask_str G_Mask_str (hr.mono (by omega)) hq) (by rfl) T.z_str (by decide +kernel) (pa_cons (methGX D_Mask_union_with GX_Mask_union_with (hr.mono (by omega)) hq takes0 (pv 4) (pa_cons (pv 5) pa_nil)) pa_nil)) (callG D__law_hull G__law_hull (hr.mono (by omega)) hq (by rfl) (pa_cons (pv 1) (pa_cons (pe_op op_cat (pv 6) (pv 7)) pa_nil))) (nomark _))))))))))))), ?_⟩
    simp only [dst, n__law_small_right]
    walk_at "dgo"
    refine ⟨_, rfl, by omega, by decide, by decide, fun u u0 u1 => ?_⟩
    walk_at "dgo"
    refine ⟨1 + u, rfl, by omega, by omega, fun l g hI t2 ht2 => ?_⟩
    walk_at "dgo"
    refine ⟨1 + u, l, g, rfl, hI, by omega, fun l' g' hI' t3 ht3 => ?_⟩
    walk_at "dgo"
    refine dop_ixT rfl ?_
    walk_at "dgo"
    refine dop_ixT rfl ?_
    walk_at "dgo"
    refine ⟨1 + u, l, g, rfl, hI, ?_⟩
    walk_at "dgo"
    refine dop_ixT rfl ?_
    walk_at "dgo"
    refine dop_ixT rfl ?_
    walk_at "dgo"
    refine ⟨1 + u, l', g', rfl, hI', ?_⟩
    walk_at "dgo"
    refine dop_ixT rfl ?_
    walk_at "dgo"
    refine dop_ixT rfl ?_
    walk_at "dgo"
    refine ⟨1 + u, l, g, rfl, ⟨hI, by omega⟩, fun p1 => ?_⟩
    walk_at "dgo"
    refine dop_ixT rfl ?_
    walk_at "dgo"
    refine dop_ixT rfl ?_
    walk_at "dgo"
    refine ⟨1 + u, l', g', rfl, ⟨hI', by omega⟩, fun p2 => ?_⟩
    walk_at "dgo"
    have lA : (memL (1 + u) l g).length ≤ 64 := memL_len (by omega)
    have lB : (memL (1 + u) l' g').length ≤ 64 := memL_len (by omega)
    refine den_lcF id (cI fun x => decide (x ∈ memL (1 + u) l' g')) ?_
    walk_at "dgo"
    refine ⟨by rw [List.length_map]; omega, fun d hd τ4 => ?_, fun p4 => ?_⟩
    · obtain ⟨x, _, rfl⟩ := List.mem_map.mp hd
      walk_at "dgo"
      refine dop_inI rfl rfl ?_
      have em : cI (fun x => decide (x ∈ memL (1 + u) l' g')) (.int x) = decide (x ∈ memL (1 + u) l' g') := rfl
      rw [em]
      refine ⟨_, rfl, rfl, ?_⟩
      by_cases z : x ∈ memL (1 + u) l' g'
      · rw [if_pos (decide_eq_true z)]
        walk_at "dgo"
        exact ⟨rfl, rfl, rfl⟩
      · rw [if_neg (by rw [decide_eq_false z]; decide)]
        exact ⟨rfl, rfl⟩
    rw [filter_ints, both_eq hI.wl hI'.wl]
    have nil := memL_nil (g := Builtin.bitAnd g g') (hI.wl.or hI'.wl)
    have e1 := within_iff hI hI'
    have e2 := within_iff hI' hI
    rw [bitOr_comm, bitAnd_comm] at e2
    have union : ∀ lo hi, Hul (1 + u).toNat (memL (1 + u) l g ++ memL (1 + u) l' g') lo hi → msL (1 + u) lo hi = msL (1 + u) (Builtin.bitAnd l l') (Builtin.bitOr g g') := fun lo hi H => by
      obtain ⟨rfl, rfl⟩ := hull_union hI hI' H
      rfl
    have inM : Sub (1 + u).toNat (Builtin.bitOr l l') (Builtin.bitAnd g g') → InM (1 + u) (Builtin.bitOr l l') (Builtin.bitAnd g g') := fun z => ⟨hI.w1, hI.w2, hI.wl.or hI'.wl, hI.wg.and hI'.wg, z⟩
    generalize hX : memL (1 + u) (Builtin.bitOr l l') (Builtin.bitAnd g g') = X at nil e1 e2
    walk_at "dgo"
    refine ⟨1 + u, l, g, 1 + u, l', g', rfl, ⟨hI, hI'⟩, fun n => (n rfl).elim, fun _ => ⟨fun z => ?_, fun z => ?_⟩⟩
    · have nn : X ≠ [] := fun e => (nil.mp e) z
      walk_at "dgo"
      refine fun p9 => dop_eqN rfl rfl ?_
      rw [decide_eq_false nn]
      walk_at "dgo"
      refine ⟨1 + u, l, g, 1 + u, l', g', rfl, ⟨hI, hI'⟩, fun n => (n rfl).elim, fun _ b hb => ?_⟩
      walk_at "dgo"
      refine dcb_reprD rfl (sh_bool _) ?_
      walk_at "dgo"
      refine dop_eqI rfl rfl ?_
      rw [show decide (X = memL (1 + u) l g) = b from Bool.eq_iff_iff.mpr (by rw [decide_eq_true_iff, e1, hb])]
      walk_at "dgo"
      refine dcb_reprD rfl (sh_bool _) ?_
      walk_at "dgo"
      refine fun p8 => dop_neN rfl rfl ?_
      rw [decide_eq_false nn]
      walk_at "dgo"
      refine ⟨1 + u, _, _, rfl, ?_⟩
      walk_at "dgo"
      refine ⟨1 + u, _, _, rfl, ?_⟩
      walk_at "dgo"
      refine ⟨1 + u, _, _, rfl, ⟨inM z, by omega⟩, fun p5 => ?_⟩
      rw [hX]
      walk_at "dgo"
      refine dop_neI rfl rfl ?_
      rw [decide_eq_true rfl]
      walk_at "dgo"
      refine ⟨1 + u, l', g', 1 + u, l, g, rfl, ⟨hI', hI⟩, fun n => (n rfl).elim, fun _ b' hb' => ?_⟩
      walk_at "dgo"
      refine dcb_reprD rfl (sh_bool _) ?_
      walk_at "dgo"
      refine dop_eqI rfl rfl ?_
      rw [show decide (X = memL (1 + u) l' g') = b' from Bool.eq_iff_iff.mpr (by rw [decide_eq_true_iff, e2, hb'])]
      walk_at "dgo"
      refine dcb_reprD rfl (sh_bool _) ?_
      walk_at "dgo"
      refine ⟨1 + u, l, g, 1 + u, l', g', rfl, ⟨hI, hI'⟩, fun n => (n rfl).elim, fun _ => ?_⟩
      walk_at "dgo"
      refine ⟨1 + u, _, _, rfl, hI.union hI', _, rfl, ?_⟩
      walk_at "dgo"
      refine dop_cat rfl rfl (by rw [List.length_map, List.length_map]; omega) fun p6 => ?_
      walk_at "dgo"
      refine ⟨1 + u, memL (1 + u) l g ++ memL (1 + u) l' g', by rw [List.map_append]; rfl, by omega, fun x hx => ?_, fun lo gr hH => ?_⟩
      · rcases List.mem_append.mp hx with hx | hx
        · exact ((mem_memL2 hI.wl).mp hx).1
        · exact ((mem_memL2 hI'.wl).mp hx).1
      rw [union _ _ hH]
      walk_at "dgo"
      rw [decide_eq_true rfl]
      exact hC _ (by omega)
    · have nn : X = [] := nil.mpr z
      walk_at "dgo"
      refine fun p9 => dop_eqN rfl rfl ?_
      rw [decide_eq_true nn]
      walk_at "dgo"
      refine ⟨1 + u, l, g, 1 + u, l', g', rfl, ⟨hI, hI'⟩, fun n => (n rfl).elim, fun _ b hb => ?_⟩
      walk_at "dgo"
      refine dcb_reprD rfl (sh_bool _) ?_
      walk_at "dgo"
      refine dop_eqI rfl rfl ?_
      rw [show decide (X = memL (1 + u) l g) = b from Bool.eq_iff_iff.mpr (by rw [decide_eq_true_iff, e1, hb])]
      walk_at "dgo"
      refine dcb_reprD rfl (sh_bool _) ?_
      walk_at "dgo"
      refine fun p8 => dop_neN rfl rfl ?_
      rw [decide_eq_true nn]
      walk_at "dgo"
      refine ⟨1 + u, l', g', 1 + u, l, g, rfl, ⟨hI', hI⟩, fun n => (n rfl).elim, fun _ b' hb' => ?_⟩
      walk_at "dgo"
      refine dcb_reprD rfl (sh_bool _) ?_
      walk_at "dgo"
      refine dop_eqI rfl rfl ?_
      rw [show decide (X = memL (1 + u) l' g') = b' from Bool.eq_iff_iff.mpr (by rw [decide_eq_true_iff, e2, hb'])]
      walk_at "dgo"
      refine dcb_reprD rfl (sh_bool _) ?_
      walk_at "dgo"
      refine ⟨1 + u, l, g, 1 + u, l', g', rfl, ⟨hI, hI'⟩, fun n => (n rfl).elim, fun _ => ?_⟩
      walk_at "dgo"
      refine ⟨1 + u, _, _, rfl, hI.union hI', _, rfl, ?_⟩
      walk_at "dgo"
      refine dop_cat rfl rfl (by rw [List.length_map, List.length_map]; omega) fun p6 => ?_
      walk_at "dgo"
      refine ⟨1 + u, memL (1 + u) l g ++ memL (1 + u) l' g', by rw [List.map_append]; rfl, by omega, fun x hx => ?_, fun lo gr hH => ?_⟩
      · rcases List.mem_append.mp hx with hx | hx
        · exact ((mem_memL2 hI.wl).mp hx).1
        · exact ((mem_memL2 hI'.wl).mp hx).1
      rw [union _ _ hH]
      walk_at "dgo"
      rw [decide_eq_true rfl]
      exact hC _ (by omega)
end
end Lw

set_option Elab.async false
set_option linter.all false
set_option maxRecDepth 100000
set_option maxHeartbeats 4000000
set_option pp.deepTerms false
set_option pp.deepTerms.threshold 12
namespace Lw
open PySem PySem.Spec PyProof.Rows L2 Glay Dl
/-- what is asked of the numbers by the way -/
local macro_rules | `(tactic| walk_at "side") => `(tactic| first
  | rfl
  | decide
  | assumption
  | omega
  | (unfold CMul; omega)
  | (unfold CPowW; exact ⟨by decide, by decide +kernel⟩)
  | exact wide_mul (a := 1400) (b := 1400) (by decide +kernel) (by decide +kernel) (by decide) (by decide) (by decide)
  | exact wide_div (b := 64) (by decide) (by decide) (by decide) (by decide)
  | (unfold CMul; exact Or.inr ⟨by decide, by decide⟩)
  | (unfold CMul; exact Or.inl ⟨by decide, by decide⟩)
  | (unfold CPow; omega)
  | (unfold CPow; refine ⟨by omega, by omega, ?_⟩; omega))
local macro_rules | `(tactic| walk_at "one") => `(tactic| with_reducible first
  | (refine' rd_var ?rdh ?_; (case rdh => with_unfolding_all exact rfl))
  | refine rd_c ?_
  | refine rd_op ?_
  | refine rd_un ?_
  | refine rd_I0 ?_
  | refine rd_I (by walk_at "side") ?_
  | refine rd_U ?_
  | refine rd_seq ?_
  | refine rd_next ?_
  | refine rd_asg ?_
  | refine rd_name ?_
  | refine rd_par ?_
  | refine rd_par2 ?_
  | refine rd_ret ?_
  | refine rd_ifs ?_
  | refine rd_if ?_
  | refine rd_test ?_
  | refine rd_B ?_
  | refine rd_not ?_
  | refine rd_and ?_
  | refine rd_or ?_
  | refine rd_andV ?_
  | refine rd_orV ?_
  | refine rd_notV ?_
  | refine rd_chain ?_
  | refine rd_k ?_
  | refine rd_eq (by with_unfolding_all rfl) ?_
  | refine rd_ne (by with_unfolding_all rfl) ?_
  | refine rd_call ?_
  | refine rd_cb ?_
  | refine rd_nil ?_
  | refine rd_cons ?_
  | refine rd_lst ?_
  | refine rd_gcons ?_
  | refine rd_gnil ?_
  | refine rd_sub ?_
  | (refine' rd_ixL (SqL.of (by assumption)) ?rde ?_; (case rde => with_unfolding_all exact rfl))
  | refine rd_intI ?_
  | refine rd_intB ?_
  | refine rd_abs ?_
  | refine rd_sl ?_
  | refine rd_nopart ?_
  | refine rd_part ?_
  | refine rd_pi ?_
  | refine rd_nt ?_
  | refine rd_nf ?_
  | refine rd_t ?_
  | refine rd_f ?_
  | refine rd_for ?_
  | refine rd_max2 ?_
  | refine rd_izip ?_
  | refine rd_min2 ?_
  | (refine' rd_in (SqT.of (by assumption)) ?rdf ?rda ?_; (case rdf => with_unfolding_all rfl); (case rda => with_unfolding_all rfl))
  | refine rd_lc ?_
  | refine rd_itup ?_
  | refine rd_tyes ?_
  | (refine' rd_ixT (SqT.of (by assumption)) ?rde ?_; (case rde => first | exact at_head | with_unfolding_all exact rfl))
  | refine rd_ilist ?_
  | refine rd_irng ?_
  | refine rd_tup ?_)
local macro_rules | `(tactic| walk_at "rd") => `(tactic| repeat walk_at "one")
/-- one of two ways, by a written text -/
local macro_rules | `(tactic| walk_at "br") => `(tactic| first
  | refine rd_yes (by decide +kernel) ?_
  | refine rd_no (by decide +kernel) ?_
  | refine rd_yesN (by decide +kernel) ?_
  | refine rd_noN (by decide +kernel) ?_
  | refine rd_brT (by decide +kernel) ?_
  | refine rd_brF (by decide +kernel) ?_)
local macro_rules | `(tactic| walk_at "go") => `(tactic| repeat (first | walk_at "one" | walk_at "br"))
/-- the walk of readings told by data -/
local macro_rules | `(tactic| walk_at "side") => `(tactic| first | assumption | exact cshl1 (by omega) (by omega))
local macro_rules | `(tactic| walk_at "d1") => `(tactic| first
  | ((with_reducible refine' se_dat ?rd0 ?_); (case rd0 => exact rfl))
  | ((with_reducible refine' se_ixO ?rd0 ?_); (case rd0 => exact rfl))
  | ((with_reducible refine' se_lenO ?rd0 ?_); (case rd0 => exact rfl))
  | ((with_reducible refine' se_listO ?rd0 ?_); (case rd0 => exact rfl))
  | (with_reducible refine den_int ?_)
  | (with_reducible refine ds_seq ?_)
  | (with_reducible refine ds_asg ?_)
  | (with_reducible refine den_op ?_)
  | ((with_reducible refine' dop_I0 ?rd0 ?_); (case rd0 => first | exact .int _ | exact .bl _ | exact .str _))
  | ((with_reducible refine' dop_I ?rd0 ?rd1 ?_); (case rd0 => first | exact .int _ | exact .bl _ | exact .str _); (case rd1 => walk_at "side"))
  | (with_reducible refine dena_nil ?_)
  | (with_reducible refine dena_cons ?_)
  | (with_reducible refine den_call ?_)
  | (with_reducible refine den_callD ?_)
  | (with_reducible refine den_callN ?_)
  | (with_reducible refine den_sset ?_)
  | (with_reducible refine den_cb ?_)
  | ((with_reducible refine' sg_dat ?rd0 ?rd1 ?_); (case rd0 => first | exact True.intro | decide); (case rd1 => (dsimp only [List.set, wipeD, List.map, List.map_cons, List.map_nil]; try exact rfl)))
  | ((with_reducible refine' sg_soft ?rd0 ?rd1 ?_); (case rd0 => first | exact True.intro | decide); (case rd1 => (dsimp only [List.set, wipeD, List.map, List.map_cons, List.map_nil]; try exact rfl)))
  | ((with_reducible refine' sg_own ?rd0 ?rd1 ?_); (case rd0 => first | exact True.intro | decide); (case rd1 => (dsimp only [List.set, wipeD, List.map, List.map_cons, List.map_nil]; try exact rfl)))
  | ((with_reducible refine' sg_ownD ?rd0 ?rd1 ?_); (case rd0 => first | exact True.intro | decide); (case rd1 => (dsimp only [List.set, wipeD, List.map, List.map_cons, List.map_nil]; try exact rfl)))
  | ((with_reducible refine' sg_drw ?rd0 ?rd1 ?_); (case rd0 => first | exact True.intro | decide); (case rd1 => (dsimp only [List.set, wipeD, List.map, List.map_cons, List.map_nil]; try exact rfl)))
  | (with_reducible refine dent_test ?_)
  | (with_reducible refine ex_b ?_)
  | (with_reducible refine ex_i ?_)
  | (with_reducible refine ex_xy ?_)
  | (with_reducible refine ex_z ?_)
  | ((with_reducible refine' se_drw ?rd0 ?_); (case rd0 => exact rfl))
  | ((with_reducible refine' se_raw ?rd0 ?_); (case rd0 => exact rfl))
  | ((with_reducible refine' se_own ?rd0 ?rd1 ?_); (case rd0 => exact rfl); (case rd1 => (dsimp only [List.set, wipeD, List.map, List.map_cons, List.map_nil]; try exact rfl)))
  | ((with_reducible refine' se_datO ?rd0 ?_); (case rd0 => exact rfl))
  | (with_reducible refine den_bl ?_)
  | (with_reducible refine den_str ?_)
  | (with_reducible refine den_non ?_)
  | (with_reducible refine den_ty ?_)
  | (with_reducible refine den_ref ?_)
  | (with_reducible refine den_un ?_)
  | ((with_reducible refine' dun_U ?rd0 ?_); (case rd0 => first | exact .int _ | exact .bl _ | exact .str _))
  | ((with_reducible refine' dop_eq ?rd0 ?_); (case rd0 => with_unfolding_all exact rfl))
  | ((with_reducible refine' dop_ne ?rd0 ?_); (case rd0 => with_unfolding_all exact rfl))
  | ((with_reducible refine' dop_isN ?rd0 ?_); (case rd0 => with_unfolding_all exact rfl))
  | ((with_reducible refine' dop_notN ?rd0 ?_); (case rd0 => with_unfolding_all exact rfl))
  | (with_reducible refine den_not ?_)
  | (with_reducible refine den_and ?_)
  | (with_reducible refine den_or ?_)
  | (with_reducible refine den_if ?_)
  | (with_reducible refine den_chain ?_)
  | (with_reducible refine den_tup ?_)
  | (with_reducible refine den_lst ?_)
  | (with_reducible refine den_sl ?_)
  | (with_reducible refine deno_none ?_)
  | (with_reducible refine deno_some ?_)
  | (with_reducible refine den_lrg1 ?_)
  | (with_reducible refine den_lrg2 ?_)
  | ((with_reducible refine' dcb_len ?rd0 ?_); (case rd0 => with_unfolding_all exact rfl))
  | (with_reducible refine dcb_lenT ?_)
  | (with_reducible refine dsl_A ?_)
  | (with_reducible refine den_dnew ?_)
  | (with_reducible refine den_disp1 ?_)
  | (with_reducible refine den_bits ?_)
  | (with_reducible refine dena_star ?_)
  | (with_reducible refine den_revT ?_)
  | ((with_reducible refine' dcb_list ?rd0 ?_); (case rd0 => with_unfolding_all exact rfl))
  | (with_reducible refine dcb_listT ?_)
  | ((with_reducible refine' dcb_tup ?rd0 ?_); (case rd0 => with_unfolding_all exact rfl))
  | (with_reducible refine dcb_int ?_)
  | (with_reducible refine dcb_intB ?_)
  | (with_reducible refine dcb_abs ?_)
  | (with_reducible refine dcb_max2 ?_)
  | (with_reducible refine dcb_min2 ?_)
  | ((with_reducible refine' dcb_isi ?rd0 ?rd1 ?rd2 ?rd3 ?_); (case rd0 => with_unfolding_all exact rfl); (case rd1 => with_unfolding_all exact rfl); (case rd2 => first | exact kb_tuple_tuple | exact kb_tuple_list | exact kb_tuple_int | exact kb_tuple_bool | exact kb_tuple_str | exact kb_tuple_dict | exact kb_list_tuple | exact kb_list_list | exact kb_list_int | exact kb_list_bool | exact kb_list_str | exact kb_list_dict | exact kb_int_tuple | exact kb_int_list | exact kb_int_int | exact kb_int_bool | exact kb_int_str | exact kb_int_dict | exact kb_bool_tuple | exact kb_bool_list | exact kb_bool_int | exact kb_bool_bool | exact kb_bool_str | exact kb_bool_dict | exact kb_str_tuple | exact kb_str_list | exact kb_str_int | exact kb_str_bool | exact kb_str_str | exact kb_str_dict | exact kb_NoneType_tuple | exact kb_NoneType_list | exact kb_NoneType_int | exact kb_NoneType_bool | exact kb_NoneType_str | exact kb_NoneType_dict | exact kb_dict_tuple | exact kb_dict_list | exact kb_dict_int | exact kb_dict_bool | exact kb_dict_str | exact kb_dict_dict); (case rd3 => first | exact .inl (by decide) | exact .inr (by decide)))
  | ((with_reducible refine' dcb_isO ?rd0 ?rd1 ?_); (case rd0 => with_unfolding_all exact rfl); (case rd1 => assumption))
  | (with_reducible refine dent_B ?_)
  | (with_reducible refine dent_not ?_)
  | (with_reducible refine dent_and ?_)
  | (with_reducible refine dent_or ?_)
  | (with_reducible refine dent_yes ?_)
  | (with_reducible refine dgs_nil ?_)
  | ((with_reducible refine' dgs_cons ?rd0 ?_); (case rd0 => exact fun _ => rfl))
  | ((with_reducible refine' dg_tup ?rd0 ?_); (case rd0 => with_unfolding_all exact rfl); simp only [List.map_cons, List.map_nil])
  | ((with_reducible refine' dg_unl ?rd0 ?rd1 ?_); (case rd0 => with_unfolding_all exact rfl); (case rd1 => with_unfolding_all exact rfl); simp only [List.map_cons, List.map_nil])
  | ((with_reducible refine' sg_sub ?rd0 ?rd1 ?_); (case rd0 => exact rfl); (case rd1 => exact rfl))
  | (with_reducible refine ds_next ?_)
  | (with_reducible refine ds_break ?_)
  | (with_reducible refine ds_cont ?_)
  | (with_reducible refine ds_ret ?_)
  | (with_reducible refine ds_retN ?_)
  | ((with_reducible refine' ss_app ?rd0 ?_); (case rd0 => exact rfl))
  | ((with_reducible refine' ss_ext ?rd0 ?_); (case rd0 => exact rfl))
  | (with_reducible refine ds_drop ?_)
  | (with_reducible refine ds_if ?_)
  | (with_reducible refine ds_par ?_)
  | (with_reducible refine ds_parO ?_)
  | (with_reducible refine ds_parP ?_)
  | (with_reducible refine ds_par3 ?_)
  | (with_reducible refine ex_xyz ?_)
  | ((with_reducible refine' ss_augA ?rd0 ?_); (case rd0 => exact rfl))
  | (with_reducible refine di_list ?_)
  | (with_reducible refine di_tup ?_)
  | (with_reducible refine di_rng1 ?_)
  | (with_reducible refine di_rng2 ?_)
  | (with_reducible refine di_zip ?_)
  | (with_reducible refine di_zipM ?_)
  | (with_reducible refine di_rev1 ?_)
  | (with_reducible refine di_rev2 ?_)
  | (with_reducible refine ex_T ?_)
  | ((with_reducible refine' ex_ds ?rd0 ?rd1 ?_); (case rd0 => with_unfolding_all exact rfl); (case rd1 => with_unfolding_all exact Nat.le_of_ble_eq_true rfl))
  | ((with_reducible refine' ex_dv ?rd0 ?_); (case rd0 => with_unfolding_all exact rfl))
  | ((with_reducible refine' ex_L ?rd0 ?_); (case rd0 => with_unfolding_all exact rfl))
  | (with_reducible refine rd_t ?_)
  | (with_reducible refine rd_f ?_)
  | (with_reducible refine rd_nt ?_)
  | (with_reducible refine rd_nf ?_)
  | ((with_reducible refine' se_rg ?rd0 ?_); (case rd0 => exact rfl))
  | ((with_reducible refine' sg_rg ?rd0 ?rd1 ?_); (case rd0 => first | exact True.intro | decide); (case rd1 => (dsimp only [List.set, wipeD, List.map, List.map_cons, List.map_nil]; try exact rfl)))
  | (with_reducible refine dcb_rgv ?_)
  | (with_reducible refine ex_rg ?_)
  | (with_reducible refine di_rgv ?_)
  | (with_reducible refine dop_isB ?_)
  | (with_reducible refine dop_notB ?_)
  | (with_reducible refine den_fld ?_)
  | ((with_reducible refine' ex_fld ?rd0 ?rd1 ?rd2 ?_); (case rd0 => with_unfolding_all exact rfl); (case rd1 => exact ⟨by assumption, by assumption⟩); (case rd2 => first | (with_reducible exact Fg.here) | (with_reducible exact (Fg.there (by decide +kernel) Fg.here)) | (with_reducible exact (Fg.there (by decide +kernel) (Fg.there (by decide +kernel) Fg.here))) | (with_reducible exact (Fg.there (by decide +kernel) (Fg.there (by decide +kernel) (Fg.there (by decide +kernel) Fg.here)))) | (with_reducible exact (Fg.there (by decide +kernel) (Fg.there (by decide +kernel) (Fg.there (by decide +kernel) (Fg.there (by decide +kernel) Fg.here))))) | (with_reducible exact (Fg.there (by decide +kernel) (Fg.there (by decide +kernel) (Fg.there (by decide +kernel) (Fg.there (by decide +kernel) (Fg.there (by decide +kernel) Fg.here)))))) | (with_reducible exact (Fg.there (by decide +kernel) (Fg.there (by decide +kernel) (Fg.there (by decide +kernel) (Fg.there (by decide +kernel) (Fg.there (by decide +kernel) (Fg.there (by decide +kernel) Fg.here))))))) | (with_reducible exact (Fg.there (by decide +kernel) (Fg.there (by decide +kernel) (Fg.there (by decide +kernel) (Fg.there (by decide +kernel) (Fg.there (by decide +kernel) (Fg.there (by decide +kernel) (Fg.there (by decide +kernel) Fg.here))))))))))
  | (with_reducible refine den_meth ?_)
  | ((with_reducible refine' ex_om ?rd0 ?rd1 ?_); (case rd0 => with_unfolding_all exact rfl); (case rd1 => repeat (first | exact Fn.nil | (refine' Fn.cons ?rne ?_; (case rne => decide +kernel)))))
  | (with_reducible refine den_prop ?_)
  | ((with_reducible refine' ex_op ?rd0 ?_); (case rd0 => with_unfolding_all exact rfl))
  | (with_reducible refine den_inst ?_)
  | ((with_reducible refine' den_make ?rd0 ?_); (case rd0 => assumption))
  | ((with_reducible refine' dop_ins ?rd0 ?rd1 ?_); (case rd0 => with_unfolding_all exact rfl); (case rd1 => with_unfolding_all exact rfl))
  | ((with_reducible refine' dop_insN ?rd0 ?rd1 ?_); (case rd0 => with_unfolding_all exact rfl); (case rd1 => with_unfolding_all exact rfl))
  | ((with_reducible refine' dop_insI ?rd0 ?_); (case rd0 => with_unfolding_all exact rfl))
  | ((with_reducible refine' dop_insNI ?rd0 ?_); (case rd0 => with_unfolding_all exact rfl))
  | ((with_reducible refine' dun_ins ?rd0 ?_); (case rd0 => with_unfolding_all exact rfl))
  | (with_reducible refine dop_leB ?_)
  | (with_reducible refine di_ks ?_)
  | (with_reducible refine den_join ?_)
  | (with_reducible refine den_revL ?_)
  | (with_reducible refine den_jd ?_)
  | (with_reducible refine denj_nil ?_)
  | (with_reducible refine denj_cons ?_)
  | (with_reducible refine den_fmt ?_)
  | (with_reducible refine den_maxd ?_)
  | (with_reducible refine di_enTS ?_)
  | (with_reducible refine di_enT ?_)
  | (with_reducible refine ex_T1 ?_)
  | (with_reducible refine den_skT ?_)
  | (with_reducible refine di_enL ?_)
  | ((with_reducible refine' den_callX2 ?rd0 ?_); (case rd0 => first | assumption | exact outE2.wt (by assumption) | exact WT.never))
  | ((with_reducible refine' den_methX ?rd0 ?_); (case rd0 => first | assumption | exact outE2.wt (by assumption) | exact WT.never))
  | ((with_reducible refine' den_opX ?rd0 ?_); (case rd0 => first | assumption | exact outE2.wt (by assumption) | exact WT.never))
  | ((with_reducible refine' den_instX ?rd0 ?_); (case rd0 => first | assumption | exact outE2.wt (by assumption) | exact WT.never))
  | ((with_reducible refine' den_makeX ?rd0 ?rd1 ?_); (case rd0 => first | assumption | exact outE2.wt (by assumption) | exact WT.never); (case rd1 => assumption))
  | ((with_reducible refine' ex_ob2 ?rd0 ?rd1 ?_); (case rd0 => with_unfolding_all exact rfl); (case rd1 => with_unfolding_all exact rfl))
  | ((with_reducible refine' dcb_strO ?rd0 ?_); (case rd0 => with_unfolding_all exact rfl)))
local macro_rules | `(tactic| walk_at "dw") => `(tactic| repeat walk_at "d1")
local macro_rules | `(tactic| walk_at "dgo") => `(tactic| repeat (first | walk_at "d1" | refine rd_yes rfl ?_ | refine rd_noN rfl ?_ | refine rd_brT (by rfl) ?_ | refine rd_brF (by rfl) ?_))
/-! ### great masks, refusals, the law -/
section
variable {P : Program} {w : World} {K : PySem.W.Frag} {mg : Str → Option Value} {base : Heap} {c cU f f1 f2 f3 f4 f5 f6 f7 f8 f9 f10 f11 f12 f13 f14 f15 f16 : Addr} {fd fd1 fd2 fd3 fd4 fd5 fd6 fd7 fd8 fd9 fd10 fd11 fd12 fd13 fd14 fd15 fd16 : FuncData}
theorem ok_lgr (T : Top mg) (OC_Mask : OC K c) (D__law_next : Df K mg "_law_next" s__law_next ["_law_drawn", "_law_many"] f1 fd1)
    (D__law_one : Df K mg "_law_one" s__law_one ["_law_drawn", "_law_items"] f2 fd2)
    (D__law_word : Df K mg "_law_word" s__law_word ["_law_drawn", "_law_width_here"] f3 fd3)
    (D__law_ends : Df K mg "_law_ends" s__law_ends ["_law_drawn", "_law_width_here"] f4 fd4)
    (D__law_other_ends : Df K mg "_law_other_ends" s__law_other_ends ["_law_drawn", "_law_width_here", "_law_ends_here"] f5 fd5)
    (D__law_width : Df K mg "_law_width" s__law_width ["_law_drawn"] f6 fd6)
    (D_Mask_init : MkC K mg "Mask" c "Mask.__init__" s_Mask_init ["self", "width", "least", "greatest"] f7 fd7) (G_Mask_init : GOk P w K mg base 4 f7 fd7 ["self", "width", "least", "greatest"] (spI K c Sini))
    (D_Mask_least : Pp K c "least" "Mask.least" s_Mask_least f8 fd8) (G_Mask_least : GOk P w K mg base 1 f8 fd8 ["self"] (spD K (Slea c)))
    (D_Mask_greatest : Pp K c "greatest" "Mask.greatest" s_Mask_greatest f9 fd9) (G_Mask_greatest : GOk P w K mg base 1 f9 fd9 ["self"] (spD K (Sgre c)))
    (D_Mask_width : Pp K c "width" "Mask.width" s_Mask_width f10 fd10) (G_Mask_width : GOk P w K mg base 1 f10 fd10 ["self"] (spD K (Swid c)))
    (D_Mask_common_with : Mt K c "common_with" "Mask.common_with" s_Mask_common_with ["self", "other"] f11 fd11) (GX_Mask_common_with : GOkX P w K mg base 6 f11 fd11 ["self", "other"] (spDX2 K (Scom c cU)))
    (D_Mask_union_with : Mt K c "union_with" "Mask.union_with" s_Mask_union_with ["self", "other"] f12 fd12) (GX_Mask_union_with : GOkX P w K mg base 6 f12 fd12 ["self", "other"] (spDX2 K (Suni c cU)))
    (D_Mask_is_within : Mt K c "is_within" "Mask.is_within" s_Mask_is_within ["self", "other"] f13 fd13) (GX_Mask_is_within : GOkX P w K mg base 6 f13 fd13 ["self", "other"] (spDX2 K (Swin c cU)))
    (F : Fun K "_law_great_right" "_law_great_right" s__law_great_right f fd) : GOk P w K mg base 12 f fd ["_law_drawn"] (spD K (Strue 400)) := by
  have G__law_next : GOk P w K mg base 1 f1 fd1 _ (spD K Sn) := okn T D__law_next.fn
  have G__law_ends : GOk P w K mg base 4 f4 fd4 _ (spD K Sen) := ok_len T D__law_next D__law_one D__law_word D__law_ends.fn
  have G__law_other_ends : GOk P w K mg base 5 f5 fd5 _ (spD K Soth) := ok_loth T D__law_next D__law_one D__law_word D__law_ends D__law_other_ends.fn
  have G__law_width : GOk P w K mg base 3 f6 fd6 _ (spD K Swi) := ok_width T D__law_next D__law_one D__law_width.fn
  refine okD F sc__law_great_right (fun h => ?_) (fun G cdv A outer s H E xs t C hq hr h => ?_)
  · obtain ⟨rfl, _⟩ := h
    rfl
  · obtain ⟨rfl, t1, hC⟩ := h
    refine ⟨_, (pss_cons (ps_set (i := 1) sc__law_great_right.nd rfl (by first | exact Or.inl rfl | exact Or.inr rfl) (callG D__law_width G__law_width (hr.mono (by omega)) hq (by rfl) (pa_cons (pv 0) pa_nil)))
      (pss_cons (ps_set (i := 2) sc__law_great_right.nd rfl (by first | exact Or.inl rfl | exact Or.inr rfl) (callG D__law_ends G__law_ends (hr.mono (by omega)) hq (by rfl) (pa_cons (pv 0) (pa_cons (pv 1) pa_nil))))
      (pss_cons (ps_set (i := 3) sc__law_great_right.nd rfl (by first | exact Or.inl rfl | exact Or.inr rfl) (callG D__law_other_ends G__law_other_ends (hr.mono (by omega)) hq (by rfl) (pa_cons (pv 0) (pa_cons (pv 1) (pa_cons (pv 2) pa_nil)))))
      (pss_cons (ps_par (i := 4) (j := 5) (by rfl) sc__law_great_right.nd rfl rfl (by decide) rfl rfl (pa_cons (makeG D_Mask_init G_Mask_init (hr.mono (by omega)) hq (by rfl) (pa_cons (pv 1) (pa_cons (pe_ix (ixt_k (K := K) rfl) (pv 2) pe_int (fun _ _ => rfl)) (pa_cons (pe_ix (ixt_k (K := K) rfl) (pv 2) pe_int (fun _ _ => rfl)) pa_nil)))) (pa_cons (makeG D_Mask_init G_Mask_init (hr.mono (by omega)) hq (by rfl) (pa_cons (pv 1) (pa_cons (pe_ix (ixt_k (K := K) rfl) (pv 3) pe_int (fun _ _ => rfl)) (pa_cons (pe_ix (ixt_k (K := K) rfl) (pv 3) pe_int (fun _ _ => rfl)) pa_nil)))) pa_nil)) (by rfl))
      (pss_cons (ps_par (i := 6) (j := 7) (by rfl) sc__law_great_right.nd rfl rfl (by decide) rfl rfl (pa_cons (pe_op op_or (pe_ix (ixt_k (K := K) rfl) (pv 2) pe_int (fun _ _ => rfl)) (pe_ix (ixt_k (K := K) rfl) (pv 3) pe_int (fun _ _ => rfl))) (pa_cons (pe_op op_and (pe_ix (ixt_k (K := K) rfl) (pv 2) pe_int (fun _ _ => rfl)) (pe_ix (ixt_k (K := K) rfl) (pv 3) pe_int (fun _ _ => rfl))) pa_nil)) (by rfl))
      (pss_cons (ps_set (i := 8) sc__law_great_right.nd rfl (by first | exact Or.inl rfl | exact Or.inr rfl) (methGX D_Mask_common_with GX_Mask_common_with (hr.mono (by omega)) hq takes0 (pv 4) (pa_cons (pv 5) pa_nil)))
      (pss_cons (ps_if (pt_cmpR op_ne (pe_cmpR op_isN (pv 8) pe_non (nomark _)) (pe_cmpR op_ne (pe_op op_and (pv 6) (pv 7)) (pv 6) (nomark _)) (nomark _))
       (pss_one (ps_ret pe_bl))
       pss_nil)
      (pss_cons (ps_if (PW.pt (pw_and (pt_cmpR op_notN (pv 8) pe_non (nomark _)) (pw_and1 (pt_cmpR (ned_k (K := K) rfl hr.units) (pe_lst (pa_cons (propG D_Mask_least G_Mask_least (hr.mono (by omega)) hq (pv 8)) (pa_cons (propG D_Mask_greatest G_Mask_greatest (hr.mono (by omega)) hq (pv 8)) (pa_cons (propG D_Mask_width G_Mask_width (hr.mono (by omega)) hq (pv 8)) pa_nil)))) (pe_lst (pa_cons (pv 6) (pa_cons (pv 7) (pa_cons (pv 1) pa_nil)))) (nomark _)))))
       (pss_one (ps_ret pe_bl))
       pss_nil)
      (pss_cons (ps_set (i := 9) sc__law_great_right.nd rfl (by first | exact Or.inl rfl | exact Or.inr rfl) (methGX D_Mask_union_with GX_Mask_union_with (hr.mono (by omega)) hq takes0 (pv 4) (pa_cons (pv 5) pa_nil)))
      (pss_cons (ps_if (PW.pt (pw_or (pt_cmpR op_ne (propG D_Mask_least G_Mask_least (hr.mono (by omega)) hq (pv 9)) (pe_op op_and (pe_ix (ixt_k (K := K) rfl) (pv 2) pe_int (fun _ _ => rfl)) (pe_ix (ixt_k (K := K) rfl) (pv 3) pe_int (fun _ _ => rfl))) (nomark _)) (pw_or1 (pt_cmpR op_ne (propG D_Mask_greatest G_Mask_greatest (hr.mono (by omega)) hq (pv 9)) (pe_op op_or (pe_ix (ixt_k (K := K) rfl) (pv 2) pe_int (fun _ _ => rfl)) (pe_ix (ixt_k (K := K) rfl) (pv 3) pe_int (fun _ _ => rfl))) (nomark _)))))
       (pss_one (ps_ret pe_bl))
       pss_nil)
      (pss_cons (ps_if (pt_cmpR op_ne (propG D_Mask_width G_Mask_width (hr.mono (by omega)) hq (pv 9)) (pv 1) (nomark _))
       (pss_one (ps_ret pe_bl))
       pss_nil)
      (pss_one (ps_ret (pe_cmpR op_eq (pe_callB (reprD_k (K := K) rfl hq (roomU hr)) (by rfl) T.z_repr (by decide +kernel) (pa_cons (methGX D_Mask_is_within GX_Mask_is_within (hr.mono (by omega)) hq takes0 (pv 4) (pa_cons (pv 5) pa_nil)) pa_nil)) (pe_callB (reprD_k (K := K) rfl hq (roomU hr)) (by rfl) T.z_repr (by decide +kernel) (pa_cons (pe_cmpR (eqd_k (K := K) rfl hr.units) (pe_lst (pa_cons (pv 6) (pa_cons (pv 7) pa_nil))) (pe_lst (pa_cons (pe_ix (ixt_k (K := K) rfl) (pv 2) pe_int (fun _ _ => rfl)) (pa_cons (pe_ix (ixt_k (K := K) rfl) (pv 2) pe_int (fun _ _ => rfl)) pa_nil))) (nomark _)) pa_nil)) (nomark _))))))))))))))), ?_⟩
    simp only [dst, n__law_great_right]
    walk_at "dw"
    refine ⟨rfl, by omega, fun b b1 b2 t2 ht2 => ?_⟩
    walk_at "dgo"
    refine ⟨b, rfl, ⟨b1, b2⟩, by omega, fun l g hI t3 ht3 => ?_⟩
    walk_at "dgo"
    refine ⟨b, l, g, rfl, hI, by omega, fun l' g' hI' t4 ht4 => ?_⟩
    walk_at "dgo"
    refine dop_ixT rfl ?_
    walk_at "dgo"
    refine dop_ixT rfl ?_
    walk_at "dgo"
    refine ⟨b, l, g, rfl, hI, ?_⟩
    walk_at "dgo"
    refine dop_ixT rfl ?_
    walk_at "dgo"
    refine dop_ixT rfl ?_
    walk_at "dgo"
    refine ⟨b, l', g', rfl, hI', ?_⟩
    walk_at "dgo"
    refine dop_ixT rfl ?_
    walk_at "dgo"
    refine dop_ixT rfl ?_
    walk_at "dgo"
    refine dop_ixT rfl ?_
    walk_at "dgo"
    refine dop_ixT rfl ?_
    walk_at "dgo"
    have wl := hI.wl.or hI'.wl
    have inM : Sub b.toNat (Builtin.bitOr l l') (Builtin.bitAnd g g') → InM b (Builtin.bitOr l l') (Builtin.bitAnd g g') := fun z => ⟨hI.w1, hI.w2, wl, hI.wg.and hI'.wg, z⟩
    refine ⟨b, l, g, b, l', g', rfl, ⟨hI, hI'⟩, fun n => (n rfl).elim, fun _ => ⟨fun z => ?_, fun z => ?_⟩⟩
    · walk_at "dgo"
      rw [(low_iff wl).mpr z, decide_eq_true rfl]
      walk_at "dgo"
      refine ⟨b, _, _, rfl, ?_⟩
      walk_at "dgo"
      refine ⟨b, _, _, rfl, ?_⟩
      walk_at "dgo"
      refine ⟨b, _, _, rfl, ?_⟩
      walk_at "dgo"
      refine fun p1 => ?_
      walk_at "dgo"
      refine fun p2 => ?_
      refine dop_neI (l := [_, _, _]) (m := [_, _, _]) rfl rfl ?_
      rw [decide_eq_true rfl]
      walk_at "dgo"
      refine ⟨b, l, g, b, l', g', rfl, ⟨hI, hI'⟩, fun n => (n rfl).elim, fun _ => ?_⟩
      walk_at "dgo"
      refine ⟨b, _, _, rfl, ?_⟩
      walk_at "dgo"
      refine dop_ixT rfl ?_
      walk_at "dgo"
      refine dop_ixT rfl ?_
      walk_at "dgo"
      refine ⟨b, _, _, rfl, ?_⟩
      walk_at "dgo"
      refine dop_ixT rfl ?_
      walk_at "dgo"
      refine dop_ixT rfl ?_
      walk_at "dgo"
      refine ⟨b, _, _, rfl, ?_⟩
      walk_at "dgo"
      refine ⟨b, l, g, b, l', g', rfl, ⟨hI, hI'⟩, fun n => (n rfl).elim, fun _ y hy => ?_⟩
      walk_at "dgo"
      refine dcb_reprD rfl (sh_bool _) ?_
      walk_at "dgo"
      refine fun p3 => ?_
      walk_at "dgo"
      refine dop_ixT rfl ?_
      walk_at "dgo"
      refine dop_ixT rfl ?_
      walk_at "dgo"
      refine fun p4 => dop_eqI (l := [_, _]) (m := [_, _]) rfl rfl ?_
      rw [show decide ([Builtin.bitOr l l', Builtin.bitAnd g g'] = [l, g]) = y from Bool.eq_iff_iff.mpr (by rw [decide_eq_true_iff, List.cons.injEq, List.cons.injEq, hy, ← ends_iff hI hI']; exact ⟨fun z => ⟨z.1, z.2.1⟩, fun z => ⟨z.1, z.2, rfl⟩⟩)]
      walk_at "dgo"
      refine dcb_reprD rfl (sh_bool _) ?_
      walk_at "dgo"
      rw [decide_eq_true rfl]
      exact hC _ (by omega)
    · walk_at "dgo"
      rw [decide_eq_false fun e => z ((low_iff wl).mp e)]
      walk_at "dgo"
      refine ⟨b, l, g, b, l', g', rfl, ⟨hI, hI'⟩, fun n => (n rfl).elim, fun _ => ?_⟩
      walk_at "dgo"
      refine ⟨b, _, _, rfl, ?_⟩
      walk_at "dgo"
      refine dop_ixT rfl ?_
      walk_at "dgo"
      refine dop_ixT rfl ?_
      walk_at "dgo"
      refine ⟨b, _, _, rfl, ?_⟩
      walk_at "dgo"
      refine dop_ixT rfl ?_
      walk_at "dgo"
      refine dop_ixT rfl ?_
      walk_at "dgo"
      refine ⟨b, _, _, rfl, ?_⟩
      walk_at "dgo"
      refine ⟨b, l, g, b, l', g', rfl, ⟨hI, hI'⟩, fun n => (n rfl).elim, fun _ y hy => ?_⟩
      walk_at "dgo"
      refine dcb_reprD rfl (sh_bool _) ?_
      walk_at "dgo"
      refine fun p3 => ?_
      walk_at "dgo"
      refine dop_ixT rfl ?_
      walk_at "dgo"
      refine dop_ixT rfl ?_
      walk_at "dgo"
      refine fun p4 => dop_eqI (l := [_, _]) (m := [_, _]) rfl rfl ?_
      rw [show decide ([Builtin.bitOr l l', Builtin.bitAnd g g'] = [l, g]) = y from Bool.eq_iff_iff.mpr (by rw [decide_eq_true_iff, List.cons.injEq, List.cons.injEq, hy, ← ends_iff hI hI']; exact ⟨fun z => ⟨z.1, z.2.1⟩, fun z => ⟨z.1, z.2, rfl⟩⟩)]
      walk_at "dgo"
      refine dcb_reprD rfl (sh_bool _) ?_
      walk_at "dgo"
      rw [decide_eq_true rfl]
      exact hC _ (by omega)
theorem ok_lref {cE : Addr} {Cs : List Addr} (hXs : ∀ C, C ∈ Cs → ExcC K C) (iU : cU ∈ Cs) (T : Top mg) (C : Cl65 K mg cU cE) (EN_UnequalWidths : ErrN K mg "UnequalWidths" cU)
    (D_Mask_common_with : Mt K c "common_with" "Mask.common_with" s_Mask_common_with ["self", "other"] f1 fd1) (GX_Mask_common_with : GOkX P w K mg base 6 f1 fd1 ["self", "other"] (spDX2 K (Scom c cU)))
    (D_Mask_union_with : Mt K c "union_with" "Mask.union_with" s_Mask_union_with ["self", "other"] f2 fd2) (GX_Mask_union_with : GOkX P w K mg base 6 f2 fd2 ["self", "other"] (spDX2 K (Suni c cU)))
    (D_Mask_is_within : Mt K c "is_within" "Mask.is_within" s_Mask_is_within ["self", "other"] f3 fd3) (GX_Mask_is_within : GOkX P w K mg base 6 f3 fd3 ["self", "other"] (spDX2 K (Swin c cU)))
    (F : Fun K "_law_refused" "_law_refused" s__law_refused f fd) : GOk P w K mg base 8 f fd ["_law_way", "_law_one_here", "_law_other"] (spD K (Sref c)) := by
  refine okD F sc__law_refused (fun h => ?_) (fun G cdv A outer s H E xs t C' hq hr h => ?_)
  · obtain ⟨_, _, _, _, _, _, _, rfl, _⟩ := h
    rfl
  · obtain ⟨k, w, l, g, w', l', g', rfl, ⟨hI, hI', ne⟩, hC⟩ := h
    refine ⟨_, (pss_cons (ps_try2 (K := K) (i := 3) rfl rfl rfl sc__law_refused.nd rfl rfl (fun W pn xe tk _ => (pss_one (ps_if (pt_cmpR op_eq (pv 0) pe_int (nomark _))
         (pss_one (ps_expr (methGX D_Mask_common_with GX_Mask_common_with (hr.mono (by omega)) hq tk (pv 1) (pa_cons (pv 2) pa_nil))))
         (pss_one (ps_if (pt_cmpR op_eq (pv 0) pe_int (nomark _))
           (pss_one (ps_expr (methGX D_Mask_union_with GX_Mask_union_with (hr.mono (by omega)) hq tk (pv 1) (pa_cons (pv 2) pa_nil))))
           (pss_one (ps_expr (methGX D_Mask_is_within GX_Mask_is_within (hr.mono (by omega)) hq tk (pv 1) (pa_cons (pv 2) pa_nil)))))))))
       (.cons ⟨rfl, by decide, .inl C.c_WordError⟩ (fun a oe cls d pn hz hf => (pss_one (ps_ret (pe_and (pe_callB (call_isE2 hXs hz hf) (by rfl) T.z_isinstance (by decide +kernel) (pa_cons (pv 3) (pa_cons (pe_glob (v := .ref _) (by rfl) EN_UnequalWidths.gC rfl) pa_nil))) (pe_one (pe_not (pe_callB (call_isE2 hXs hz hf) (by rfl) T.z_isinstance (by decide +kernel) (pa_cons (pv 3) (pa_cons (pe_bltn (v := .ty "LookupError") (by rfl) T.z_LookupError (by decide +kernel) rfl) pa_nil)))))))))
        .nil))
      (pss_one (ps_ret pe_bl))), ?_⟩
    simp only [dst, n__law_refused]
    refine ds_seq ?_
    refine ds_try2 (fun C o δ1 t1 => δ1 = [.dat (.int k), .dat (mkD c w l g), .dat (mkD c w' l' g'), .any] ∧ t1 = t ∧ C = cU ∧ o = none) (fun C1 o δ1 t1 hN => ?_) fun W hW => ?_
    · obtain ⟨rfl, rfl, rfl, rfl⟩ := hN
      refine ⟨_, .inl ⟨C.xUE, rfl⟩, fun p => rfl, fun a dd G' hE => ?_⟩
      walk_at "dgo"
      refine dcb_isE2 iU hE (.own _) C.kUU ?_
      walk_at "dgo"
      refine dcb_isE2 iU hE (.ty _) C.kUL ?_
      walk_at "dgo"
      exact hC
    · walk_at "dw"
      refine rd_dec (fun h => ?_) fun h => ?_
      · walk_at "dgo"
        exact ⟨w, l, g, w', l', g', rfl, ⟨hI, hI'⟩, fun _ => ⟨rfl, rfl, rfl, rfl⟩, fun e => (ne e).elim⟩
      · walk_at "dgo"
        refine rd_dec (fun h => ?_) fun h => ?_
        · walk_at "dgo"
          exact ⟨w, l, g, w', l', g', rfl, ⟨hI, hI'⟩, fun _ => ⟨rfl, rfl, rfl, rfl⟩, fun e => (ne e).elim⟩
        · walk_at "dgo"
          exact ⟨w, l, g, w', l', g', rfl, ⟨hI, hI'⟩, fun _ => ⟨rfl, rfl, rfl, rfl⟩, fun e => (ne e).elim⟩
theorem ok_law (T : Top mg) (OC_Mask : OC K c) (D__law_next : Df K mg "_law_next" s__law_next ["_law_drawn", "_law_many"] f1 fd1)
    (D__law_one : Df K mg "_law_one" s__law_one ["_law_drawn", "_law_items"] f2 fd2)
    (D__law_word : Df K mg "_law_word" s__law_word ["_law_drawn", "_law_width_here"] f3 fd3)
    (D__law_ends : Df K mg "_law_ends" s__law_ends ["_law_drawn", "_law_width_here"] f4 fd4)
    (D__law_width : Df K mg "_law_width" s__law_width ["_law_drawn"] f5 fd5)
    (D_Mask_init : MkC K mg "Mask" c "Mask.__init__" s_Mask_init ["self", "width", "least", "greatest"] f6 fd6) (G_Mask_init : GOk P w K mg base 4 f6 fd6 ["self", "width", "least", "greatest"] (spI K c Sini))
    (D__law_draws : Df K mg "_law_draws" s__law_draws ["_law_script"] f7 fd7)
    (D__law_small_right : Df K mg "_law_small_right" s__law_small_right ["_law_drawn"] f8 fd8) (G__law_small_right : GOk P w K mg base 12 f8 fd8 ["_law_drawn"] (spD K (Strue 400)))
    (D__law_great_right : Df K mg "_law_great_right" s__law_great_right ["_law_drawn"] f9 fd9) (G__law_great_right : GOk P w K mg base 12 f9 fd9 ["_law_drawn"] (spD K (Strue 400)))
    (D__law_refused : Df K mg "_law_refused" s__law_refused ["_law_way", "_law_one_here", "_law_other"] f10 fd10) (G__law_refused : GOk P w K mg base 8 f10 fd10 ["_law_way", "_law_one_here", "_law_other"] (spD K (Sref c)))
    (F : Fun K "law" "law" s_law f fd) : GOk P w K mg base 15 f fd ["_law_script"] (sp_law K) := by
  have G__law_draws : GOk P w K mg base 1 f7 fd7 _ (sp_draws K) := GOk.of (ok_draws T D__law_draws.fn)
  have G__law_width : GOk P w K mg base 3 f5 fd5 _ (spD K Swi) := ok_width T D__law_next D__law_one D__law_width.fn
  have G__law_ends : GOk P w K mg base 4 f4 fd4 _ (spD K Sen) := ok_len T D__law_next D__law_one D__law_word D__law_ends.fn
  refine okG F sc_law (fun h => ?_) (fun cdv A outer s H vs Q E hq hr h => ?_)
  · obtain ⟨a, ns, rfl, _⟩ := h
    rfl
  · obtain ⟨a, ns, rfl, hS, hn, q⟩ := h
    refine ⟨_, (pss_cons (ps_set (i := 1) sc_law.nd rfl (by first | exact Or.inl rfl | exact Or.inr rfl) (callG D__law_draws G__law_draws (hr.mono (by omega)) hq (by rfl) (pa_cons (pv 0) pa_nil)))
      (pss_cons (ps_for PassesOwn.never rfl (pi_range1 (by rfl) T.z_range (pa_cons pe_int pa_nil)) (pg_name (i := 2) sc_law.nd rfl (by first | exact Or.inl rfl | exact Or.inr rfl))
       (pss_cons (ps_if (PW.pt (pw_or (pt_not (pt_val (callG D__law_small_right G__law_small_right (hr.mono (by omega)) hq (by rfl) (pa_cons (pv 1) pa_nil)))) (pw_or1 (pt_not (pt_val (callG D__law_great_right G__law_great_right (hr.mono (by omega)) hq (by rfl) (pa_cons (pv 1) pa_nil)))))))
         (pss_one (ps_ret pe_bl))
         pss_nil)
        (pss_cons (ps_set (i := 3) sc_law.nd rfl (by first | exact Or.inl rfl | exact Or.inr rfl) (callG D__law_width G__law_width (hr.mono (by omega)) hq (by rfl) (pa_cons (pv 1) pa_nil)))
        (pss_cons (ps_asg (callG D__law_ends G__law_ends (hr.mono (by omega)) hq (by rfl) (pa_cons (pv 1) (pa_cons (pv 3) pa_nil))) (pgt_k (K := K) (n := 2) rfl rfl (pgs_cons (pg_name (i := 4) sc_law.nd rfl (by first | exact Or.inl rfl | exact Or.inr rfl)) (pgs_cons (pg_name (i := 5) sc_law.nd rfl (by first | exact Or.inl rfl | exact Or.inr rfl)) pgs_nil))))
        (pss_cons (ps_par (i := 6) (j := 7) (by rfl) sc_law.nd rfl rfl (by decide) rfl rfl (pa_cons (makeG D_Mask_init G_Mask_init (hr.mono (by omega)) hq (by rfl) (pa_cons (pv 3) (pa_cons (pv 4) (pa_cons (pv 5) pa_nil)))) (pa_cons (makeG D_Mask_init G_Mask_init (hr.mono (by omega)) hq (by rfl) (pa_cons (pe_op op_add (pe_op op_mod (pv 3) pe_int) pe_int) (pa_cons pe_int (pa_cons pe_int pa_nil)))) pa_nil)) (by rfl))
        (pss_one (ps_for PassesOwn.never rfl (pi_range1 (by rfl) T.z_range (pa_cons pe_int pa_nil)) (pg_name (i := 8) sc_law.nd rfl (by first | exact Or.inl rfl | exact Or.inr rfl))
         (pss_one (ps_if (PW.pt (pw_or (pt_not (pt_val (callG D__law_refused G__law_refused (hr.mono (by omega)) hq (by rfl) (pa_cons (pv 8) (pa_cons (pv 6) (pa_cons (pv 7) pa_nil)))))) (pw_or1 (pt_not (pt_val (callG D__law_refused G__law_refused (hr.mono (by omega)) hq (by rfl) (pa_cons (pv 8) (pa_cons (pv 7) (pa_cons (pv 6) pa_nil)))))))))
           (pss_one (ps_ret pe_bl))
           pss_nil)))))))))
      (pss_one (ps_ret pe_bl)))), ?_⟩
    refine law_go hS hn q fun G => ?_
    simp only [dst]
    walk_at "dgo"
    refine ds_for ?_
    walk_at "dgo"
    refine ⟨10, rfl, by decide, by decide, fun i δ t => t ≤ 1000 * i ∧ ∃ x2 x3 x4 x5 x6 x7 x8 : Sl, δ = [.any, .drw, x2, x3, x4, x5, x6, x7, x8], ⟨by omega, _, _, _, _, _, _, _, rfl⟩, ?_, ?_⟩
    · rintro i e δ2 t2 hi ⟨ht, x2, x3, x4, x5, x6, x7, x8, rfl⟩ τ2
      obtain ⟨hl, rfl⟩ := rngL_at hi
      have hl : i < 10 := hl
      walk_at "dgo"
      refine ⟨rfl, by omega, fun t3 ht3 => ?_⟩
      walk_at "dgo"
      refine ⟨rfl, by omega, fun t4 ht4 => ?_⟩
      walk_at "dgo"
      refine ⟨rfl, by omega, fun b b1 b2 t6 ht6 => ?_⟩
      walk_at "dgo"
      refine ⟨b, rfl, ⟨b1, b2⟩, by omega, fun l g hI t7 ht7 => ?_⟩
      walk_at "dgo"
      have hO : InM (b % 64 + 1) 0 0 := .same (by omega) (by omega) (.zero _)
      refine ⟨b, l, g, rfl, hI, ?_⟩
      walk_at "dgo"
      refine ⟨b % 64 + 1, 0, 0, rfl, hO, ?_⟩
      walk_at "dgo"
      refine ds_for ?_
      walk_at "dgo"
      refine ⟨3, rfl, by decide, by decide, fun j δ t => t = t7 ∧ ∃ y8 : Sl, δ = [.any, .drw, .dat (.int (0 + (i : Int))), .dat (.int b), .dat (.int l), .dat (.int g), .dat (mkD c b l g), .dat (mkD c (b % 64 + 1) 0 0), y8], ⟨rfl, _, rfl⟩, ?_, ?_⟩
      · rintro j e δ3 t8 hj ⟨rfl, y8, rfl⟩ τ3
        obtain ⟨hl2, rfl⟩ := rngL_at hj
        walk_at "dgo"
        refine ⟨_, b, l, g, b % 64 + 1, 0, 0, rfl, ⟨hI, hO, by omega⟩, ?_⟩
        walk_at "dgo"
        refine ⟨_, b % 64 + 1, 0, 0, b, l, g, rfl, ⟨hO, hI, by omega⟩, ?_⟩
        walk_at "dgo"
        exact ⟨rfl, _, rfl⟩
      · rintro δ3 t8 ⟨rfl, y8, rfl⟩
        walk_at "dgo"
        exact ⟨by omega, _, _, _, _, _, _, _, rfl⟩
    · rintro δ2 t2 ⟨ht, x2, x3, x4, x5, x6, x7, x8, rfl⟩
      walk_at "dgo"
      rfl
end
end Lw

set_option Elab.async false
set_option linter.all false
set_option maxRecDepth 100000
set_option maxHeartbeats 4000000
set_option pp.deepTerms false
set_option pp.deepTerms.threshold 12
namespace Lw
open PySem PySem.Spec PyProof.Rows L2 Glay Dl
/-- what is asked of the numbers by the way -/
local macro_rules | `(tactic| walk_at "side") => `(tactic| first
  | rfl
  | decide
  | assumption
  | omega
  | (unfold CMul; omega)
  | (unfold CPowW; exact ⟨by decide, by decide +kernel⟩)
  | exact wide_mul (a := 1400) (b := 1400) (by decide +kernel) (by decide +kernel) (by decide) (by decide) (by decide)
  | exact wide_div (b := 64) (by decide) (by decide) (by decide) (by decide)
  | (unfold CMul; exact Or.inr ⟨by decide, by decide⟩)
  | (unfold CMul; exact Or.inl ⟨by decide, by decide⟩)
  | (unfold CPow; omega)
  | (unfold CPow; refine ⟨by omega, by omega, ?_⟩; omega))
local macro_rules | `(tactic| walk_at "one") => `(tactic| with_reducible first
  | (refine' rd_var ?rdh ?_; (case rdh => with_unfolding_all exact rfl))
  | refine rd_c ?_
  | refine rd_op ?_
  | refine rd_un ?_
  | refine rd_I0 ?_
  | refine rd_I (by walk_at "side") ?_
  | refine rd_U ?_
  | refine rd_seq ?_
  | refine rd_next ?_
  | refine rd_asg ?_
  | refine rd_name ?_
  | refine rd_par ?_
  | refine rd_par2 ?_
  | refine rd_ret ?_
  | refine rd_ifs ?_
  | refine rd_if ?_
  | refine rd_test ?_
  | refine rd_B ?_
  | refine rd_not ?_
  | refine rd_and ?_
  | refine rd_or ?_
  | refine rd_andV ?_
  | refine rd_orV ?_
  | refine rd_notV ?_
  | refine rd_chain ?_
  | refine rd_k ?_
  | refine rd_eq (by with_unfolding_all rfl) ?_
  | refine rd_ne (by with_unfolding_all rfl) ?_
  | refine rd_call ?_
  | refine rd_cb ?_
  | refine rd_nil ?_
  | refine rd_cons ?_
  | refine rd_lst ?_
  | refine rd_gcons ?_
  | refine rd_gnil ?_
  | refine rd_sub ?_
  | (refine' rd_ixL (SqL.of (by assumption)) ?rde ?_; (case rde => with_unfolding_all exact rfl))
  | refine rd_intI ?_
  | refine rd_intB ?_
  | refine rd_abs ?_
  | refine rd_sl ?_
  | refine rd_nopart ?_
  | refine rd_part ?_
  | refine rd_pi ?_
  | refine rd_nt ?_
  | refine rd_nf ?_
  | refine rd_t ?_
  | refine rd_f ?_
  | refine rd_for ?_
  | refine rd_max2 ?_
  | refine rd_izip ?_
  | refine rd_min2 ?_
  | (refine' rd_in (SqT.of (by assumption)) ?rdf ?rda ?_; (case rdf => with_unfolding_all rfl); (case rda => with_unfolding_all rfl))
  | refine rd_lc ?_
  | refine rd_itup ?_
  | refine rd_tyes ?_
  | (refine' rd_ixT (SqT.of (by assumption)) ?rde ?_; (case rde => first | exact at_head | with_unfolding_all exact rfl))
  | refine rd_ilist ?_
  | refine rd_irng ?_
  | refine rd_tup ?_)
local macro_rules | `(tactic| walk_at "rd") => `(tactic| repeat walk_at "one")
/-- one of two ways, by a written text -/
local macro_rules | `(tactic| walk_at "br") => `(tactic| first
  | refine rd_yes (by decide +kernel) ?_
  | refine rd_no (by decide +kernel) ?_
  | refine rd_yesN (by decide +kernel) ?_
  | refine rd_noN (by decide +kernel) ?_
  | refine rd_brT (by decide +kernel) ?_
  | refine rd_brF (by decide +kernel) ?_)
local macro_rules | `(tactic| walk_at "go") => `(tactic| repeat (first | walk_at "one" | walk_at "br"))
/-- the walk of readings told by data -/
local macro_rules | `(tactic| walk_at "side") => `(tactic| first | assumption | exact cshl1 (by omega) (by omega))
local macro_rules | `(tactic| walk_at "d1") => `(tactic| first
  | ((with_reducible refine' se_dat ?rd0 ?_); (case rd0 => exact rfl))
  | ((with_reducible refine' se_ixO ?rd0 ?_); (case rd0 => exact rfl))
  | ((with_reducible refine' se_lenO ?rd0 ?_); (case rd0 => exact rfl))
  | ((with_reducible refine' se_listO ?rd0 ?_); (case rd0 => exact rfl))
  | (with_reducible refine den_int ?_)
  | (with_reducible refine ds_seq ?_)
  | (with_reducible refine ds_asg ?_)
  | (with_reducible refine den_op ?_)
  | ((with_reducible refine' dop_I0 ?rd0 ?_); (case rd0 => first | exact .int _ | exact .bl _ | exact .str _))
  | ((with_reducible refine' dop_I ?rd0 ?rd1 ?_); (case rd0 => first | exact .int _ | exact .bl _ | exact .str _); (case rd1 => walk_at "side"))
  | (with_reducible refine dena_nil ?_)
  | (with_reducible refine dena_cons ?_)
  | (with_reducible refine den_call ?_)
  | (with_reducible refine den_callD ?_)
  | (with_reducible refine den_callN ?_)
  | (with_reducible refine den_sset ?_)
  | (with_reducible refine den_cb ?_)
  | ((with_reducible refine' sg_dat ?rd0 ?rd1 ?_); (case rd0 => first | exact True.intro | decide); (case rd1 => (dsimp only [List.set, wipeD, List.map, List.map_cons, List.map_nil]; try exact rfl)))
  | ((with_reducible refine' sg_soft ?rd0 ?rd1 ?_); (case rd0 => first | exact True.intro | decide); (case rd1 => (dsimp only [List.set, wipeD, List.map, List.map_cons, List.map_nil]; try exact rfl)))
  | ((with_reducible refine' sg_own ?rd0 ?rd1 ?_); (case rd0 => first | exact True.intro | decide); (case rd1 => (dsimp only [List.set, wipeD, List.map, List.map_cons, List.map_nil]; try exact rfl)))
  | ((with_reducible refine' sg_ownD ?rd0 ?rd1 ?_); (case rd0 => first | exact True.intro | decide); (case rd1 => (dsimp only [List.set, wipeD, List.map, List.map_cons, List.map_nil]; try exact rfl)))
  | ((with_reducible refine' sg_drw ?rd0 ?rd1 ?_); (case rd0 => first | exact True.intro | decide); (case rd1 => (dsimp only [List.set, wipeD, List.map, List.map_cons, List.map_nil]; try exact rfl)))
  | (with_reducible refine dent_test ?_)
  | (with_reducible refine ex_b ?_)
  | (with_reducible refine ex_i ?_)
  | (with_reducible refine ex_xy ?_)
  | (with_reducible refine ex_z ?_)
  | ((with_reducible refine' se_drw ?rd0 ?_); (case rd0 => exact rfl))
  | ((with_reducible refine' se_raw ?rd0 ?_); (case rd0 => exact rfl))
  | ((with_reducible refine' se_own ?rd0 ?rd1 ?_); (case rd0 => exact rfl); (case rd1 => (dsimp only [List.set, wipeD, List.map, List.map_cons, List.map_nil]; try exact rfl)))
  | ((with_reducible refine' se_datO ?rd0 ?_); (case rd0 => exact rfl))
  | (with_reducible refine den_bl ?_)
  | (with_reducible refine den_str ?_)
  | (with_reducible refine den_non ?_)
  | (with_reducible refine den_ty ?_)
  | (with_reducible refine den_ref ?_)
  | (with_reducible refine den_un ?_)
  | ((with_reducible refine' dun_U ?rd0 ?_); (case rd0 => first | exact .int _ | exact .bl _ | exact .str _))
  | ((with_reducible refine' dop_eq ?rd0 ?_); (case rd0 => with_unfolding_all exact rfl))
  | ((with_reducible refine' dop_ne ?rd0 ?_); (case rd0 => with_unfolding_all exact rfl))
  | ((with_reducible refine' dop_isN ?rd0 ?_); (case rd0 => with_unfolding_all exact rfl))
  | ((with_reducible refine' dop_notN ?rd0 ?_); (case rd0 => with_unfolding_all exact rfl))
  | (with_reducible refine den_not ?_)
  | (with_reducible refine den_and ?_)
  | (with_reducible refine den_or ?_)
  | (with_reducible refine den_if ?_)
  | (with_reducible refine den_chain ?_)
  | (with_reducible refine den_tup ?_)
  | (with_reducible refine den_lst ?_)
  | (with_reducible refine den_sl ?_)
  | (with_reducible refine deno_none ?_)
  | (with_reducible refine deno_some ?_)
  | (with_reducible refine den_lrg1 ?_)
  | (with_reducible refine den_lrg2 ?_)
  | ((with_reducible refine' dcb_len ?rd0 ?_); (case rd0 => with_unfolding_all exact rfl))
  | (with_reducible refine dcb_lenT ?_)
  | (with_reducible refine dsl_A ?_)
  | (with_reducible refine den_dnew ?_)
  | (with_reducible refine den_disp1 ?_)
  | (with_reducible refine den_bits ?_)
  | (with_reducible refine dena_star ?_)
  | (with_reducible refine den_revT ?_)
  | ((with_reducible refine' dcb_list ?rd0 ?_); (case rd0 => with_unfolding_all exact rfl))
  | (with_reducible refine dcb_listT ?_)
  | ((with_reducible refine' dcb_tup ?rd0 ?_); (case rd0 => with_unfolding_all exact rfl))
  | (with_reducible refine dcb_int ?_)
  | (with_reducible refine dcb_intB ?_)
  | (with_reducible refine dcb_abs ?_)
  | (with_reducible refine dcb_max2 ?_)
  | (with_reducible refine dcb_min2 ?_)
  | ((with_reducible refine' dcb_isi ?rd0 ?rd1 ?rd2 ?rd3 ?_); (case rd0 => with_unfolding_all exact rfl); (case rd1 => with_unfolding_all exact rfl); (case rd2 => first | exact kb_tuple_tuple | exact kb_tuple_list | exact kb_tuple_int | exact kb_tuple_bool | exact kb_tuple_str | exact kb_tuple_dict | exact kb_list_tuple | exact kb_list_list | exact kb_list_int | exact kb_list_bool | exact kb_list_str | exact kb_list_dict | exact kb_int_tuple | exact kb_int_list | exact kb_int_int | exact kb_int_bool | exact kb_int_str | exact kb_int_dict | exact kb_bool_tuple | exact kb_bool_list | exact kb_bool_int | exact kb_bool_bool | exact kb_bool_str | exact kb_bool_dict | exact kb_str_tuple | exact kb_str_list | exact kb_str_int | exact kb_str_bool | exact kb_str_str | exact kb_str_dict | exact kb_NoneType_tuple | exact kb_NoneType_list | exact kb_NoneType_int | exact kb_NoneType_bool | exact kb_NoneType_str | exact kb_NoneType_dict | exact kb_dict_tuple | exact kb_dict_list | exact kb_dict_int | exact kb_dict_bool | exact kb_dict_str | exact kb_dict_dict); (case rd3 => first | exact .inl (by decide) | exact .inr (by decide)))
  | ((with_reducible refine' dcb_isO ?rd0 ?rd1 ?_); (case rd0 => with_unfolding_all exact rfl); (case rd1 => assumption))
  | (with_reducible refine dent_B ?_)
  | (with_reducible refine dent_not ?_)
  | (with_reducible refine dent_and ?_)
  | (with_reducible refine dent_or ?_)
  | (with_reducible refine dent_yes ?_)
  | (with_reducible refine dgs_nil ?_)
  | ((with_reducible refine' dgs_cons ?rd0 ?_); (case rd0 => exact fun _ => rfl))
  | ((with_reducible refine' dg_tup ?rd0 ?_); (case rd0 => with_unfolding_all exact rfl); simp only [List.map_cons, List.map_nil])
  | ((with_reducible refine' dg_unl ?rd0 ?rd1 ?_); (case rd0 => with_unfolding_all exact rfl); (case rd1 => with_unfolding_all exact rfl); simp only [List.map_cons, List.map_nil])
  | ((with_reducible refine' sg_sub ?rd0 ?rd1 ?_); (case rd0 => exact rfl); (case rd1 => exact rfl))
  | (with_reducible refine ds_next ?_)
  | (with_reducible refine ds_break ?_)
  | (with_reducible refine ds_cont ?_)
  | (with_reducible refine ds_ret ?_)
  | (with_reducible refine ds_retN ?_)
  | ((with_reducible refine' ss_app ?rd0 ?_); (case rd0 => exact rfl))
  | ((with_reducible refine' ss_ext ?rd0 ?_); (case rd0 => exact rfl))
  | (with_reducible refine ds_drop ?_)
  | (with_reducible refine ds_if ?_)
  | (with_reducible refine ds_par ?_)
  | (with_reducible refine ds_parO ?_)
  | (with_reducible refine ds_parP ?_)
  | (with_reducible refine ds_par3 ?_)
  | (with_reducible refine ex_xyz ?_)
  | ((with_reducible refine' ss_augA ?rd0 ?_); (case rd0 => exact rfl))
  | (with_reducible refine di_list ?_)
  | (with_reducible refine di_tup ?_)
  | (with_reducible refine di_rng1 ?_)
  | (with_reducible refine di_rng2 ?_)
  | (with_reducible refine di_zip ?_)
  | (with_reducible refine di_zipM ?_)
  | (with_reducible refine di_rev1 ?_)
  | (with_reducible refine di_rev2 ?_)
  | (with_reducible refine ex_T ?_)
  | ((with_reducible refine' ex_ds ?rd0 ?rd1 ?_); (case rd0 => with_unfolding_all exact rfl); (case rd1 => with_unfolding_all exact Nat.le_of_ble_eq_true rfl))
  | ((with_reducible refine' ex_dv ?rd0 ?_); (case rd0 => with_unfolding_all exact rfl))
  | ((with_reducible refine' ex_L ?rd0 ?_); (case rd0 => with_unfolding_all exact rfl))
  | (with_reducible refine rd_t ?_)
  | (with_reducible refine rd_f ?_)
  | (with_reducible refine rd_nt ?_)
  | (with_reducible refine rd_nf ?_)
  | ((with_reducible refine' se_rg ?rd0 ?_); (case rd0 => exact rfl))
  | ((with_reducible refine' sg_rg ?rd0 ?rd1 ?_); (case rd0 => first | exact True.intro | decide); (case rd1 => (dsimp only [List.set, wipeD, List.map, List.map_cons, List.map_nil]; try exact rfl)))
  | (with_reducible refine dcb_rgv ?_)
  | (with_reducible refine ex_rg ?_)
  | (with_reducible refine di_rgv ?_)
  | (with_reducible refine dop_isB ?_)
  | (with_reducible refine dop_notB ?_)
  | (with_reducible refine den_fld ?_)
  | ((with_reducible refine' ex_fld ?rd0 ?rd1 ?rd2 ?_); (case rd0 => with_unfolding_all exact rfl); (case rd1 => exact ⟨by assumption, by assumption⟩); (case rd2 => first | (with_reducible exact Fg.here) | (with_reducible exact (Fg.there (by decide +kernel) Fg.here)) | (with_reducible exact (Fg.there (by decide +kernel) (Fg.there (by decide +kernel) Fg.here))) | (with_reducible exact (Fg.there (by decide +kernel) (Fg.there (by decide +kernel) (Fg.there (by decide +kernel) Fg.here)))) | (with_reducible exact (Fg.there (by decide +kernel) (Fg.there (by decide +kernel) (Fg.there (by decide +kernel) (Fg.there (by decide +kernel) Fg.here))))) | (with_reducible exact (Fg.there (by decide +kernel) (Fg.there (by decide +kernel) (Fg.there (by decide +kernel) (Fg.there (by decide +kernel) (Fg.there (by decide +kernel) Fg.here)))))) | (with_reducible exact (Fg.there (by decide +kernel) (Fg.there (by decide +kernel) (Fg.there (by decide +kernel) (Fg.there (by decide +kernel) (Fg.there (by decide +kernel) (Fg.there (by decide +kernel) Fg.here))))))) | (with_reducible exact (Fg.there (by decide +kernel) (Fg.there (by decide +kernel) (Fg.there (by decide +kernel) (Fg.there (by decide +kernel) (Fg.there (by decide +kernel) (Fg.there (by decide +kernel) (Fg.there (by decide +kernel) Fg.here))))))))))
  | (with_reducible refine den_meth ?_)
  | ((with_reducible refine' ex_om ?rd0 ?rd1 ?_); (case rd0 => with_unfolding_all exact rfl); (case rd1 => repeat (first | exact Fn.nil | (refine' Fn.cons ?rne ?_; (case rne => decide +kernel)))))
  | (with_reducible refine den_prop ?_)
  | ((with_reducible refine' ex_op ?rd0 ?_); (case rd0 => with_unfolding_all exact rfl))
  | (with_reducible refine den_inst ?_)
  | ((with_reducible refine' den_make ?rd0 ?_); (case rd0 => assumption))
  | ((with_reducible refine' dop_ins ?rd0 ?rd1 ?_); (case rd0 => with_unfolding_all exact rfl); (case rd1 => with_unfolding_all exact rfl))
  | ((with_reducible refine' dop_insN ?rd0 ?rd1 ?_); (case rd0 => with_unfolding_all exact rfl); (case rd1 => with_unfolding_all exact rfl))
  | ((with_reducible refine' dop_insI ?rd0 ?_); (case rd0 => with_unfolding_all exact rfl))
  | ((with_reducible refine' dop_insNI ?rd0 ?_); (case rd0 => with_unfolding_all exact rfl))
  | ((with_reducible refine' dun_ins ?rd0 ?_); (case rd0 => with_unfolding_all exact rfl))
  | (with_reducible refine dop_leB ?_)
  | (with_reducible refine di_ks ?_)
  | (with_reducible refine den_join ?_)
  | (with_reducible refine den_revL ?_)
  | (with_reducible refine den_jd ?_)
  | (with_reducible refine denj_nil ?_)
  | (with_reducible refine denj_cons ?_)
  | (with_reducible refine den_fmt ?_)
  | (with_reducible refine den_maxd ?_)
  | (with_reducible refine di_enTS ?_)
  | (with_reducible refine di_enT ?_)
  | (with_reducible refine ex_T1 ?_)
  | (with_reducible refine den_skT ?_)
  | (with_reducible refine di_enL ?_)
  | ((with_reducible refine' den_callX2 ?rd0 ?_); (case rd0 => first | assumption | exact outE2.wt (by assumption) | exact WT.never))
  | ((with_reducible refine' den_methX ?rd0 ?_); (case rd0 => first | assumption | exact outE2.wt (by assumption) | exact WT.never))
  | ((with_reducible refine' den_opX ?rd0 ?_); (case rd0 => first | assumption | exact outE2.wt (by assumption) | exact WT.never))
  | ((with_reducible refine' den_instX ?rd0 ?_); (case rd0 => first | assumption | exact outE2.wt (by assumption) | exact WT.never))
  | ((with_reducible refine' den_makeX ?rd0 ?rd1 ?_); (case rd0 => first | assumption | exact outE2.wt (by assumption) | exact WT.never); (case rd1 => assumption))
  | ((with_reducible refine' ex_ob2 ?rd0 ?rd1 ?_); (case rd0 => with_unfolding_all exact rfl); (case rd1 => with_unfolding_all exact rfl))
  | ((with_reducible refine' dcb_strO ?rd0 ?_); (case rd0 => with_unfolding_all exact rfl)))
local macro_rules | `(tactic| walk_at "dw") => `(tactic| repeat walk_at "d1")
local macro_rules | `(tactic| walk_at "dgo") => `(tactic| repeat (first | walk_at "d1" | refine rd_yes rfl ?_ | refine rd_noN rfl ?_ | refine rd_brT (by rfl) ?_ | refine rd_brF (by rfl) ?_))
/-! ### what the top has written -/
theorem all_mk {l : PySem.W.OpenLaw} {w : World} {K : PySem.W.Frag} {h : Heap} {mg : Str → Option Value} {fa f1 f2 f3 f4 f5 f8 f9 f10 f11 f12 f13 f14 f15 f16 f17 f18 f19 f20 : Addr} (X : K.In h) (G : h.Ns mainGlobals mg) (hfa : mg "law" = some (.ref fa))
    {od1 od2 od3 od4 od5 od8 od9 od10 od11 od12 od13 od14 od15 od16 od17 od18 od19 od20 an1 an2 an3 an4 an5 an8 an9 an10 an11 an12 an13 an14 an15 an16 an17 an18 an19 an20 : Option Addr} {sl1 sl2 sl3 sl4 sl5 sl8 sl9 sl10 sl11 sl12 sl13 sl14 sl15 sl16 sl17 sl18 sl19 sl20 : Array (Option Value)} {oc1 oc2 oc3 oc4 oc5 oc8 oc9 oc10 oc11 oc12 oc13 oc14 oc15 oc16 oc17 oc18 oc19 oc20 kV1 kV2 kV3 kV4 kV5 kV8 kV9 kV10 kV11 kV12 kV13 kV14 kV15 kV16 kV17 kV18 kV19 kV20 dc1 dc2 dc3 dc4 dc5 dc8 dc9 dc10 dc11 dc12 dc13 dc14 dc15 dc16 dc17 dc18 dc19 dc20 pm1 pm2 pm3 pm4 pm5 pm8 pm9 pm10 pm11 pm12 pm13 pm14 pm15 pm16 pm17 pm18 pm19 pm20 cd1 cd2 cd3 cd4 cd5 cd8 cd9 cd10 cd11 cd12 cd13 cd14 cd15 cd16 cd17 cd18 cd19 cd20 ct1 ct2 ct3 ct4 ct5 ct8 ct9 ct10 ct11 ct12 ct13 ct14 ct15 ct16 ct17 ct18 ct19 ct20 : Value}
    {tg_WIDTH : Tok} {cC_UnequalWidths : Addr} {cC_WordError : Addr} {cC_Mask : Addr} {f21 : Addr} {od21 an21 : Option Addr} {sl21 : Array (Option Value)} {oc21 kV21 dc21 pm21 cd21 ct21 : Value} {f22 : Addr} {od22 an22 : Option Addr} {sl22 : Array (Option Value)} {oc22 kV22 dc22 pm22 cd22 ct22 : Value} {pp22 : Addr} {re22 : List Value} {f23 : Addr} {od23 an23 : Option Addr} {sl23 : Array (Option Value)} {oc23 kV23 dc23 pm23 cd23 ct23 : Value} {pp23 : Addr} {re23 : List Value} {f24 : Addr} {od24 an24 : Option Addr} {sl24 : Array (Option Value)} {oc24 kV24 dc24 pm24 cd24 ct24 : Value} {pp24 : Addr} {re24 : List Value} {f25 : Addr} {od25 an25 : Option Addr} {sl25 : Array (Option Value)} {oc25 kV25 dc25 pm25 cd25 ct25 : Value} {f26 : Addr} {od26 an26 : Option Addr} {sl26 : Array (Option Value)} {oc26 kV26 dc26 pm26 cd26 ct26 : Value} {f27 : Addr} {od27 an27 : Option Addr} {sl27 : Array (Option Value)} {oc27 kV27 dc27 pm27 cd27 ct27 : Value} {f28 : Addr} {od28 an28 : Option Addr} {sl28 : Array (Option Value)} {oc28 kV28 dc28 pm28 cd28 ct28 : Value} {f29 : Addr} {od29 an29 : Option Addr} {sl29 : Array (Option Value)} {oc29 kV29 dc29 pm29 cd29 ct29 : Value} {f30 : Addr} {od30 an30 : Option Addr} {sl30 : Array (Option Value)} {oc30 kV30 dc30 pm30 cd30 ct30 : Value} {f31 : Addr} {od31 an31 : Option Addr} {sl31 : Array (Option Value)} {oc31 kV31 dc31 pm31 cd31 ct31 : Value}
    (a1 : PySem.W.nsIn K mainGlobals "is_integer" = some (some (.ref f1)))
    (l1 : K.lookup f1 = some ⟨oc1, od1, .func (PySem.W.fnOf "is_integer" "is_integer" (defArgs s_is_integer) (defBody s_is_integer) (defScope s_is_integer) .none kV1 dc1 pm1 an1 cd1 ct1), sl1⟩)
    (c1 : PySem.W.codeIn K cd1 "is_integer" = true) (k1 : PySem.W.keepIn K (.ref f1) = true)
    (a2 : PySem.W.nsIn K mainGlobals "is_integer_within" = some (some (.ref f2)))
    (l2 : K.lookup f2 = some ⟨oc2, od2, .func (PySem.W.fnOf "is_integer_within" "is_integer_within" (defArgs s_is_integer_within) (defBody s_is_integer_within) (defScope s_is_integer_within) .none kV2 dc2 pm2 an2 cd2 ct2), sl2⟩)
    (c2 : PySem.W.codeIn K cd2 "is_integer_within" = true) (k2 : PySem.W.keepIn K (.ref f2) = true)
    (a3 : PySem.W.nsIn K mainGlobals "is_width" = some (some (.ref f3)))
    (l3 : K.lookup f3 = some ⟨oc3, od3, .func (PySem.W.fnOf "is_width" "is_width" (defArgs s_is_width) (defBody s_is_width) (defScope s_is_width) .none kV3 dc3 pm3 an3 cd3 ct3), sl3⟩)
    (c3 : PySem.W.codeIn K cd3 "is_width" = true) (k3 : PySem.W.keepIn K (.ref f3) = true)
    (a4 : PySem.W.nsIn K mainGlobals "greatest_word" = some (some (.ref f4)))
    (l4 : K.lookup f4 = some ⟨oc4, od4, .func (PySem.W.fnOf "greatest_word" "greatest_word" (defArgs s_greatest_word) (defBody s_greatest_word) (defScope s_greatest_word) .none kV4 dc4 pm4 an4 cd4 ct4), sl4⟩)
    (c4 : PySem.W.codeIn K cd4 "greatest_word" = true) (k4 : PySem.W.keepIn K (.ref f4) = true)
    (a5 : PySem.W.nsIn K mainGlobals "is_word" = some (some (.ref f5)))
    (l5 : K.lookup f5 = some ⟨oc5, od5, .func (PySem.W.fnOf "is_word" "is_word" (defArgs s_is_word) (defBody s_is_word) (defScope s_is_word) .none kV5 dc5 pm5 an5 cd5 ct5), sl5⟩)
    (c5 : PySem.W.codeIn K cd5 "is_word" = true) (k5 : PySem.W.keepIn K (.ref f5) = true)
    (a8 : PySem.W.nsIn K mainGlobals "_law_draws" = some (some (.ref f8)))
    (l8 : K.lookup f8 = some ⟨oc8, od8, .func (PySem.W.fnOf "_law_draws" "_law_draws" (defArgs s__law_draws) (defBody s__law_draws) (defScope s__law_draws) .none kV8 dc8 pm8 an8 cd8 ct8), sl8⟩)
    (c8 : PySem.W.codeIn K cd8 "_law_draws" = true) (k8 : PySem.W.keepIn K (.ref f8) = true)
    (a9 : PySem.W.nsIn K mainGlobals "_law_next" = some (some (.ref f9)))
    (l9 : K.lookup f9 = some ⟨oc9, od9, .func (PySem.W.fnOf "_law_next" "_law_next" (defArgs s__law_next) (defBody s__law_next) (defScope s__law_next) .none kV9 dc9 pm9 an9 cd9 ct9), sl9⟩)
    (c9 : PySem.W.codeIn K cd9 "_law_next" = true) (k9 : PySem.W.keepIn K (.ref f9) = true)
    (a10 : PySem.W.nsIn K mainGlobals "_law_one" = some (some (.ref f10)))
    (l10 : K.lookup f10 = some ⟨oc10, od10, .func (PySem.W.fnOf "_law_one" "_law_one" (defArgs s__law_one) (defBody s__law_one) (defScope s__law_one) .none kV10 dc10 pm10 an10 cd10 ct10), sl10⟩)
    (c10 : PySem.W.codeIn K cd10 "_law_one" = true) (k10 : PySem.W.keepIn K (.ref f10) = true)
    (a11 : PySem.W.nsIn K mainGlobals "_law_width" = some (some (.ref f11)))
    (l11 : K.lookup f11 = some ⟨oc11, od11, .func (PySem.W.fnOf "_law_width" "_law_width" (defArgs s__law_width) (defBody s__law_width) (defScope s__law_width) .none kV11 dc11 pm11 an11 cd11 ct11), sl11⟩)
    (c11 : PySem.W.codeIn K cd11 "_law_width" = true) (k11 : PySem.W.keepIn K (.ref f11) = true)
    (a12 : PySem.W.nsIn K mainGlobals "_law_word" = some (some (.ref f12)))
    (l12 : K.lookup f12 = some ⟨oc12, od12, .func (PySem.W.fnOf "_law_word" "_law_word" (defArgs s__law_word) (defBody s__law_word) (defScope s__law_word) .none kV12 dc12 pm12 an12 cd12 ct12), sl12⟩)
    (c12 : PySem.W.codeIn K cd12 "_law_word" = true) (k12 : PySem.W.keepIn K (.ref f12) = true)
    (a13 : PySem.W.nsIn K mainGlobals "_law_ends" = some (some (.ref f13)))
    (l13 : K.lookup f13 = some ⟨oc13, od13, .func (PySem.W.fnOf "_law_ends" "_law_ends" (defArgs s__law_ends) (defBody s__law_ends) (defScope s__law_ends) .none kV13 dc13 pm13 an13 cd13 ct13), sl13⟩)
    (c13 : PySem.W.codeIn K cd13 "_law_ends" = true) (k13 : PySem.W.keepIn K (.ref f13) = true)
    (a14 : PySem.W.nsIn K mainGlobals "_law_members" = some (some (.ref f14)))
    (l14 : K.lookup f14 = some ⟨oc14, od14, .func (PySem.W.fnOf "_law_members" "_law_members" (defArgs s__law_members) (defBody s__law_members) (defScope s__law_members) .none kV14 dc14 pm14 an14 cd14 ct14), sl14⟩)
    (c14 : PySem.W.codeIn K cd14 "_law_members" = true) (k14 : PySem.W.keepIn K (.ref f14) = true)
    (a15 : PySem.W.nsIn K mainGlobals "_law_hull" = some (some (.ref f15)))
    (l15 : K.lookup f15 = some ⟨oc15, od15, .func (PySem.W.fnOf "_law_hull" "_law_hull" (defArgs s__law_hull) (defBody s__law_hull) (defScope s__law_hull) .none kV15 dc15 pm15 an15 cd15 ct15), sl15⟩)
    (c15 : PySem.W.codeIn K cd15 "_law_hull" = true) (k15 : PySem.W.keepIn K (.ref f15) = true)
    (a16 : PySem.W.nsIn K mainGlobals "_law_other_ends" = some (some (.ref f16)))
    (l16 : K.lookup f16 = some ⟨oc16, od16, .func (PySem.W.fnOf "_law_other_ends" "_law_other_ends" (defArgs s__law_other_ends) (defBody s__law_other_ends) (defScope s__law_other_ends) .none kV16 dc16 pm16 an16 cd16 ct16), sl16⟩)
    (c16 : PySem.W.codeIn K cd16 "_law_other_ends" = true) (k16 : PySem.W.keepIn K (.ref f16) = true)
    (a17 : PySem.W.nsIn K mainGlobals "_law_small_right" = some (some (.ref f17)))
    (l17 : K.lookup f17 = some ⟨oc17, od17, .func (PySem.W.fnOf "_law_small_right" "_law_small_right" (defArgs s__law_small_right) (defBody s__law_small_right) (defScope s__law_small_right) .none kV17 dc17 pm17 an17 cd17 ct17), sl17⟩)
    (c17 : PySem.W.codeIn K cd17 "_law_small_right" = true) (k17 : PySem.W.keepIn K (.ref f17) = true)
    (a18 : PySem.W.nsIn K mainGlobals "_law_great_right" = some (some (.ref f18)))
    (l18 : K.lookup f18 = some ⟨oc18, od18, .func (PySem.W.fnOf "_law_great_right" "_law_great_right" (defArgs s__law_great_right) (defBody s__law_great_right) (defScope s__law_great_right) .none kV18 dc18 pm18 an18 cd18 ct18), sl18⟩)
    (c18 : PySem.W.codeIn K cd18 "_law_great_right" = true) (k18 : PySem.W.keepIn K (.ref f18) = true)
    (a19 : PySem.W.nsIn K mainGlobals "_law_refused" = some (some (.ref f19)))
    (l19 : K.lookup f19 = some ⟨oc19, od19, .func (PySem.W.fnOf "_law_refused" "_law_refused" (defArgs s__law_refused) (defBody s__law_refused) (defScope s__law_refused) .none kV19 dc19 pm19 an19 cd19 ct19), sl19⟩)
    (c19 : PySem.W.codeIn K cd19 "_law_refused" = true) (k19 : PySem.W.keepIn K (.ref f19) = true)
    (a20 : PySem.W.nsIn K mainGlobals "law" = some (some (.ref f20)))
    (l20 : K.lookup f20 = some ⟨oc20, od20, .func (PySem.W.fnOf "law" "law" (defArgs s_law) (defBody s_law) (defScope s_law) .none kV20 dc20 pm20 an20 cd20 ct20), sl20⟩)
    (c20 : PySem.W.codeIn K cd20 "law" = true) (k20 : PySem.W.keepIn K (.ref f20) = true)
    (z_LookupError : PySem.W.nsIn K mainGlobals "LookupError" = some none)
    (z_bool : PySem.W.nsIn K mainGlobals "bool" = some none)
    (z_enumerate : PySem.W.nsIn K mainGlobals "enumerate" = some none)
    (z_int : PySem.W.nsIn K mainGlobals "int" = some none)
    (z_isinstance : PySem.W.nsIn K mainGlobals "isinstance" = some none)
    (z_len : PySem.W.nsIn K mainGlobals "len" = some none)
    (z_list : PySem.W.nsIn K mainGlobals "list" = some none)
    (z_range : PySem.W.nsIn K mainGlobals "range" = some none)
    (z_repr : PySem.W.nsIn K mainGlobals "repr" = some none)
    (z_reversed : PySem.W.nsIn K mainGlobals "reversed" = some none)
    (z_str : PySem.W.nsIn K mainGlobals "str" = some none)
    (z_sum : PySem.W.nsIn K mainGlobals "sum" = some none)
    (g_WIDTH : PySem.W.nsIn K mainGlobals "WIDTH" = some (some (.int 64 tg_WIDTH)))
    (aC_UnequalWidths : PySem.W.nsIn K mainGlobals "UnequalWidths" = some (some (.ref cC_UnequalWidths)))
    (aC_WordError : PySem.W.nsIn K mainGlobals "WordError" = some (some (.ref cC_WordError)))
    (xq_UnequalWidths : PySem.W.excIn K cC_UnequalWidths [.type "ValueError", .type "Exception", .type "BaseException", .type "object"] "ValueError.__new__" = true)
    (ga_UnequalWidths : PySem.W.findIn K (.ref cC_UnequalWidths) "__getattribute__" = some (some (.builtin "BaseException.__getattribute__")))
    (gg_UnequalWidths : PySem.W.findIn K (.ref cC_UnequalWidths) "__getattr__" = some none)
    (kC_UnequalWidths : PySem.W.keepIn K (.ref cC_UnequalWidths) = true)
    (eC_UnequalWidths : PySem.W.subIn K (.ref cC_UnequalWidths) (.type "BaseException") = some true)
    (tC_UnequalWidths : PySem.W.typeIn K (.ref cC_UnequalWidths) = some (.type "type"))
    (hC_UnequalWidths : PySem.W.hasDictIn K cC_UnequalWidths = true)
    (ha_UnequalWidths : PySem.W.findIn K (.ref cC_UnequalWidths) "__class__" = some (some (.builtin "object.__class__")))
    (hn_UnequalWidths : PySem.W.specialIn K (.builtin "object.__class__") "__get__" = some (some (.builtin "getset_descriptor.__get__")))
    (ht_UnequalWidths : PySem.W.takesIn K (.builtin "object.__class__") = some true)
    (hm_UnequalWidths : PySem.W.mroIn K cC_UnequalWidths (.type "object") = some true)
    (xq_WordError : PySem.W.excIn K cC_WordError [.type "ValueError", .type "Exception", .type "BaseException", .type "object"] "ValueError.__new__" = true)
    (ga_WordError : PySem.W.findIn K (.ref cC_WordError) "__getattribute__" = some (some (.builtin "BaseException.__getattribute__")))
    (gg_WordError : PySem.W.findIn K (.ref cC_WordError) "__getattr__" = some none)
    (kC_WordError : PySem.W.keepIn K (.ref cC_WordError) = true)
    (eC_WordError : PySem.W.subIn K (.ref cC_WordError) (.type "BaseException") = some true)
    (tC_WordError : PySem.W.typeIn K (.ref cC_WordError) = some (.type "type"))
    (hC_WordError : PySem.W.hasDictIn K cC_WordError = true)
    (ha_WordError : PySem.W.findIn K (.ref cC_WordError) "__class__" = some (some (.builtin "object.__class__")))
    (hn_WordError : PySem.W.specialIn K (.builtin "object.__class__") "__get__" = some (some (.builtin "getset_descriptor.__get__")))
    (ht_WordError : PySem.W.takesIn K (.builtin "object.__class__") = some true)
    (hm_WordError : PySem.W.mroIn K cC_WordError (.type "object") = some true)
    (kt_UnequalWidths_LookupError : PySem.W.kitOne K (.ref cC_UnequalWidths) (.type "LookupError") = some false)
    (kt_UnequalWidths_UnequalWidths : PySem.W.kitOne K (.ref cC_UnequalWidths) (.ref cC_UnequalWidths) = some true)
    (sb_UnequalWidths_WordError : PySem.W.subIn K (.ref cC_UnequalWidths) (.ref cC_WordError) = some true)
    (aC_Mask : PySem.W.nsIn K mainGlobals "Mask" = some (some (.ref cC_Mask)))
    (pg_Mask : PySem.W.plainGet K cC_Mask Str.empty = true)
    (hd_Mask : PySem.W.hasDictIn K cC_Mask = true)
    (po_Mask : PySem.W.plainOver K cC_Mask = true)
    (sat_Mask : PySem.W.findIn K (.ref cC_Mask) "__setattr__" = some (some (.builtin "object.__setattr__")))
    (no_Mask__greatest : PySem.W.findIn K (.ref cC_Mask) "_greatest" = some none)
    (no_Mask__least : PySem.W.findIn K (.ref cC_Mask) "_least" = some none)
    (no_Mask__width : PySem.W.findIn K (.ref cC_Mask) "_width" = some none)
    (mks_Mask : PySem.W.makesIn K cC_Mask = true)
    (kpC_Mask : PySem.W.keepIn K (.ref cC_Mask) = true)
    (sf_Mask : PySem.W.selfFirst K cC_Mask = true)
    (mro_Mask : PySem.W.mroIn K cC_Mask (.type "object") = some true)
    (icl_Mask : PySem.W.findIn K (.ref cC_Mask) "__class__" = some (some (.builtin "object.__class__")))
    (icg_Mask : PySem.W.specialIn K (.builtin "object.__class__") "__get__" = some (some (.builtin "getset_descriptor.__get__")))
    (ict_Mask : PySem.W.takesIn K (.builtin "object.__class__") = some true)
    (kn_Mask_tuple : PySem.W.kitOne K (.ref cC_Mask) (.type "tuple") = some false)
    (kn_Mask_list : PySem.W.kitOne K (.ref cC_Mask) (.type "list") = some false)
    (kn_Mask_int : PySem.W.kitOne K (.ref cC_Mask) (.type "int") = some false)
    (kn_Mask_bool : PySem.W.kitOne K (.ref cC_Mask) (.type "bool") = some false)
    (kn_Mask_str : PySem.W.kitOne K (.ref cC_Mask) (.type "str") = some false)
    (me_Mask : PySem.W.kitOne K (.ref cC_Mask) (.ref cC_Mask) = some true)
    (nf_Mask_NoneType : PySem.W.notFirst K cC_Mask (.type "NoneType") = true)
    (ko_Mask_NoneType : PySem.W.kitOne K (.type "NoneType") (.ref cC_Mask) = some false)
    (nf_Mask_bool : PySem.W.notFirst K cC_Mask (.type "bool") = true)
    (ko_Mask_bool : PySem.W.kitOne K (.type "bool") (.ref cC_Mask) = some false)
    (nf_Mask_int : PySem.W.notFirst K cC_Mask (.type "int") = true)
    (ko_Mask_int : PySem.W.kitOne K (.type "int") (.ref cC_Mask) = some false)
    (nf_Mask_str : PySem.W.notFirst K cC_Mask (.type "str") = true)
    (ko_Mask_str : PySem.W.kitOne K (.type "str") (.ref cC_Mask) = some false)
    (nf_Mask_list : PySem.W.notFirst K cC_Mask (.type "list") = true)
    (ko_Mask_list : PySem.W.kitOne K (.type "list") (.ref cC_Mask) = some false)
    (nf_Mask_tuple : PySem.W.notFirst K cC_Mask (.type "tuple") = true)
    (ko_Mask_tuple : PySem.W.kitOne K (.type "tuple") (.ref cC_Mask) = some false)
    (nf_Mask_dict : PySem.W.notFirst K cC_Mask (.type "dict") = true)
    (ko_Mask_dict : PySem.W.kitOne K (.type "dict") (.ref cC_Mask) = some false)
    (at21 : PySem.W.findIn K (.ref cC_Mask) "__init__" = some (some (.ref f21)))
    (fn21 : PySem.W.isFn K (.ref f21) = true)
    (l21 : K.lookup f21 = some ⟨oc21, od21, .func (PySem.W.fnOf "__init__" "Mask.__init__" (defArgs s_Mask_init) (defBody s_Mask_init) (defScope s_Mask_init) .none kV21 dc21 pm21 an21 cd21 ct21), sl21⟩)
    (c21 : PySem.W.codeIn K cd21 "Mask.__init__" = true)
    (k21 : PySem.W.keepIn K (.ref f21) = true)
    (at22 : PySem.W.findIn K (.ref cC_Mask) "width" = some (some (.ref pp22)))
    (gt22 : PySem.W.specialIn K (.ref pp22) "__get__" = some (some (.builtin "property.__get__")))
    (tk22 : PySem.W.takesIn K (.ref pp22) = some true)
    (rc22 : PySem.W.recIn K pp22 "property" = some (.ref f22 :: re22))
    (l22 : K.lookup f22 = some ⟨oc22, od22, .func (PySem.W.fnOf "width" "Mask.width" (defArgs s_Mask_width) (defBody s_Mask_width) (defScope s_Mask_width) .none kV22 dc22 pm22 an22 cd22 ct22), sl22⟩)
    (c22 : PySem.W.codeIn K cd22 "Mask.width" = true)
    (k22 : PySem.W.keepIn K (.ref f22) = true)
    (at23 : PySem.W.findIn K (.ref cC_Mask) "least" = some (some (.ref pp23)))
    (gt23 : PySem.W.specialIn K (.ref pp23) "__get__" = some (some (.builtin "property.__get__")))
    (tk23 : PySem.W.takesIn K (.ref pp23) = some true)
    (rc23 : PySem.W.recIn K pp23 "property" = some (.ref f23 :: re23))
    (l23 : K.lookup f23 = some ⟨oc23, od23, .func (PySem.W.fnOf "least" "Mask.least" (defArgs s_Mask_least) (defBody s_Mask_least) (defScope s_Mask_least) .none kV23 dc23 pm23 an23 cd23 ct23), sl23⟩)
    (c23 : PySem.W.codeIn K cd23 "Mask.least" = true)
    (k23 : PySem.W.keepIn K (.ref f23) = true)
    (at24 : PySem.W.findIn K (.ref cC_Mask) "greatest" = some (some (.ref pp24)))
    (gt24 : PySem.W.specialIn K (.ref pp24) "__get__" = some (some (.builtin "property.__get__")))
    (tk24 : PySem.W.takesIn K (.ref pp24) = some true)
    (rc24 : PySem.W.recIn K pp24 "property" = some (.ref f24 :: re24))
    (l24 : K.lookup f24 = some ⟨oc24, od24, .func (PySem.W.fnOf "greatest" "Mask.greatest" (defArgs s_Mask_greatest) (defBody s_Mask_greatest) (defScope s_Mask_greatest) .none kV24 dc24 pm24 an24 cd24 ct24), sl24⟩)
    (c24 : PySem.W.codeIn K cd24 "Mask.greatest" = true)
    (k24 : PySem.W.keepIn K (.ref f24) = true)
    (at25 : PySem.W.findIn K (.ref cC_Mask) "_open_bits" = some (some (.ref f25)))
    (fn25 : PySem.W.isFn K (.ref f25) = true)
    (l25 : K.lookup f25 = some ⟨oc25, od25, .func (PySem.W.fnOf "_open_bits" "Mask._open_bits" (defArgs s_Mask_open_bits) (defBody s_Mask_open_bits) (defScope s_Mask_open_bits) .none kV25 dc25 pm25 an25 cd25 ct25), sl25⟩)
    (c25 : PySem.W.codeIn K cd25 "Mask._open_bits" = true)
    (k25 : PySem.W.keepIn K (.ref f25) = true)
    (at26 : PySem.W.findIn K (.ref cC_Mask) "_sign_at" = some (some (.ref f26)))
    (fn26 : PySem.W.isFn K (.ref f26) = true)
    (l26 : K.lookup f26 = some ⟨oc26, od26, .func (PySem.W.fnOf "_sign_at" "Mask._sign_at" (defArgs s_Mask_sign_at) (defBody s_Mask_sign_at) (defScope s_Mask_sign_at) .none kV26 dc26 pm26 an26 cd26 ct26), sl26⟩)
    (c26 : PySem.W.codeIn K cd26 "Mask._sign_at" = true)
    (k26 : PySem.W.keepIn K (.ref f26) = true)
    (at27 : PySem.W.findIn K (.ref cC_Mask) "_require_width_of" = some (some (.ref f27)))
    (fn27 : PySem.W.isFn K (.ref f27) = true)
    (l27 : K.lookup f27 = some ⟨oc27, od27, .func (PySem.W.fnOf "_require_width_of" "Mask._require_width_of" (defArgs s_Mask_require_width_of) (defBody s_Mask_require_width_of) (defScope s_Mask_require_width_of) .none kV27 dc27 pm27 an27 cd27 ct27), sl27⟩)
    (c27 : PySem.W.codeIn K cd27 "Mask._require_width_of" = true)
    (k27 : PySem.W.keepIn K (.ref f27) = true)
    (at28 : PySem.W.findIn K (.ref cC_Mask) "__str__" = some (some (.ref f28)))
    (fn28 : PySem.W.isFn K (.ref f28) = true)
    (l28 : K.lookup f28 = some ⟨oc28, od28, .func (PySem.W.fnOf "__str__" "Mask.__str__" (defArgs s_Mask_str) (defBody s_Mask_str) (defScope s_Mask_str) .none kV28 dc28 pm28 an28 cd28 ct28), sl28⟩)
    (c28 : PySem.W.codeIn K cd28 "Mask.__str__" = true)
    (k28 : PySem.W.keepIn K (.ref f28) = true)
    (at29 : PySem.W.findIn K (.ref cC_Mask) "common_with" = some (some (.ref f29)))
    (fn29 : PySem.W.isFn K (.ref f29) = true)
    (l29 : K.lookup f29 = some ⟨oc29, od29, .func (PySem.W.fnOf "common_with" "Mask.common_with" (defArgs s_Mask_common_with) (defBody s_Mask_common_with) (defScope s_Mask_common_with) .none kV29 dc29 pm29 an29 cd29 ct29), sl29⟩)
    (c29 : PySem.W.codeIn K cd29 "Mask.common_with" = true)
    (k29 : PySem.W.keepIn K (.ref f29) = true)
    (at30 : PySem.W.findIn K (.ref cC_Mask) "union_with" = some (some (.ref f30)))
    (fn30 : PySem.W.isFn K (.ref f30) = true)
    (l30 : K.lookup f30 = some ⟨oc30, od30, .func (PySem.W.fnOf "union_with" "Mask.union_with" (defArgs s_Mask_union_with) (defBody s_Mask_union_with) (defScope s_Mask_union_with) .none kV30 dc30 pm30 an30 cd30 ct30), sl30⟩)
    (c30 : PySem.W.codeIn K cd30 "Mask.union_with" = true)
    (k30 : PySem.W.keepIn K (.ref f30) = true)
    (at31 : PySem.W.findIn K (.ref cC_Mask) "is_within" = some (some (.ref f31)))
    (fn31 : PySem.W.isFn K (.ref f31) = true)
    (l31 : K.lookup f31 = some ⟨oc31, od31, .func (PySem.W.fnOf "is_within" "Mask.is_within" (defArgs s_Mask_is_within) (defBody s_Mask_is_within) (defScope s_Mask_is_within) .none kV31 dc31 pm31 an31 cd31 ct31), sl31⟩)
    (c31 : PySem.W.codeIn K cd31 "Mask.is_within" = true)
    (k31 : PySem.W.keepIn K (.ref f31) = true)
    : ∃ fd : FuncData, (∀ (s : Shared) (v : Value), BindsTo s fd ⟨[v], []⟩ [("_law_script", v)]) ∧ ∀ base : Heap, K.In base → base.Ns mainGlobals mg → GOk l.prog w K mg base 15 fa fd ["_law_script"] (sp_law K) := by
  have e := hfa.symm.trans (PySem.W.mg_of X G a20)
  cases e
  have T : Top mg := ⟨PySem.W.mg_none_of X G z_LookupError, PySem.W.mg_none_of X G z_bool, PySem.W.mg_none_of X G z_enumerate, PySem.W.mg_none_of X G z_int, PySem.W.mg_none_of X G z_isinstance, PySem.W.mg_none_of X G z_len, PySem.W.mg_none_of X G z_list, PySem.W.mg_none_of X G z_range, PySem.W.mg_none_of X G z_repr, PySem.W.mg_none_of X G z_reversed, PySem.W.mg_none_of X G z_str, PySem.W.mg_none_of X G z_sum, ⟨_, PySem.W.mg_of X G g_WIDTH⟩⟩
  have CL_Mask : Cls K cC_Mask := ⟨pg_Mask, hd_Mask, po_Mask, sat_Mask⟩
  have A_Mask : mg "Mask" = some (.ref cC_Mask) := PySem.W.mg_of X G aC_Mask
  have ME_Mask : PySem.W.kitOne K (.ref cC_Mask) (.ref cC_Mask) = some true := me_Mask
  have OC_Mask : OC K cC_Mask := ⟨CL_Mask, icl_Mask, icg_Mask, ict_Mask, mro_Mask, fun m h => by
    simp only [List.mem_cons, List.not_mem_nil, or_false] at h
    rcases h with rfl | rfl | rfl | rfl | rfl
    · exact kn_Mask_tuple
    · exact kn_Mask_list
    · exact kn_Mask_int
    · exact kn_Mask_bool
    · exact kn_Mask_str⟩
  have AC_Mask : AnyC K cC_Mask := ⟨fun n hn => by
    simp only [plainTys, List.mem_cons, List.not_mem_nil, or_false] at hn
    rcases hn with rfl | rfl | rfl | rfl | rfl | rfl | rfl
    · exact nf_Mask_NoneType
    · exact nf_Mask_bool
    · exact nf_Mask_int
    · exact nf_Mask_str
    · exact nf_Mask_list
    · exact nf_Mask_tuple
    · exact nf_Mask_dict, fun n hn => by
    simp only [plainTys, List.mem_cons, List.not_mem_nil, or_false] at hn
    rcases hn with rfl | rfl | rfl | rfl | rfl | rfl | rfl
    · exact ko_Mask_NoneType
    · exact ko_Mask_bool
    · exact ko_Mask_int
    · exact ko_Mask_str
    · exact ko_Mask_list
    · exact ko_Mask_tuple
    · exact ko_Mask_dict, me_Mask⟩
  have NO_Mask__greatest : NoAttr K cC_Mask "_greatest" := no_Mask__greatest
  have NO_Mask__least : NoAttr K cC_Mask "_least" := no_Mask__least
  have NO_Mask__width : NoAttr K cC_Mask "_width" := no_Mask__width
  have F21 := fun_mk (st := s_Mask_init) l21 c21 k21
  have D21 : MkC K mg "Mask" cC_Mask "Mask.__init__" s_Mask_init ["self", "width", "least", "greatest"] _ _ := ⟨F21, ⟨mks_Mask, at21, fn21, kpC_Mask⟩, (F21.binds fun _ _ _ _ _ _ us hl => match us, hl with | [_, _, _, _], _ => rfl), CL_Mask, PySem.W.mg_of X G aC_Mask⟩
  have F22 := fun_mk (st := s_Mask_width) l22 c22 k22
  have D22 : Pp K cC_Mask "width" "Mask.width" s_Mask_width _ _ := ⟨F22, ⟨_, at22, gt22, tk22, ⟨_, rc22⟩⟩, (F22.binds fun _ _ _ _ _ _ us hl => match us, hl with | [_], _ => rfl), CL_Mask⟩
  have F23 := fun_mk (st := s_Mask_least) l23 c23 k23
  have D23 : Pp K cC_Mask "least" "Mask.least" s_Mask_least _ _ := ⟨F23, ⟨_, at23, gt23, tk23, ⟨_, rc23⟩⟩, (F23.binds fun _ _ _ _ _ _ us hl => match us, hl with | [_], _ => rfl), CL_Mask⟩
  have F24 := fun_mk (st := s_Mask_greatest) l24 c24 k24
  have D24 : Pp K cC_Mask "greatest" "Mask.greatest" s_Mask_greatest _ _ := ⟨F24, ⟨_, at24, gt24, tk24, ⟨_, rc24⟩⟩, (F24.binds fun _ _ _ _ _ _ us hl => match us, hl with | [_], _ => rfl), CL_Mask⟩
  have F25 := fun_mk (st := s_Mask_open_bits) l25 c25 k25
  have D25 : Mt K cC_Mask "_open_bits" "Mask._open_bits" s_Mask_open_bits ["self"] _ _ := ⟨F25, ⟨at25, fn25, k25⟩, (F25.binds fun _ _ _ _ _ _ us hl => match us, hl with | [_], _ => rfl), CL_Mask⟩
  have F26 := fun_mk (st := s_Mask_sign_at) l26 c26 k26
  have D26 : Mt K cC_Mask "_sign_at" "Mask._sign_at" s_Mask_sign_at ["self", "place"] _ _ := ⟨F26, ⟨at26, fn26, k26⟩, (F26.binds fun _ _ _ _ _ _ us hl => match us, hl with | [_, _], _ => rfl), CL_Mask⟩
  have F27 := fun_mk (st := s_Mask_require_width_of) l27 c27 k27
  have D27 : Mt K cC_Mask "_require_width_of" "Mask._require_width_of" s_Mask_require_width_of ["self", "other"] _ _ := ⟨F27, ⟨at27, fn27, k27⟩, (F27.binds fun _ _ _ _ _ _ us hl => match us, hl with | [_, _], _ => rfl), CL_Mask⟩
  have F28 := fun_mk (st := s_Mask_str) l28 c28 k28
  have D28 : Mt K cC_Mask "__str__" "Mask.__str__" s_Mask_str ["self"] _ _ := ⟨F28, ⟨at28, fn28, k28⟩, (F28.binds fun _ _ _ _ _ _ us hl => match us, hl with | [_], _ => rfl), CL_Mask⟩
  have F29 := fun_mk (st := s_Mask_common_with) l29 c29 k29
  have D29 : Mt K cC_Mask "common_with" "Mask.common_with" s_Mask_common_with ["self", "other"] _ _ := ⟨F29, ⟨at29, fn29, k29⟩, (F29.binds fun _ _ _ _ _ _ us hl => match us, hl with | [_, _], _ => rfl), CL_Mask⟩
  have F30 := fun_mk (st := s_Mask_union_with) l30 c30 k30
  have D30 : Mt K cC_Mask "union_with" "Mask.union_with" s_Mask_union_with ["self", "other"] _ _ := ⟨F30, ⟨at30, fn30, k30⟩, (F30.binds fun _ _ _ _ _ _ us hl => match us, hl with | [_, _], _ => rfl), CL_Mask⟩
  have F31 := fun_mk (st := s_Mask_is_within) l31 c31 k31
  have D31 : Mt K cC_Mask "is_within" "Mask.is_within" s_Mask_is_within ["self", "other"] _ _ := ⟨F31, ⟨at31, fn31, k31⟩, (F31.binds fun _ _ _ _ _ _ us hl => match us, hl with | [_, _], _ => rfl), CL_Mask⟩
  have F1 := fun_mk (st := s_is_integer) l1 c1 k1
  have D1 : Df K mg "is_integer" s_is_integer ["value"] _ _ := ⟨F1, PySem.W.mg_of X G a1, F1.binds fun _ _ _ _ _ _ us hl => match us, hl with | [_], _ => rfl⟩
  have F2 := fun_mk (st := s_is_integer_within) l2 c2 k2
  have D2 : Df K mg "is_integer_within" s_is_integer_within ["value", "low", "high"] _ _ := ⟨F2, PySem.W.mg_of X G a2, F2.binds fun _ _ _ _ _ _ us hl => match us, hl with | [_, _, _], _ => rfl⟩
  have F3 := fun_mk (st := s_is_width) l3 c3 k3
  have D3 : Df K mg "is_width" s_is_width ["value"] _ _ := ⟨F3, PySem.W.mg_of X G a3, F3.binds fun _ _ _ _ _ _ us hl => match us, hl with | [_], _ => rfl⟩
  have F4 := fun_mk (st := s_greatest_word) l4 c4 k4
  have D4 : Df K mg "greatest_word" s_greatest_word ["width"] _ _ := ⟨F4, PySem.W.mg_of X G a4, F4.binds fun _ _ _ _ _ _ us hl => match us, hl with | [_], _ => rfl⟩
  have F5 := fun_mk (st := s_is_word) l5 c5 k5
  have D5 : Df K mg "is_word" s_is_word ["value", "width"] _ _ := ⟨F5, PySem.W.mg_of X G a5, F5.binds fun _ _ _ _ _ _ us hl => match us, hl with | [_, _], _ => rfl⟩
  have F8 := fun_mk (st := s__law_draws) l8 c8 k8
  have D8 : Df K mg "_law_draws" s__law_draws ["_law_script"] _ _ := ⟨F8, PySem.W.mg_of X G a8, F8.binds fun _ _ _ _ _ _ us hl => match us, hl with | [_], _ => rfl⟩
  have F9 := fun_mk (st := s__law_next) l9 c9 k9
  have D9 : Df K mg "_law_next" s__law_next ["_law_drawn", "_law_many"] _ _ := ⟨F9, PySem.W.mg_of X G a9, F9.binds fun _ _ _ _ _ _ us hl => match us, hl with | [_, _], _ => rfl⟩
  have F10 := fun_mk (st := s__law_one) l10 c10 k10
  have D10 : Df K mg "_law_one" s__law_one ["_law_drawn", "_law_items"] _ _ := ⟨F10, PySem.W.mg_of X G a10, F10.binds fun _ _ _ _ _ _ us hl => match us, hl with | [_, _], _ => rfl⟩
  have F11 := fun_mk (st := s__law_width) l11 c11 k11
  have D11 : Df K mg "_law_width" s__law_width ["_law_drawn"] _ _ := ⟨F11, PySem.W.mg_of X G a11, F11.binds fun _ _ _ _ _ _ us hl => match us, hl with | [_], _ => rfl⟩
  have F12 := fun_mk (st := s__law_word) l12 c12 k12
  have D12 : Df K mg "_law_word" s__law_word ["_law_drawn", "_law_width_here"] _ _ := ⟨F12, PySem.W.mg_of X G a12, F12.binds fun _ _ _ _ _ _ us hl => match us, hl with | [_, _], _ => rfl⟩
  have F13 := fun_mk (st := s__law_ends) l13 c13 k13
  have D13 : Df K mg "_law_ends" s__law_ends ["_law_drawn", "_law_width_here"] _ _ := ⟨F13, PySem.W.mg_of X G a13, F13.binds fun _ _ _ _ _ _ us hl => match us, hl with | [_, _], _ => rfl⟩
  have F14 := fun_mk (st := s__law_members) l14 c14 k14
  have D14 : Df K mg "_law_members" s__law_members ["_law_width_here", "_law_least", "_law_greatest"] _ _ := ⟨F14, PySem.W.mg_of X G a14, F14.binds fun _ _ _ _ _ _ us hl => match us, hl with | [_, _, _], _ => rfl⟩
  have F15 := fun_mk (st := s__law_hull) l15 c15 k15
  have D15 : Df K mg "_law_hull" s__law_hull ["_law_width_here", "_law_words"] _ _ := ⟨F15, PySem.W.mg_of X G a15, F15.binds fun _ _ _ _ _ _ us hl => match us, hl with | [_, _], _ => rfl⟩
  have F16 := fun_mk (st := s__law_other_ends) l16 c16 k16
  have D16 : Df K mg "_law_other_ends" s__law_other_ends ["_law_drawn", "_law_width_here", "_law_ends_here"] _ _ := ⟨F16, PySem.W.mg_of X G a16, F16.binds fun _ _ _ _ _ _ us hl => match us, hl with | [_, _, _], _ => rfl⟩
  have F17 := fun_mk (st := s__law_small_right) l17 c17 k17
  have D17 : Df K mg "_law_small_right" s__law_small_right ["_law_drawn"] _ _ := ⟨F17, PySem.W.mg_of X G a17, F17.binds fun _ _ _ _ _ _ us hl => match us, hl with | [_], _ => rfl⟩
  have F18 := fun_mk (st := s__law_great_right) l18 c18 k18
  have D18 : Df K mg "_law_great_right" s__law_great_right ["_law_drawn"] _ _ := ⟨F18, PySem.W.mg_of X G a18, F18.binds fun _ _ _ _ _ _ us hl => match us, hl with | [_], _ => rfl⟩
  have F19 := fun_mk (st := s__law_refused) l19 c19 k19
  have D19 : Df K mg "_law_refused" s__law_refused ["_law_way", "_law_one_here", "_law_other"] _ _ := ⟨F19, PySem.W.mg_of X G a19, F19.binds fun _ _ _ _ _ _ us hl => match us, hl with | [_, _, _], _ => rfl⟩
  have F20 := fun_mk (st := s_law) l20 c20 k20
  have D20 : Df K mg "law" s_law ["_law_script"] _ _ := ⟨F20, PySem.W.mg_of X G a20, F20.binds fun _ _ _ _ _ _ us hl => match us, hl with | [_], _ => rfl⟩
  refine ⟨PySem.W.fnOf "law" "law" (defArgs s_law) (defBody s_law) (defScope s_law) .none kV20 dc20 pm20 an20 cd20 ct20, fun s v => .of_eq rfl, fun base _ _ => ?_⟩
  have EN_UnequalWidths : ErrN K mg "UnequalWidths" cC_UnequalWidths := ⟨xq_UnequalWidths, PySem.W.mg_of X G aC_UnequalWidths, kC_UnequalWidths, eC_UnequalWidths, tC_UnequalWidths⟩
  have EX_UnequalWidths : ExcC K cC_UnequalWidths := ⟨ga_UnequalWidths, gg_UnequalWidths, eC_UnequalWidths, hC_UnequalWidths, ha_UnequalWidths, hn_UnequalWidths, ht_UnequalWidths, hm_UnequalWidths⟩
  have EN_WordError : ErrN K mg "WordError" cC_WordError := ⟨xq_WordError, PySem.W.mg_of X G aC_WordError, kC_WordError, eC_WordError, tC_WordError⟩
  have EX_WordError : ExcC K cC_WordError := ⟨ga_WordError, gg_WordError, eC_WordError, hC_WordError, ha_WordError, hn_WordError, ht_WordError, hm_WordError⟩
  have CL : Cl65 K mg cC_UnequalWidths cC_WordError := ⟨PySem.W.mg_of X G aC_WordError, PySem.W.exm_ref eC_WordError hC_WordError tC_WordError sb_UnequalWidths_WordError, kt_UnequalWidths_UnequalWidths, kt_UnequalWidths_LookupError⟩
  have hXs : ∀ C, C ∈ [cC_UnequalWidths] → ExcC K C := fun C h => by
    simp only [List.mem_cons, List.not_mem_nil, or_false] at h
    rcases h with rfl
    exact EX_UnequalWidths
  have iU : cC_UnequalWidths ∈ [cC_UnequalWidths] := by simp
  have G_Mask_init := ok_mini (P := l.prog) (w := w) (base := base) T CL_Mask NO_Mask__width NO_Mask__least NO_Mask__greatest D1 D2 D4 D3 D5 D21.fn
  have G_Mask_open_bits := ok_mopn (P := l.prog) (w := w) (base := base) T CL_Mask NO_Mask__least NO_Mask__greatest D25.fn
  have G_Mask_sign_at := ok_msgn (P := l.prog) (w := w) (base := base) T CL_Mask NO_Mask__least D25 G_Mask_open_bits D26.fn
  have G_Mask_str := ok_mstr (P := l.prog) (w := w) (base := base) T CL_Mask NO_Mask__width D26 G_Mask_sign_at D28.fn
  have G_Mask_least := ok_mlea (P := l.prog) (w := w) (base := base) T CL_Mask NO_Mask__least D23.fn
  have G_Mask_greatest := ok_mgre (P := l.prog) (w := w) (base := base) T CL_Mask NO_Mask__greatest D24.fn
  have G_Mask_require_width_of := ok_mreq (P := l.prog) (w := w) (base := base) T CL_Mask NO_Mask__width EN_UnequalWidths D27.fn
  have G_Mask_common_with := ok_mcom (P := l.prog) (w := w) (base := base) T CL_Mask OC_Mask NO_Mask__width NO_Mask__least NO_Mask__greatest D27 G_Mask_require_width_of D21 G_Mask_init D29.fn
  have G_Mask_union_with := ok_muni (P := l.prog) (w := w) (base := base) T CL_Mask OC_Mask NO_Mask__width NO_Mask__least NO_Mask__greatest D27 G_Mask_require_width_of D21 G_Mask_init D30.fn
  have G_Mask_is_within := ok_mwin (P := l.prog) (w := w) (base := base) T CL_Mask NO_Mask__least NO_Mask__greatest D27 G_Mask_require_width_of D31.fn
  have G__law_small_right := ok_lsm (P := l.prog) (w := w) (base := base) T OC_Mask sf_Mask D9 D10 D12 D13 D16 D21 G_Mask_init D14 D15 D28 G_Mask_str D23 G_Mask_least D24 G_Mask_greatest D29 G_Mask_common_with D30 G_Mask_union_with D31 G_Mask_is_within D17.fn
  have G_Mask_width := ok_mwid (P := l.prog) (w := w) (base := base) T CL_Mask NO_Mask__width D22.fn
  have G__law_great_right := ok_lgr (P := l.prog) (w := w) (base := base) T OC_Mask D9 D10 D12 D13 D16 D11 D21 G_Mask_init D23 G_Mask_least D24 G_Mask_greatest D22 G_Mask_width D29 G_Mask_common_with D30 G_Mask_union_with D31 G_Mask_is_within D18.fn
  have G__law_refused := ok_lref (P := l.prog) (w := w) (base := base) hXs iU T CL EN_UnequalWidths D29 G_Mask_common_with D30 G_Mask_union_with D31 G_Mask_is_within D19.fn
  exact ok_law (P := l.prog) (w := w) (base := base) T OC_Mask D9 D10 D12 D13 D11 D21 G_Mask_init D8 D17 G__law_small_right D18 G__law_great_right D19 G__law_refused D20.fn
end Lw
open PySem PySem.W PyProof.Rows
set_option maxHeartbeats 0 in
theorem PySem.Challenge.cw_wordsalike_k66_masks_of_two_holds : PySem.Challenge.rw_wordsalike_k66_masks_of_two.Holds := by
  w_on; o_law; k_head; (case hw => w_witness2)
  k_fill
  refine Glay.walkG (l := PySem.Challenge.rw_wordsalike_k66_masks_of_two) (n := 63) (k := 15) (x := "_law_script") (sp := fun w => Lw.sp_law _) rfl (by decide) rfl ⟨rfl, by decide, by decide⟩ (fun w h Y => PySem.W.kIn_of Y) ?F (fun _ _ a ns hl _ hS => ⟨a, ns, rfl, hS, hl, fun _ => rfl⟩)
  case F =>
    intro w mg fa h KX G hmg
    open Lw in
    refine' all_mk KX G hmg ?a1 ?l1 ?c1 ?k1 ?a2 ?l2 ?c2 ?k2 ?a3 ?l3 ?c3 ?k3 ?a4 ?l4 ?c4 ?k4 ?a5 ?l5 ?c5 ?k5 ?a8 ?l8 ?c8 ?k8 ?a9 ?l9 ?c9 ?k9 ?a10 ?l10 ?c10 ?k10 ?a11 ?l11 ?c11 ?k11 ?a12 ?l12 ?c12 ?k12 ?a13 ?l13 ?c13 ?k13 ?a14 ?l14 ?c14 ?k14 ?a15 ?l15 ?c15 ?k15 ?a16 ?l16 ?c16 ?k16 ?a17 ?l17 ?c17 ?k17 ?a18 ?l18 ?c18 ?k18 ?a19 ?l19 ?c19 ?k19 ?a20 ?l20 ?c20 ?k20 ?z_LookupError ?z_bool ?z_enumerate ?z_int ?z_isinstance ?z_len ?z_list ?z_range ?z_repr ?z_reversed ?z_str ?z_sum ?g_WIDTH ?aC_UnequalWidths ?aC_WordError ?xq_UnequalWidths ?ga_UnequalWidths ?gg_UnequalWidths ?kC_UnequalWidths ?eC_UnequalWidths ?tC_UnequalWidths ?hC_UnequalWidths ?ha_UnequalWidths ?hn_UnequalWidths ?ht_UnequalWidths ?hm_UnequalWidths ?xq_WordError ?ga_WordError ?gg_WordError ?kC_WordError ?eC_WordError ?tC_WordError ?hC_WordError ?ha_WordError ?hn_WordError ?ht_WordError ?hm_WordError ?kt_UnequalWidths_LookupError ?kt_UnequalWidths_UnequalWidths ?sb_UnequalWidths_WordError ?aC_Mask ?pg_Mask ?hd_Mask ?po_Mask ?sat_Mask ?no_Mask__greatest ?no_Mask__least ?no_Mask__width ?mks_Mask ?kpC_Mask ?sf_Mask ?mro_Mask ?icl_Mask ?icg_Mask ?ict_Mask ?kn_Mask_tuple ?kn_Mask_list ?kn_Mask_int ?kn_Mask_bool ?kn_Mask_str ?me_Mask ?nf_Mask_NoneType ?ko_Mask_NoneType ?nf_Mask_bool ?ko_Mask_bool ?nf_Mask_int ?ko_Mask_int ?nf_Mask_str ?ko_Mask_str ?nf_Mask_list ?ko_Mask_list ?nf_Mask_tuple ?ko_Mask_tuple ?nf_Mask_dict ?ko_Mask_dict ?at21 ?fn21 ?l21 ?c21 ?k21 ?at22 ?gt22 ?tk22 ?rc22 ?l22 ?c22 ?k22 ?at23 ?gt23 ?tk23 ?rc23 ?l23 ?c23 ?k23 ?at24 ?gt24 ?tk24 ?rc24 ?l24 ?c24 ?k24 ?at25 ?fn25 ?l25 ?c25 ?k25 ?at26 ?fn26 ?l26 ?c26 ?k26 ?at27 ?fn27 ?l27 ?c27 ?k27 ?at28 ?fn28 ?l28 ?c28 ?k28 ?at29 ?fn29 ?l29 ?c29 ?k29 ?at30 ?fn30 ?l30 ?c30 ?k30 ?at31 ?fn31 ?l31 ?c31 ?k31
    (case a1 => k_is)
    (case l1 => k_is)
    (case c1 => k_is)
    (case k1 => k_is)
    (case a2 => k_is)
    (case l2 => k_is)
    (case c2 => k_is)
    (case k2 => k_is)
    (case a3 => k_is)
    (case l3 => k_is)
    (case c3 => k_is)
    (case k3 => k_is)
    (case a4 => k_is)
    (case l4 => k_is)
    (case c4 => k_is)
    (case k4 => k_is)
    (case a5 => k_is)
    (case l5 => k_is)
    (case c5 => k_is)
    (case k5 => k_is)
    (case a8 => k_is)
    (case l8 => k_is)
    (case c8 => k_is)
    (case k8 => k_is)
    (case a9 => k_is)
    (case l9 => k_is)
    (case c9 => k_is)
    (case k9 => k_is)
    (case a10 => k_is)
    (case l10 => k_is)
    (case c10 => k_is)
    (case k10 => k_is)
    (case a11 => k_is)
    (case l11 => k_is)
    (case c11 => k_is)
    (case k11 => k_is)
    (case a12 => k_is)
    (case l12 => k_is)
    (case c12 => k_is)
    (case k12 => k_is)
    (case a13 => k_is)
    (case l13 => k_is)
    (case c13 => k_is)
    (case k13 => k_is)
    (case a14 => k_is)
    (case l14 => k_is)
    (case c14 => k_is)
    (case k14 => k_is)
    (case a15 => k_is)
    (case l15 => k_is)
    (case c15 => k_is)
    (case k15 => k_is)
    (case a16 => k_is)
    (case l16 => k_is)
    (case c16 => k_is)
    (case k16 => k_is)
    (case a17 => k_is)
    (case l17 => k_is)
    (case c17 => k_is)
    (case k17 => k_is)
    (case a18 => k_is)
    (case l18 => k_is)
    (case c18 => k_is)
    (case k18 => k_is)
    (case a19 => k_is)
    (case l19 => k_is)
    (case c19 => k_is)
    (case k19 => k_is)
    (case a20 => k_is)
    (case l20 => k_is)
    (case c20 => k_is)
    (case k20 => k_is)
    (case z_LookupError => k_is)
    (case z_bool => k_is)
    (case z_enumerate => k_is)
    (case z_int => k_is)
    (case z_isinstance => k_is)
    (case z_len => k_is)
    (case z_list => k_is)
    (case z_range => k_is)
    (case z_repr => k_is)
    (case z_reversed => k_is)
    (case z_str => k_is)
    (case z_sum => k_is)
    (case g_WIDTH => k_is)
    (case aC_UnequalWidths => k_is)
    (case aC_WordError => k_is)
    (case xq_UnequalWidths => k_exc)
    (case ga_UnequalWidths => k_is)
    (case gg_UnequalWidths => k_is)
    (case kC_UnequalWidths => k_is)
    (case eC_UnequalWidths => k_is)
    (case tC_UnequalWidths => k_is)
    (case hC_UnequalWidths => k_is)
    (case ha_UnequalWidths => k_is)
    (case hn_UnequalWidths => k_is)
    (case ht_UnequalWidths => k_is)
    (case hm_UnequalWidths => k_is)
    (case xq_WordError => k_exc)
    (case ga_WordError => k_is)
    (case gg_WordError => k_is)
    (case kC_WordError => k_is)
    (case eC_WordError => k_is)
    (case tC_WordError => k_is)
    (case hC_WordError => k_is)
    (case ha_WordError => k_is)
    (case hn_WordError => k_is)
    (case ht_WordError => k_is)
    (case hm_WordError => k_is)
    (case kt_UnequalWidths_LookupError => kit_is)
    (case kt_UnequalWidths_UnequalWidths => kit_is)
    (case sb_UnequalWidths_WordError => k_is)
    (case aC_Mask => k_is)
    (case pg_Mask => k_is)
    (case hd_Mask => k_is)
    (case po_Mask => k_is)
    (case sat_Mask => k_is)
    (case no_Mask__greatest => k_is)
    (case no_Mask__least => k_is)
    (case no_Mask__width => k_is)
    (case mks_Mask => k_is)
    (case kpC_Mask => k_is)
    (case sf_Mask => k_is)
    (case mro_Mask => k_is)
    (case icl_Mask => k_is)
    (case icg_Mask => k_is)
    (case ict_Mask => k_is)
    (case kn_Mask_tuple => kit_is)
    (case kn_Mask_list => kit_is)
    (case kn_Mask_int => kit_is)
    (case kn_Mask_bool => kit_is)
    (case kn_Mask_str => kit_is)
    (case me_Mask => kit_is)
    (case nf_Mask_NoneType => k_is)
    (case ko_Mask_NoneType => kit_is)
    (case nf_Mask_bool => k_is)
    (case ko_Mask_bool => kit_is)
    (case nf_Mask_int => k_is)
    (case ko_Mask_int => kit_is)
    (case nf_Mask_str => k_is)
    (case ko_Mask_str => kit_is)
    (case nf_Mask_list => k_is)
    (case ko_Mask_list => kit_is)
    (case nf_Mask_tuple => k_is)
    (case ko_Mask_tuple => kit_is)
    (case nf_Mask_dict => k_is)
    (case ko_Mask_dict => kit_is)
    (case at21 => k_is)
    (case fn21 => k_is)
    (case l21 => k_is)
    (case c21 => k_is)
    (case k21 => k_is)
    (case at22 => k_is)
    (case gt22 => k_is)
    (case tk22 => k_is)
    (case rc22 => k_is)
    (case l22 => k_is)
    (case c22 => k_is)
    (case k22 => k_is)
    (case at23 => k_is)
    (case gt23 => k_is)
    (case tk23 => k_is)
    (case rc23 => k_is)
    (case l23 => k_is)
    (case c23 => k_is)
    (case k23 => k_is)
    (case at24 => k_is)
    (case gt24 => k_is)
    (case tk24 => k_is)
    (case rc24 => k_is)
    (case l24 => k_is)
    (case c24 => k_is)
    (case k24 => k_is)
    (case at25 => k_is)
    (case fn25 => k_is)
    (case l25 => k_is)
    (case c25 => k_is)
    (case k25 => k_is)
    (case at26 => k_is)
    (case fn26 => k_is)
    (case l26 => k_is)
    (case c26 => k_is)
    (case k26 => k_is)
    (case at27 => k_is)
    (case fn27 => k_is)
    (case l27 => k_is)
    (case c27 => k_is)
    (case k27 => k_is)
    (case at28 => k_is)
    (case fn28 => k_is)
    (case l28 => k_is)
    (case c28 => k_is)
    (case k28 => k_is)
    (case at29 => k_is)
    (case fn29 => k_is)
    (case l29 => k_is)
    (case c29 => k_is)
    (case k29 => k_is)
    (case at30 => k_is)
    (case fn30 => k_is)
    (case l30 => k_is)
    (case c30 => k_is)
    (case k30 => k_is)
    (case at31 => k_is)
    (case fn31 => k_is)
    (case l31 => k_is)
    (case c31 => k_is)
    (case k31 => k_is)
