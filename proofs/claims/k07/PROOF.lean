import PyProof.Rows.All
import Wide.All
import OpenK.AllK
import Wide.FinOn
import PyProof.ReprRoads
import HandS.ForMost
import HandS.Wide
import HandS.WideBits
import HandS.NoneIn
import HandS.Flow
import PySem.Challenge.RW_wordsalike_k07_words_and_signed_values
set_option Elab.async false
set_option linter.all false
set_option maxRecDepth 100000
set_option maxHeartbeats 4000000
/-! promises of defs that are called where no repr is under way; repr of data -/
namespace Glay
open PySem PySem.Spec PyProof.Rows L2

/-- the promise of a def, for calls around which no repr goes on -/
structure GOk (P : Program) (w : World) (K : PySem.W.Frag) (mg : Str → Option Value) (base : Heap) (k : Nat) (f : Addr) (fd : FuncData) (ps : List Str) (sp : Sp) : Prop where
  many : ∀ {vs H Q E}, sp vs H Q E → vs.length = ps.length
  goes : ∀ {A : Around} {outer s H args us vs Q E}, Room k A → A.guards = some [] → Env0 P w K mg base A outer s H → BindsTo s fd args (ps.zip us) → Vals vs us → sp vs H Q E →
    codeAny (model P w) A (.call (.ref f) args) (CR CX0 outer P w H s Q E) s

section
variable {P : Program} {w : World} {K : PySem.W.Frag} {mg : Str → Option Value} {base : Heap} {k : Nat} {f : Addr} {fd : FuncData} {N ps : List Str} {sp : Sp}
theorem GOk.of (F : FnOk P w K mg base CX0 k f fd ps sp) : GOk P w K mg base k f fd ps sp :=
  ⟨fun h => F.len _ _ _ _ h, fun hr _ e b r h => F.run _ _ _ _ _ _ _ _ _ hr e b r h⟩
theorem GOk.up {j : Nat} (F : GOk P w K mg base j f fd ps sp) (h : j ≤ k) : GOk P w K mg base k f fd ps sp :=
  ⟨F.many, fun hr g => F.goes (hr.mono h) g⟩

/-- a def of the text keeps its promise: its body may ask for a repr -/
theorem okG {x qual : Str} {st : Stmt} (F : Fun K x qual st f fd) (S : FnScope N ps (defScope st)) (many : ∀ {vs H Q E}, sp vs H Q E → vs.length = ps.length)
    (body : ∀ (cdv : Value) (A : Around) (outer : List Env) (s : Shared) (H : Hp) (vs : List V) (Q : VK) (E : XK), A.guards = some [] → Room k (A.deeper (envOfC qual (defScope st) s.heap.objs.size f cdv)) → sp vs H Q E →
      ∃ t, PSs (cxOf CX0 P w K mg base N qual (defScope st) f cdv A outer s H E).nox (defBody st) t ∧ t { nx := fun _ H' => Q .non H', rt := Q } (start N vs) H) :
    GOk P w K mg base (k + 1) f fd ps sp := by
  obtain ⟨oc, od, kV, doc, pm, an, cdv, ct, osl, rfl, look, isCode⟩ := F.ex
  refine ⟨many, ?_⟩
  intro A outer s H args us vs Q E room quiet e0 bound rel want
  have inK : K.In s.heap := e0.mod.kin.keeps fun b o e => (e0.bs b o e).1
  have noLid : s.heap.NoLimit := e0.mod.nolimit.keeps fun b o e => (e0.bs b o e).1
  have places : ∀ y ∈ ps.zip us, (defScope st).names.lookup y.1 = some .local ∨ ((defScope st).names.lookup y.1 = some .cell ∧ ((cellsFrom (s.heap.objs.size + 1) (defScope st).names []).lookup y.1).isSome = true) := by
    rintro ⟨n, v⟩ hy
    cases S.par n (List.of_mem_zip hy).1 with
    | inl q => exact .inl q
    | inr q => exact .inr ⟨q, PySem.W.cellsFrom_some _ _ _ (.inl q)⟩
  refine codeAny_call_function room.depth (inK _ _ look) rfl S.co S.gen rfl (PySem.W.codeRec_of inK isCode) (bound _ _ _ _ ?_)
  refine wpAny_newFunctionEnv_cells S.kind places ?_
  intro env he s1 x
  subst he
  refine ⟨noLid.keeps x.toInCall.keep, codeAny_func ?_⟩
  obtain ⟨t, runs, reads⟩ := body cdv A outer s H vs Q E quiet (room.deeper _) want
  have I := inv_start (CX := CX0) (cd := cdv) (f := f) (E := E) (qual := qual) S room.hd e0 (many want) rel x
  have back : ∀ {σ' : L2.St} {H' : Hp} {v : V} {u : Value} {s' : Shared}, Inv (cxOf CX0 P w K mg base N qual (defScope st) f cdv A outer s H E) [] σ' H' s' → RelV v u → Q v H' → CE outer P w H s Q u s' := by
    intro σ' H' v u s' J rv q
    exact ⟨v, H', J.os, J.bare, J.base, J.hok, rv, q⟩
  refine wpAny_mono (runs.nox.run [] s1 (start N vs) H _ I reads) ?_ fun _ _ h => h
  intro fl s' hs
  match fl, hs with
  | .ret u, ⟨v, σ', H', J, rv, q⟩ => exact back J rv q
  | .next, ⟨σ', H', J, q⟩ => exact back (v := .non) (u := .none) J rfl q
  | .brk, ⟨_, _, _, q⟩ => exact q.elim
  | .cont, ⟨_, _, _, q⟩ => exact q.elim
end

section
variable {X : Cx} {k : Nat} {f : Addr} {fd : FuncData} {ps : List Str} {sp : Sp} {dvs : List V} {ds : List Value} {x : Str} {p pos : Pos} {e : Expr} {es : List Expr} {t : TA}
/-- f(e, ..) of such a def -/
theorem pe_callG (F : GOk X.prog X.w X.K X.mg X.base k f fd ps sp) (hr : Room k X.A) (hq : X.A.guards = some []) (hg : Gl X x) (hm : X.mg x = some (.ref f)) (hk : PySem.W.keepIn X.K (.ref f) = true)
    (hb : Binds X.K fd ps ds) (hd : Vals dvs ds) (ha : PA X (e :: es) t) (hdb : (x == ("__debug__" : Str)) = false := by decide)
    (he : starEach (e :: es) X.env = (false, eval e X.env) :: starEach es X.env := by rfl) (hpl : (backTo pos (starEach es X.env)).any (·.1) = false := by rfl) :
    PE X (.Call (.Name x p) (e :: es) [] pos) (tCall sp dvs E0 t) := by
  constructor
  intro pins s σ H Q I h
  refine wpAny_Call_Name_kw (ld_glob I hg hm ?_ hdb)
  refine PySem.W.callWith_K (h₀ := X.base) I.ok.mod.kin hk (thn (ha.run pos pins s σ H _ I h) ?_) he hpl
  rintro us s1 ⟨vs, H1, I1, r, q⟩
  refine ⟨I1.kIn, ?_⟩
  have r2 := r.append hd
  have hl : (us ++ ds).length = ps.length := r2.length.symm.trans (F.many q)
  refine wpAny_call (codeAny_mono (F.goes hr hq I1.env0 (hb s1 us I1.kIn hl) r2 q) ?_)
  intro fin s' hf
  match fin, hf with
  | .error _, hf => exact hf.elim
  | .ok (.ret u), hf => exact I1.after hf
end

section
variable {X : Cx}
/-- repr of data that is reached by a reference -/
def rRepr (K : PySem.W.Frag) : List V → Hp → VK → Prop := fun xs H Q => ∃ a d, xs = [V.ref a] ∧ Dp K H (.ref a) d ∧ d.showable = true ∧ d.hasDict = false ∧ d.depth ≤ 90 ∧ d.shown.length ≤ sizeLine ∧ Q (.str d.shown) H
theorem call_reprG (hq : X.A.guards = some []) (hu : X.A.units + 100 < cLine) : CallR X (.builtin "repr") (rRepr X.K) := by
  intro pins s σ H xs us Q I r h
  obtain ⟨a, d, rfl, hd, sh, nd, dd, sz, q⟩ := h
  obtain ⟨u, rfl, ru⟩ := vals1 r
  obtain ⟨as, rd⟩ := Dp.reads I d _ u hd ru
  cases ru
  refine repr_of_reads' rd sh (fun z => by rw [nd] at z; cases z) hq (by omega) (fun _ _ e => e) (fun h' u tk keep => ?_) sz
  exact ⟨.str _, H, I.kept keep, ⟨_, rfl⟩, q⟩
end

/-! ### the end of a law's row -/
section
variable {P : Program} {w : World} {K : PySem.W.Frag}
theorem goesLaw {mg mb : Str → Option Value} {k : Nat} {fa a : Addr} {fd : FuncData} {x : Str} {sp : Sp} {z : Shared} {vs : List Value} {ns : List Int}
    (inK : K.In z.heap) (names : z.heap.Ns mainGlobals mg) (blt : z.heap.Ns builtinsNs mb) (boot : ∀ x : Str, x ≠ "__name__" → mb x = bootBuiltins x) (noLid : z.heap.NoLimit) (gens : z.gens = #[])
    (script : z.heap.get? a = some { cls := .type "list", data := .seq vs.toArray }) (whole : IntsAre vs ns) (few : ns.length ≤ sizeLine) (room : Room k callerA)
    (F : ∀ base : Heap, K.In base → base.Ns mainGlobals mg → GOk P w K mg base k fa fd [x] sp) (bound : ∀ (s : Shared) (u : Value), BindsTo s fd ⟨[u], []⟩ [(x, u)])
    (want : ∀ H : Hp, Only H → SqL K H a (ns.map V.int) → sp [.ref a] H (fun v _ => v = .bl true) fun _ _ _ => False) :
    codeAny (model P w) callerA (.call (.ref fa) ⟨[.ref a], []⟩) (fun r s' => r = .ok (.ret (.bool true)) ∧ OldK z.heap s'.heap ∧ s'.os = z.os ∧ AllBare s'.gens) z := by
  have rel := vals_ints whole
  have go : ∀ H : Hp, Only H → SqL K H a (ns.map V.int) → HOk P w H z.heap → (∀ b, H b ≠ none → b = a) → (H a ≠ none → K.lookup a = none) →
      codeAny (model P w) callerA (.call (.ref fa) ⟨[.ref a], []⟩) (fun r s' => r = .ok (.ret (.bool true)) ∧ OldK z.heap s'.heap ∧ s'.os = z.os ∧ AllBare s'.gens) z := by
    intro H only seq hok alone out
    have untracked : ∀ {b : Addr}, b ≠ a → H b = none := fun {b} n => by
      cases q : H b with
      | none => rfl
      | some u => exact (n (alone b (by rw [q]; exact Option.some_ne_none u))).elim
    have keptNs : ∀ {b : Addr} {m : Str → Option Value}, z.heap.Ns b m → (hidT z.heap H).Ns b m := by
      rintro b m ⟨o, es, ep, e, d, r⟩
      refine ⟨o, es, ep, hidT_get e (untracked ?_), d, r⟩
      rintro rfl
      have same := script.symm.trans e
      cases same
      cases d
    have keptK : K.In (hidT z.heap H) := fun b o e => by
      refine hidT_get (inK b o e) ?_
      by_cases hb : b = a
      · subst hb
        cases q : H b with
        | none => rfl
        | some u =>
          have no := out (by rw [q]; exact Option.some_ne_none u)
          rw [e] at no
          cases no
      · exact untracked hb
    have md : Mod K mg (hidT z.heap H) := ⟨keptK, keptNs names, ⟨mb, keptNs blt, boot⟩, let ⟨mc, h1, h2⟩ := noLid; ⟨mc, keptNs h1, h2⟩⟩
    have e0 : Env0 P w K mg (hidT z.heap H) callerA [] z H :=
      ⟨rfl, md, fun _ _ e => of_hidT e, Nat.le_of_eq (hidT_size _ _), trivial, fun _ hb => (List.not_mem_nil hb).elim, hok, .of_eq gens⟩
    refine codeAny_mono ((F _ keptK (keptNs names)).goes (args := ⟨[.ref a], []⟩) (us := [.ref a]) (vs := [.ref a]) room rfl e0 (bound z (.ref a)) (.cons rfl .nil) (want H only seq)) ?_
    intro r s' h
    match r, h with
    | .error _, h => exact h.elim
    | .ok (.ret u), ⟨v, H', os, bare, un, hok', rv, q⟩ =>
      have q' : v = .bl true := q
      subst q'
      have ru : u = Value.bool true := rv
      subst ru
      refine ⟨rfl, OldK.of_keep fun b o e => ?_, os, bare⟩
      cases hb : H b with
      | none => exact un.keep b o e hb List.not_mem_nil List.not_mem_nil
      | some u =>
        rcases only b with z0 | ⟨ob, xs, z0⟩
        · rw [hb] at z0
          cases z0
        · have e1 := (hok b _ z0).1
          have e2 := (hok' b _ (un.frzs b ob _ z0)).1
          rw [e] at e1
          cases e1
          exact e2
  cases hk : K.lookup a with
  | some o =>
    have e := inK a o hk
    rw [script] at e
    cases e
    have sz : vs.toArray.size ≤ sizeLine := by
      rw [List.size_toArray, whole.length]
      exact few
    refine go (fun _ => none) (fun _ => .inl rfl) (.inr ⟨_, vs.toArray, _, hk, rfl, rfl, rfl, sz, by simpa using rel⟩) (fun b u q => nomatch q) (fun b q => (q rfl).elim) fun q => (q rfl).elim
  | none =>
    let H : Hp := fun b => if b = a then some (.frz { cls := .type "list", data := .seq vs.toArray } (.lst (ns.map V.int))) else none
    have at1 : H a = some (.frz { cls := .type "list", data := .seq vs.toArray } (.lst (ns.map V.int))) := if_pos rfl
    have off : ∀ {b : Addr}, b ≠ a → H b = none := fun n => if_neg n
    refine go H (fun b => ?_) (.inl (.inr ⟨_, at1⟩)) (fun b u q => ?_) (fun b q => ?_) fun _ => hk
    · by_cases hb : b = a
      · subst hb
        exact .inr ⟨_, _, at1⟩
      · exact .inl (off hb)
    · by_cases hb : b = a
      · subst hb
        have q2 := at1.symm.trans q
        cases q2
        refine ⟨script, ?_, vs, _, rel, script⟩
        rw [List.length_map]
        exact few
      · have q2 := (off hb).symm.trans q
        cases q2
    · by_cases hb : b = a
      · exact hb
      · exact (q (off hb)).elim
end
/-- the goal that k_head leaves, from such a promise of the law -/
theorem walkG {l : PySem.W.OpenLaw} {n k : Nat} {q : Program} {loose : List Str} {XP : (Str → Option Value) → Heap → Prop} {YP : World → Heap → Prop} {d : DefRec} {K : Params → PySem.W.Frag} {sp : World → Sp} {x : Str}
    (hn : l.most = some n) (hn2 : n ≤ sizeLine) (hdf : d.params.defaults = []) (room : Room k callerA) (hY : ∀ (w : World) (h : Heap), YP w h → (K w.params).In h)
    (F : ∀ (w : World) (mg : Str → Option Value) (fa : Addr) (h : Heap), (K w.params).In h → h.Ns mainGlobals mg → mg d.name = some (.ref fa) →
      ∃ fd : FuncData, (∀ (s : Shared) (u : Value), BindsTo s fd ⟨[u], []⟩ [(x, u)]) ∧ ∀ base : Heap, (K w.params).In base → base.Ns mainGlobals mg → GOk l.prog w (K w.params) mg base k fa fd [x] (sp w))
    (want : ∀ (w : World) (H : Hp) (a : Addr) (ns : List Int), ns.length ≤ n → Only H → SqL (K w.params) H a (ns.map V.int) → sp w [.ref a] H (fun v _ => v = .bl true) fun _ _ _ => False) :
    PySem.W.WalkO q loose XP YP l.row.toRowW d [] (fun f vs => PySem.call f vs) := by
  refine Att.attach_call hn hdf ?_
  intro w s₀ s₁ mg mb fa o pm cd doc a vs ns G Y ho hd hcd hmg hobj hints hlen hg
  have inK := hY w _ Y
  obtain ⟨fd, hb, hF⟩ := F w mg fa _ inK G.T.g hmg
  exact goesLaw inK G.T.g G.T.b G.T.builtins G.T.nolimit hg hobj hints (Nat.le_trans hlen hn2) room hF hb fun H hO hS => want w H a ns hlen hO hS
end Glay

set_option Elab.async false
set_option linter.all false
set_option maxRecDepth 100000
set_option maxHeartbeats 4000000
/-! ### what a def of the text is; calls; readings step by step -/
namespace Lw
open PySem PySem.Spec PyProof.Rows L2 Glay
/-- a def of the top, called by its name -/
structure Df (K : PySem.W.Frag) (mg : Str → Option Value) (x : Str) (st : Stmt) (ps : List Str) (f : Addr) (fd : FuncData) : Prop where
  fn : Fun K x x st f fd
  place : mg x = some (.ref f)
  bs : Binds K fd ps []
section
variable {X : Cx} {k : Nat} {f : Addr} {fd : FuncData} {st : Stmt} {ps : List Str} {sp : Sp} {x : Str} {p pos : Pos} {e : Expr} {es : List Expr} {t : TA}
theorem callF (D : Df X.K X.mg x st ps f fd) (G : FnOk X.prog X.w X.K X.mg X.base CX0 k f fd ps sp) (hr : Room k X.A) (hg : Gl X x) (ha : PA X (e :: es) t)
    (hdb : (x == ("__debug__" : Str)) = false := by decide) (he : starEach (e :: es) X.env = (false, eval e X.env) :: starEach es X.env := by rfl) (hpl : (backTo pos (starEach es X.env)).any (·.1) = false := by rfl) :
    PE X (.Call (.Name x p) (e :: es) [] pos) (tCall sp [] E0 t) := pe_call G hr hg D.place D.fn.kp D.bs .nil pass0 ha hdb he hpl
theorem callG (D : Df X.K X.mg x st ps f fd) (G : GOk X.prog X.w X.K X.mg X.base k f fd ps sp) (hr : Room k X.A) (hq : X.A.guards = some []) (hg : Gl X x) (ha : PA X (e :: es) t)
    (hdb : (x == ("__debug__" : Str)) = false := by decide) (he : starEach (e :: es) X.env = (false, eval e X.env) :: starEach es X.env := by rfl) (hpl : (backTo pos (starEach es X.env)).any (·.1) = false := by rfl) :
    PE X (.Call (.Name x p) (e :: es) [] pos) (tCall sp [] E0 t) := pe_callG G hr hq hg D.place D.fn.kp D.bs .nil ha hdb he hpl
/-- len of a list or a tuple -/
def rLen (K : PySem.W.Frag) : List V → Hp → VK → Prop := fun xs H Q => ∃ p ys, xs = [.ref p] ∧ (SqL K H p ys ∨ SqT K H p ys) ∧ Q (.int ys.length) H
theorem len_seq : CallR X (.builtin "len") (rLen X.K) := call_len_seq
def rListOf (K : PySem.W.Frag) : List V → Hp → VK → Prop := fun xs H Q => ∃ p ys, xs = [.ref p] ∧ (SqL K H p ys ∨ SqT K H p ys) ∧ ∀ l, H l = none → Q (.ref l) (upd H l (.lst ys))
theorem list_of : CallR X (.type "list") (rListOf X.K) := call_list_of
def rTupOf (K : PySem.W.Frag) : List V → Hp → VK → Prop := fun xs H Q => ∃ p ys, xs = [.ref p] ∧ ((SqL K H p ys ∧ ∀ l, H l = none → Q (.ref l) (upd H l (.tup ys))) ∨ (SqT K H p ys ∧ Q (.ref p) H))
theorem tuple_of : CallR X (.type "tuple") (rTupOf X.K) := call_tuple_of
def rInt1 : List V → Hp → VK → Prop := fun xs H Q => (∃ i, xs = [.int i] ∧ Q (.int i) H) ∨ ∃ k, xs = [.bl k] ∧ Q (.int (if k then 1 else 0)) H
theorem int_1 : CallR X (.type "int") rInt1 := call_int1
def rAbs : List V → Hp → VK → Prop := fun xs H Q => ∃ i, xs = [.int i] ∧ Q (.int (if i < 0 then -i else i)) H
theorem abs_1 : CallR X (.builtin "abs") rAbs := call_abs
/-- powers of great numbers -/
def CPowW (i j : Int) : Prop := 0 ≤ j ∧ (Builtin.Int.intBits i : Int) * j ≤ 2 ^ 27
theorem op_powW : OpR X (binaryOp .Pow) (rI CPowW fun i j => .int (i ^ j.toNat)) := opI fun _ _ _ _ _ _ _ hc q => pow_int hc.1 hc.2 q
/-- a number and all ones of so many bits -/
def rAndM : R2 := fun x y H Q => ∃ (i : Int) (k : Nat), x = .int i ∧ y = .int (2 ^ k - 1) ∧ Q (.int (i % 2 ^ k)) H
theorem op_andM' : OpR X (binaryOp .BitAnd) rAndM := op_andM
/-- repr of a number -/
def rRepI : List V → Hp → VK → Prop := fun xs H Q => ∃ i : Int, xs = [.int i] ∧ i.natAbs.log2 < 1920 ∧ Q (.str (toString i)) H
/-- numbers below a power of two -/
def Bd (B : Nat) (n : Int) : Prop := n.natAbs < 2 ^ B
theorem Bd.mono {A B : Nat} {n : Int} (h : Bd A n) (l : A ≤ B) : Bd B n := Nat.lt_of_lt_of_le h (Nat.pow_le_pow_right (by decide) l)
theorem Bd.add {B : Nat} {i j : Int} (h : Bd B i) (h' : Bd B j) : Bd (B + 1) (i + j) := by
  unfold Bd at *
  rw [Nat.pow_succ]
  omega
theorem Bd.sub {B : Nat} {i j : Int} (h : Bd B i) (h' : Bd B j) : Bd (B + 1) (i - j) := by
  unfold Bd at *
  rw [Nat.pow_succ]
  omega
theorem Bd.neg {B : Nat} {i : Int} (h : Bd B i) : Bd B (-i) := by
  unfold Bd at *
  omega
theorem Bd.mul {A B : Nat} {i j : Int} (h : Bd A i) (h' : Bd B j) : Bd (A + B) (i * j) := wide_lt h h'
theorem Bd.of {B : Nat} {i : Int} (h0 : 0 ≤ i) (h : i < 2 ^ B) : Bd B i := by
  unfold Bd
  have : ((i.natAbs : Nat) : Int) = i := Int.natAbs_of_nonneg h0
  have q : ((i.natAbs : Nat) : Int) < ((2 ^ B : Nat) : Int) := by
    rw [this, Int.natCast_pow]
    exact h
  exact Int.ofNat_lt.mp q
theorem Bd.le {B : Nat} {i j : Int} (h : Bd B j) (h0 : 0 ≤ i) (h1 : i ≤ j) : Bd B i := wide_le h0 h1 h
theorem Bd.mulOk {A B : Nat} {i j : Int} (h : Bd A i) (h' : Bd B j) (l : 0 < A ∧ 0 < B ∧ A + B ≤ 1000000) : CMulW i j := wide_mul h h' l.1 l.2.1 l.2.2
theorem roomU {k : Nat} {A : Around} (r : Room k A) : A.units + 100 < cLine := by have := r.un; omega
end
/-- a new object at p -/
structure New (H : Hp) (p : Addr) (o : HO) (H' : Hp) : Prop where
  free : H p = none
  here : H' p = some o
  same : Same H H'
theorem same_upd {H : Hp} {p : Addr} {o : HO} (h : H p = none) : Same H (upd H p o) := fun b x e => by
  rw [upd_ne (ne_of_none e h)]
  exact e
theorem New.of {H : Hp} {p : Addr} {o : HO} (h : H p = none) : New H p o (upd H p o) := ⟨h, upd_same, same_upd h⟩
def kLst (Q : VK) : List V → Hp → Prop := fun xs H => xs.length ≤ sizeLine ∧ ∀ p, H p = none → Q (.ref p) (upd H p (.lst xs))
def kPar (i j : Nat) (D : Ends) (σ : L2.St) : List V → Hp → Prop := fun vs H => ∃ v w, vs = [v, w] ∧ D.nx ((σ.set i (some v)).set j (some w)) H
def kFor (g : TG) (tb : TS) (D : Ends) (σ0 : L2.St) (J : It) (H1 : Hp) : Prop := ∃ W : Nat → Nat → L2.St → Hp → Prop, (∃ m, W 0 m σ0 H1) ∧ ∀ i m σ H, W i m σ H →
  (J.stop i H ∧ D.nx σ H) ∨ (J.go i H ∧ ∃ N : L2.St → Hp → Prop, (∀ σ' H', N σ' H' → ∃ m', m' < m ∧ W (i + 1) m' σ' H') ∧ ∀ x H', J.yld i H x H' → g x σ H' fun σ2 H2 => tb { D with nx := N, ct := N, bk := D.nx } σ2 H2)
def kItl (K : PySem.W.Frag) (R : It → Hp → Prop) : VK := fun x H => ∃ a, x = .ref a ∧ (∃ xs, SqL K H a xs) ∧ R (Itl K a) H
def kItr (R : It → Hp → Prop) : List V → Hp → Prop := fun vs H => ∃ j : Int, vs = [.int j] ∧ -(2 ^ 62) ≤ j ∧ j < 2 ^ 62 ∧ R (Itr 0 j.toNat) H
def kTupl (Q : VK) : List V → Hp → Prop := fun xs H => xs.length ≤ sizeLine ∧ ∀ p, H p = none → Q (.ref p) (upd H p (.tup xs))
section
variable {σ : L2.St} {H : Hp} {Q : VK} {v x y : V} {i j : Int} {n : Nat} {ta tb te : TE} {D : Ends} {r : R2} {P : Bool → Prop}
theorem rd_var (h : σ[n]? = some (some v)) (q : Q v H) : tVar n σ H Q := ⟨v, h, q⟩
theorem rd_c (q : Q v H) : tC v σ H Q := q
theorem rd_op (q : ta σ H fun x H1 => tb σ H1 fun y H2 => r x y H2 Q) : tOp r ta tb σ H Q := q
theorem rd_un {r : V → Hp → VK → Prop} (q : ta σ H fun x H1 => r x H1 Q) : tUn r ta σ H Q := q
theorem rd_U {g : Int → Int} (q : Q (.int (g i)) H) : rU (fun i => .int (g i)) (.int i) H Q := ⟨i, rfl, q⟩
theorem rd_I0 {g : Int → Int → V} (q : Q (g i j) H) : rI0 g (.int i) (.int j) H Q := ⟨i, j, rfl, rfl, q⟩
theorem rd_I {C : Int → Int → Prop} {g : Int → Int → V} (c : C i j) (q : Q (g i j) H) : rI C g (.int i) (.int j) H Q := ⟨i, j, rfl, rfl, c, q⟩
theorem rd_call {sp : Sp} {dvs : List V} {E : XK} {t : TA} (q : t σ H fun vs H1 => sp (vs ++ dvs) H1 Q E) : tCall sp dvs E t σ H Q := q
theorem rd_cb {c : List V → Hp → VK → Prop} {t : TA} (q : t σ H fun vs H1 => c vs H1 Q) : tCB c t σ H Q := q
theorem rd_nil {Q : List V → Hp → Prop} (q : Q [] H) : tNil σ H Q := q
theorem rd_cons {tr : TA} {Q : List V → Hp → Prop} (q : ta σ H fun x H1 => tr σ H1 fun xs H2 => Q (x :: xs) H2) : tCons ta tr σ H Q := q
theorem rd_seq {t u : TS} (q : t { D with nx := u D } σ H) : tSeq t u D σ H := q
theorem rd_next (q : D.nx σ H) : tNext D σ H := q
theorem rd_asg {g : TG} (q : te σ H fun x H1 => g x σ H1 D.nx) : tAsg te g D σ H := q
theorem rd_par {i j : Nat} {t : TA} (q : t σ H (kPar i j D σ)) : tPar i j t D σ H := q
theorem rd_par2 {i j : Nat} (q : D.nx ((σ.set i (some v)).set j (some x)) H) : kPar i j D σ [v, x] H := ⟨v, x, rfl, q⟩
theorem rd_name {Q : L2.St → Hp → Prop} (q : Q (σ.set n (some v)) H) : gName n v σ H Q := q
theorem rd_ret (q : te σ H D.rt) : tRet te D σ H := q
theorem rd_ifs {c : TT} {t u : TS} (q : c σ H fun b H1 => if b = true then t D σ H1 else u D σ H1) : tIfS c t u D σ H := q
theorem rd_if {c : TT} (q : c σ H fun b H1 => if b = true then ta σ H1 Q else tb σ H1 Q) : tIf c ta tb σ H Q := q
theorem rd_test {Q : Bool → Hp → Prop} (q : te σ H fun x H1 => ∃ k, x = .bl k ∧ Q k H1) : tTest te σ H Q := q
theorem rd_B {Q : Bool → Hp → Prop} (q : te σ H fun x H1 => ∃ k, x = .bl k ∧ Q k H1) : tB te σ H Q := q
theorem rd_not {c : TT} {Q : Bool → Hp → Prop} (q : c σ H fun b H1 => Q (!b) H1) : tNot c σ H Q := q
theorem rd_and {c d : TT} {Q : Bool → Hp → Prop} (q : c σ H fun b H1 => if b = true then d σ H1 Q else Q false H1) : tAnd c d σ H Q := q
theorem rd_or {c d : TT} {Q : Bool → Hp → Prop} (q : c σ H fun b H1 => if b = true then Q true H1 else d σ H1 Q) : tOr c d σ H Q := q
theorem rd_andV (q : ta σ H fun x H1 => ∃ c, x = .bl c ∧ if c = true then tb σ H1 Q else Q (.bl false) H1) : tAndV ta tb σ H Q := q
theorem rd_orV (q : ta σ H fun x H1 => ∃ c, x = .bl c ∧ if c = true then Q (.bl true) H1 else tb σ H1 Q) : tOrV ta tb σ H Q := q
theorem rd_notV (q : ta σ H fun x H1 => ∃ c, x = .bl c ∧ Q (.bl (!c)) H1) : tNotV ta σ H Q := q
theorem rd_chain {r' : R2} {tc : TE} (q : ta σ H fun x H1 => tb σ H1 fun y H2 => r x y H2 fun z H3 => ∃ k, z = .bl k ∧ (if k = true then tc σ H3 fun w' H4 => r' y w' H4 Q else Q (.bl false) H3)) : tChain r r' ta tb tc σ H Q := q
theorem rd_k {b : Bool} (q : P b) : ∃ k, V.bl b = .bl k ∧ P k := ⟨b, rfl, q⟩
theorem rd_eq (s : scal x y = true) (q : Q (.bl (decide (x = y))) H) : rEq x y H Q := ⟨s, q⟩
theorem rd_ne (s : scal x y = true) (q : Q (.bl (!decide (x = y))) H) : rNe x y H Q := ⟨s, q⟩
theorem rd_dec {c A B : Prop} [Decidable c] (h1 : c → A) (h2 : ¬ c → B) : if decide c = true then A else B := by
  by_cases h : c
  · rw [decide_eq_true h, if_pos rfl]
    exact h1 h
  · rw [decide_eq_false h, if_neg (by decide)]
    exact h2 h
theorem rd_yes {c A B : Prop} [Decidable c] (h : c) (q : A) : if decide c = true then A else B := rd_dec (fun _ => q) fun n => (n h).elim
theorem rd_no {c A B : Prop} [Decidable c] (h : ¬ c) (q : B) : if decide c = true then A else B := rd_dec (fun y => (h y).elim) fun _ => q
theorem rd_yesN {c A B : Prop} [Decidable c] (h : ¬ c) (q : A) : if (!decide c) = true then A else B := by
  rw [decide_eq_false h]
  exact q
theorem rd_noN {c A B : Prop} [Decidable c] (h : c) (q : B) : if (!decide c) = true then A else B := by
  rw [decide_eq_true h]
  exact q
theorem rd_nt {A B : Prop} (q : B) : if (!true) = true then A else B := q
theorem rd_nf {A B : Prop} (q : A) : if (!false) = true then A else B := q
theorem rd_t {A B : Prop} (q : A) : if true = true then A else B := q
theorem rd_f {A B : Prop} (q : B) : if false = true then A else B := by
  rw [if_neg (by decide)]
  exact q
theorem rd_lst {t : TA} (q : t σ H (kLst Q)) : tLst t σ H Q := q
theorem rd_unl {K : PySem.W.Frag} {g : TGs} {a : Addr} {xs : List V} {Q : L2.St → Hp → Prop} (h : SqL K H a xs) (e : xs.length = n) (q : g xs σ H Q) : gUnl K n g (.ref a) σ H Q := ⟨a, xs, rfl, h, e, q⟩
theorem rd_andM {k : Nat} (e : j = 2 ^ k - 1) (q : Q (.int (i % 2 ^ k)) H) : rAndM (.int i) (.int j) H Q := ⟨i, k, rfl, by rw [e], q⟩
theorem rd_gcons {g : TG} {u : TGs} {xs : List V} {Q : L2.St → Hp → Prop} (q : g v σ H fun σ' H' => u xs σ' H' Q) : gCons g u (v :: xs) σ H Q := ⟨v, xs, rfl, q⟩
theorem rd_gnil {Q : L2.St → Hp → Prop} (q : Q σ H) : gNil [] σ H Q := ⟨rfl, q⟩
theorem rd_sub {t : TSet} {Q : L2.St → Hp → Prop} (q : ta σ H fun o H1 => tb σ H1 fun i H2 => t o i v H2 fun H3 => Q σ H3) : gSub ta tb t v σ H Q := q
theorem rd_set {p : Addr} {xs : List V} {m : Nat} {Q : Hp → Prop} (h : H p = some (.lst xs)) (e : ixN xs.length i = some m) (q : Q (upd H p (.lst (xs.set m v)))) : rSetL (.ref p) (.int i) v H Q := ⟨p, xs, i, m, rfl, rfl, h, e, q⟩
theorem rd_ixL {K : PySem.W.Frag} {p : Addr} {xs : List V} (h : SqL K H p xs) (e : atI xs i = some v) (q : Q v H) : rIxL K (.ref p) (.int i) H Q := ⟨p, xs, i, v, rfl, rfl, h, e, q⟩
theorem rd_len {K : PySem.W.Frag} {p : Addr} {xs : List V} (h : SqL K H p xs) (q : Q (.int (xs.length : Int)) H) : rLen K [.ref p] H Q := ⟨p, xs, rfl, .inl h, q⟩
theorem ix_in {m : Nat} (h0 : 0 ≤ i) (h1 : i < m) : ixN m i = some i.toNat := by
  unfold ixN
  rw [if_pos h0, if_pos h1]
theorem at_ints {ns : List Int} (h0 : 0 ≤ i) (h1 : i < ns.length) : ∃ z, ns[i.toNat]? = some z ∧ z ∈ ns ∧ atI (ns.map V.int) i = some (.int z) := by
  have hj : i.toNat < ns.length := by omega
  refine ⟨ns[i.toNat], List.getElem?_eq_getElem hj, List.getElem_mem hj, ?_⟩
  unfold atI
  rw [List.length_map, ix_in h0 h1]
  show (ns.map V.int)[i.toNat]? = _
  rw [List.getElem?_map, List.getElem?_eq_getElem hj]
  rfl
theorem rd_listL {K : PySem.W.Frag} {p : Addr} {xs : List V} (h : SqL K H p xs) (q : ∀ l H', New H l (.lst xs) H' → Q (.ref l) H') : rListOf K [.ref p] H Q := ⟨p, xs, rfl, .inl h, fun l n => q l _ (.of n)⟩
theorem rd_tupL {K : PySem.W.Frag} {p : Addr} {xs : List V} (h : SqL K H p xs) (q : ∀ l H', New H l (.tup xs) H' → Q (.ref l) H') : rTupOf K [.ref p] H Q := ⟨p, xs, rfl, .inl ⟨h, fun l n => q l _ (.of n)⟩⟩
theorem rd_intI (q : Q (.int i) H) : rInt1 [.int i] H Q := .inl ⟨i, rfl, q⟩
theorem rd_intB {b : Bool} (q : Q (.int (if b then 1 else 0)) H) : rInt1 [.bl b] H Q := .inr ⟨b, rfl, q⟩
theorem rd_abs (q : Q (.int (if i < 0 then -i else i)) H) : rAbs [.int i] H Q := ⟨i, rfl, q⟩
theorem rd_sl {c : V → Option Int → Option Int → Hp → VK → Prop} {tl th : TO} (q : te σ H fun x H1 => tl σ H1 fun l H2 => th σ H2 fun u H3 => c x l u H3 Q) : tSl c te tl th σ H Q := q
theorem rd_nopart {Q : Option Int → Hp → Prop} (q : Q none H) : tNoPart σ H Q := q
theorem rd_part {Q : Option Int → Hp → Prop} (q : te σ H fun x H1 => ∃ i, x = .int i ∧ Q (some i) H1) : tPart te σ H Q := q
theorem rd_pi {P : Int → Prop} (q : P i) : ∃ j, V.int i = .int j ∧ P j := ⟨i, rfl, q⟩
theorem rd_slL {K : PySem.W.Frag} {a : Addr} {xs : List V} {lo hi : Option Int} (h : SqL K H a xs) (q : ∀ p H', New H p (.lst (cutV xs lo hi)) H' → Q (.ref p) H') : rSlL K (.ref a) lo hi H Q := ⟨a, xs, rfl, h, fun p n => q p _ (.of n)⟩
theorem rd_cat {a b : Addr} {xs zs : List V} (h1 : H a = some (.lst xs)) (h2 : H b = some (.lst zs)) (s : xs.length + zs.length ≤ 1000) (q : ∀ p H', New H p (.lst (xs ++ zs)) H' → Q (.ref p) H') : rCat (.ref a) (.ref b) H Q :=
  ⟨a, b, xs, zs, rfl, rfl, h1, h2, Nat.le_of_lt (small1000 s), fun p n => q p _ (.of n)⟩
theorem rd_rep {a : Addr} {xs : List V} (h1 : H a = some (.lst xs)) (h0 : 0 ≤ i) (hi : i ≤ 1000) (s : xs.length * i.toNat ≤ 1000) (q : ∀ p H', New H p (.lst (List.replicate i.toNat xs).flatten) H' → Q (.ref p) H') : rRep (.ref a) (.int i) H Q :=
  ⟨a, i, xs, rfl, rfl, h1, by omega, by omega, Nat.le_of_lt (small1000 s), fun p n => q p _ (.of n)⟩
theorem rd_new {xs : List V} (s : xs.length ≤ 1000) (q : ∀ p H', New H p (.lst xs) H' → Q (.ref p) H') : kLst Q xs H := ⟨Nat.le_of_lt (small1000 s), fun p n => q p _ (.of n)⟩
theorem rd_newT {xs : List V} (s : xs.length ≤ 1000) (q : ∀ p H', New H p (.tup xs) H' → Q (.ref p) H') : kTupl Q xs H := ⟨Nat.le_of_lt (small1000 s), fun p n => q p _ (.of n)⟩
theorem rd_tup {t : TA} (q : t σ H (kTupl Q)) : tTup t σ H Q := q
theorem rd_for {wi : TI} {g : TG} {tb : TS} (q : wi σ H (kFor g tb D σ)) : tFor wi g tb D σ H := q
theorem rd_ilist {K : PySem.W.Frag} {R : It → Hp → Prop} (q : ta σ H (kItl K R)) : iList K ta σ H R := q
theorem rd_irng {t : TA} {R : It → Hp → Prop} (q : t σ H (kItr R)) : iRng1 t σ H R := q
theorem rd_forL {K : PySem.W.Frag} {a : Addr} {xs : List V} {g : TG} {tb : TS} (hs : SqL K H a xs) (Pv : Nat → L2.St → Hp → Prop) (h0 : Pv 0 σ H) (hl : ∀ i σ H, i ≤ xs.length → Pv i σ H → SqL K H a xs)
    (turn : ∀ i x σ H, xs[i]? = some x → Pv i σ H → g x σ H fun σ2 H2 => tb { D with nx := Pv (i + 1), ct := Pv (i + 1), bk := D.nx } σ2 H2) (hd : ∀ σ H, Pv xs.length σ H → D.nx σ H) :
    kItl K (kFor g tb D σ) (.ref a) H := ⟨a, rfl, ⟨xs, hs⟩, for_list (K := K) (a := a) (xs := xs) Pv h0 hl turn hd⟩
theorem rd_forR {m : Nat} {g : TG} {tb : TS} (hm : m ≤ 1000000) (Pv : Nat → L2.St → Hp → Prop) (h0 : Pv 0 σ H)
    (turn : ∀ i σ H, i < m → Pv i σ H → g (.int (0 + (i : Int))) σ H fun σ2 H2 => tb { D with nx := Pv (i + 1), ct := Pv (i + 1), bk := D.nx } σ2 H2) (hd : ∀ σ H, Pv m σ H → D.nx σ H) :
    kItr (kFor g tb D σ) [.int (m : Int)] H := ⟨(m : Int), rfl, by omega, by omega, by
      rw [Int.toNat_natCast]
      exact for_range (lo := 0) (n := m) Pv h0 turn hd⟩
/-- [e for x in xs], xs a local, what is made of each item told by f -/
theorem rd_lcF {α : Type} {K : PySem.W.Frag} {emb f : α → V} {zs : List α} {a : Addr} {g : TG} {vs : List Nat} (hv : σ[n]? = some (some (.ref a))) (hs : SqL K H a (zs.map emb)) (hz : zs.length ≤ 1000)
    (turn : ∀ (z : α) (H1 : Hp) (R : VK), z ∈ zs → Same H H1 → (∀ H3, Same H1 H3 → R (f z) H3) → g (emb z) (wipe σ vs) H1 fun σ2 H2 => wipe σ2 vs = wipe σ vs ∧ te σ2 H2 R)
    (q : ∀ D H', New H D (.lst (zs.map f)) H' → Q (.ref D) H') : tLc (iList K (tVar n)) g tYes te vs σ H Q := by
  refine ⟨.ref a, hv, a, rfl, ⟨_, hs⟩, fun D nD => ?_⟩
  have lz : (zs.map emb).length = zs.length := List.length_map ..
  refine lc_list (K := K) (a := a) (xs := zs.map emb) (fun i H1 => H1 D = some (.lst ((zs.take i).map f)) ∧ Same H H1) ⟨upd_same, same_upd nD⟩ (fun i H1 _ h => h.2.seq hs) (fun i x H1 hx h => ?_) (fun H1 h => ?_)
  · obtain ⟨hD, sm⟩ := h
    rw [List.getElem?_map] at hx
    cases hz2 : zs[i]? with
    | none =>
      rw [hz2] at hx
      cases hx
    | some z =>
      rw [hz2] at hx
      cases hx
      have hi : i < zs.length := (List.getElem?_eq_some_iff.mp hz2).1
      refine turn z H1 _ (List.mem_of_getElem? hz2) sm fun H3 s3 => ?_
      refine ⟨_, s3 _ _ hD, ?_, ?_, ?_⟩
      · rw [List.length_map, List.length_take]
        exact small1000 (by omega)
      · rw [upd_same, List.take_add_one, hz2, List.map_append]
        rfl
      · intro b o hb
        rw [upd_ne (ne_of_none hb nD)]
        exact s3 _ _ (sm _ _ hb)
  · obtain ⟨hD, sm⟩ := h
    rw [lz, List.take_length] at hD
    exact q D H1 ⟨nD, hD, sm⟩
/-- [e for x in range(m)], where what is made keeps an invariant of the caller's -/
theorem rd_lcR {ta : TA} {m : Nat} {g : TG} {vs : List Nat} (I : Nat → Hp → Prop) (S : V → Prop) (hm : m ≤ 1000)
    (hr : ∀ R : List V → Hp → Prop, R [.int (m : Int)] H → ta σ H R)
    (start : ∀ D H1, New H D (.lst []) H1 → I 0 H1) (keep : ∀ D i H1 xs, H D = none → I i H1 → H1 D ≠ none → I i (upd H1 D (.lst xs)))
    (turn : ∀ (D : Addr) (i : Nat) (H1 : Hp) (ys : List V) (R : VK), H D = none → i < m → I i H1 → H1 D = some (.lst ys) → (∀ y H3, S y → I (i + 1) H3 → H3 D = some (.lst ys) → R y H3) →
      g (.int (0 + (i : Int))) (wipe σ vs) H1 fun σ2 H2 => wipe σ2 vs = wipe σ vs ∧ te σ2 H2 R)
    (q : ∀ D H' ys, H D = none → H' D = some (.lst ys) → ys.length = m → (∀ y ∈ ys, S y) → I m H' → Q (.ref D) H') : tLc (iRng1 ta) g tYes te vs σ H Q := by
  refine hr _ ⟨(m : Int), rfl, by omega, by omega, fun D nD => ?_⟩
  rw [Int.toNat_natCast]
  refine lc_range (lo := 0) (n := m) (fun i H1 => I i H1 ∧ ∃ ys, H1 D = some (.lst ys) ∧ ys.length = i ∧ ∀ y ∈ ys, S y) ⟨start D _ (.of nD), [], upd_same, rfl, fun y h => nomatch h⟩ (fun i H1 hi h => ?_) (fun H1 h => ?_)
  · obtain ⟨hI, ys, hD, hl, hS⟩ := h
    refine turn D i H1 ys _ nD hi hI hD fun y H3 sy i3 d3 => ?_
    refine ⟨ys, d3, small1000 (by omega), keep D (i + 1) H3 _ nD i3 (by rw [d3]; exact Option.some_ne_none _), ys ++ [y], upd_same, ?_, ?_⟩
    · rw [List.length_append, hl]
      rfl
    · intro z hz
      rcases List.mem_append.mp hz with h | h
      · exact hS z h
      · rw [List.mem_singleton.mp h]
        exact sy
  · obtain ⟨hI, ys, hD, hl, hS⟩ := h
    exact q D H1 ys nD hD hl hS hI
end
/-- what is asked of the numbers by the way -/
local macro_rules | `(tactic| walk_at "side") => `(tactic| first
  | rfl
  | decide
  | assumption
  | omega
  | (unfold CMul; omega)
  | (unfold CPowW; exact ⟨by decide, by decide +kernel⟩)
  | exact wide_mul (a := 1400) (b := 1400) (by decide +kernel) (by decide +kernel) (by decide) (by decide) (by decide)
  | exact wide_div (b := 64) (by decide) (by decide) (by decide) (by decide)
  | (unfold CMul; exact Or.inr ⟨by decide, by decide⟩)
  | (unfold CMul; exact Or.inl ⟨by decide, by decide⟩)
  | (unfold CPow; omega)
  | (unfold CPow; refine ⟨by omega, by omega, ?_⟩; omega))
local macro_rules | `(tactic| walk_at "one") => `(tactic| with_reducible first
  | (refine' rd_var ?rdh ?_; (case rdh => with_unfolding_all exact rfl))
  | refine rd_c ?_
  | refine rd_op ?_
  | refine rd_un ?_
  | refine rd_I0 ?_
  | refine rd_I (by walk_at "side") ?_
  | refine rd_U ?_
  | refine rd_seq ?_
  | refine rd_next ?_
  | refine rd_asg ?_
  | refine rd_name ?_
  | refine rd_par ?_
  | refine rd_par2 ?_
  | refine rd_ret ?_
  | refine rd_ifs ?_
  | refine rd_if ?_
  | refine rd_test ?_
  | refine rd_B ?_
  | refine rd_not ?_
  | refine rd_and ?_
  | refine rd_or ?_
  | refine rd_andV ?_
  | refine rd_orV ?_
  | refine rd_notV ?_
  | refine rd_chain ?_
  | refine rd_k ?_
  | refine rd_eq (by with_unfolding_all rfl) ?_
  | refine rd_ne (by with_unfolding_all rfl) ?_
  | refine rd_call ?_
  | refine rd_cb ?_
  | refine rd_nil ?_
  | refine rd_cons ?_
  | refine rd_lst ?_
  | refine rd_gcons ?_
  | refine rd_gnil ?_
  | refine rd_sub ?_
  | (refine' rd_ixL (SqL.of (by assumption)) ?rde ?_; (case rde => with_unfolding_all exact rfl))
  | refine rd_intI ?_
  | refine rd_intB ?_
  | refine rd_abs ?_
  | refine rd_sl ?_
  | refine rd_nopart ?_
  | refine rd_part ?_
  | refine rd_pi ?_
  | refine rd_nt ?_
  | refine rd_nf ?_
  | refine rd_t ?_
  | refine rd_f ?_
  | refine rd_for ?_
  | refine rd_ilist ?_
  | refine rd_irng ?_
  | refine rd_tup ?_)
local macro_rules | `(tactic| walk_at "rd") => `(tactic| repeat walk_at "one")
def topS (i : Nat) : Stmt := PySem.Challenge.pw_wordsalike_k07_words_and_signed_values.main.body.getD i (.Pass ⟨0, 0, 0, 0⟩)
abbrev s_greatest_word : Stmt := topS 1
abbrev n_greatest_word : List Str := ["width"]
theorem sc_greatest_word : FnScope n_greatest_word ["width"] (defScope s_greatest_word) :=
  ⟨rfl, rfl, rfl, by decide +kernel, rfl, by decide +kernel, by decide +kernel⟩
abbrev s_to_word : Stmt := topS 2
abbrev n_to_word : List Str := ["number", "width"]
theorem sc_to_word : FnScope n_to_word ["number", "width"] (defScope s_to_word) :=
  ⟨rfl, rfl, rfl, by decide +kernel, rfl, by decide +kernel, by decide +kernel⟩
abbrev s_signed_value : Stmt := topS 3
abbrev n_signed_value : List Str := ["word", "width"]
theorem sc_signed_value : FnScope n_signed_value ["word", "width"] (defScope s_signed_value) :=
  ⟨rfl, rfl, rfl, by decide +kernel, rfl, by decide +kernel, by decide +kernel⟩
abbrev s__law_draws : Stmt := topS 5
abbrev n__law_draws : List Str := ["_law_script", "_law_cells", "_law_cell"]
theorem sc__law_draws : FnScope n__law_draws ["_law_script"] (defScope s__law_draws) :=
  ⟨rfl, rfl, rfl, by decide +kernel, rfl, by decide +kernel, by decide +kernel⟩
abbrev s__law_next : Stmt := topS 6
abbrev n__law_next : List Str := ["_law_drawn", "_law_many", "_law_cells", "_law_turn", "_law_rests", "_law_spot", "_law_digit", "_law_mixed", "_law_again"]
theorem sc__law_next : FnScope n__law_next ["_law_drawn", "_law_many"] (defScope s__law_next) :=
  ⟨rfl, rfl, rfl, by decide +kernel, rfl, by decide +kernel, by decide +kernel⟩
abbrev s__law_one : Stmt := topS 7
abbrev n__law_one : List Str := ["_law_drawn", "_law_items"]
theorem sc__law_one : FnScope n__law_one ["_law_drawn", "_law_items"] (defScope s__law_one) :=
  ⟨rfl, rfl, rfl, by decide +kernel, rfl, by decide +kernel, by decide +kernel⟩
abbrev s__law_width : Stmt := topS 8
abbrev n__law_width : List Str := ["_law_drawn"]
theorem sc__law_width : FnScope n__law_width ["_law_drawn"] (defScope s__law_width) :=
  ⟨rfl, rfl, rfl, by decide +kernel, rfl, by decide +kernel, by decide +kernel⟩
abbrev s__law_word : Stmt := topS 9
abbrev n__law_word : List Str := ["_law_drawn", "_law_width_here", "_law_top", "_law_free", "_law_some"]
theorem sc__law_word : FnScope n__law_word ["_law_drawn", "_law_width_here"] (defScope s__law_word) :=
  ⟨rfl, rfl, rfl, by decide +kernel, rfl, by decide +kernel, by decide +kernel⟩
abbrev s__law_integer : Stmt := topS 10
abbrev n__law_integer : List Str := ["_law_drawn", "_law_width_here", "_law_many", "_law_great", "_law_near", "_law_some"]
theorem sc__law_integer : FnScope n__law_integer ["_law_drawn", "_law_width_here"] (defScope s__law_integer) :=
  ⟨rfl, rfl, rfl, by decide +kernel, rfl, by decide +kernel, by decide +kernel⟩
abbrev s__law_word_due : Stmt := topS 11
abbrev n__law_word_due : List Str := ["_law_number", "_law_width_here", "_law_many"]
theorem sc__law_word_due : FnScope n__law_word_due ["_law_number", "_law_width_here"] (defScope s__law_word_due) :=
  ⟨rfl, rfl, rfl, by decide +kernel, rfl, by decide +kernel, by decide +kernel⟩
abbrev s__law_words_right : Stmt := topS 12
abbrev n__law_words_right : List Str := ["_law_one_here", "_law_other", "_law_width_here", "_law_found", "_law_far", "_law_due"]
theorem sc__law_words_right : FnScope n__law_words_right ["_law_one_here", "_law_other", "_law_width_here"] (defScope s__law_words_right) :=
  ⟨rfl, rfl, rfl, by decide +kernel, rfl, by decide +kernel, by decide +kernel⟩
abbrev s__law_signed_right : Stmt := topS 13
abbrev n__law_signed_right : List Str := ["_law_word_here", "_law_width_here", "_law_half", "_law_found", "_law_due"]
theorem sc__law_signed_right : FnScope n__law_signed_right ["_law_word_here", "_law_width_here"] (defScope s__law_signed_right) :=
  ⟨rfl, rfl, rfl, by decide +kernel, rfl, by decide +kernel, by decide +kernel⟩
abbrev s_law : Stmt := topS 14
abbrev n_law : List Str := ["_law_script", "_law_drawn", "_law_width_here", "_law_turn", "_law_half", "_law_top", "_law_word_here"]
theorem sc_law : FnScope n_law ["_law_script"] (defScope s_law) :=
  ⟨rfl, rfl, rfl, by decide +kernel, rfl, by decide +kernel, by decide +kernel⟩
structure Top (mg : Str → Option Value) : Prop where
  z_abs : mg "abs" = none
  z_int : mg "int" = none
  z_len : mg "len" = none
  z_list : mg "list" = none
  z_range : mg "range" = none
  z_repr : mg "repr" = none
/-! ### the drawn numbers -/
/-- the state of the draws: the list at d, the rests at r, so many draws -/
def Dr (H : Hp) (d r c : Addr) (t : Int) : Prop := ∃ (cells rests : List Int), d ≠ r ∧ c ≠ d ∧ c ≠ r ∧ H d = some (.lst [.ref c, .int t, .ref r]) ∧ H c = some (.lst (cells.map V.int)) ∧
  H r = some (.lst (rests.map V.int)) ∧ rests.length = cells.length ∧ 0 < cells.length ∧ cells.length ≤ 63 ∧ 0 ≤ t
/-- all but the two lists is as it was -/
def Fr (d r : Addr) (H H' : Hp) : Prop := ∀ b o, b ≠ d → b ≠ r → H b = some o → H' b = some o
theorem Fr.refl {d r : Addr} {H : Hp} : Fr d r H H := fun _ _ _ _ h => h
theorem Fr.trans {d r : Addr} {H H1 H2 : Hp} (a : Fr d r H H1) (b : Fr d r H1 H2) : Fr d r H H2 := fun x o n m h => b x o n m (a x o n m h)
theorem Fr.of {d r : Addr} {H H' : Hp} (a : Same H H') : Fr d r H H' := fun x o _ _ h => a x o h
theorem Dr.same {H H' : Hp} {d r c : Addr} {t : Int} (D : Dr H d r c t) (s : Same H H') : Dr H' d r c t := by
  obtain ⟨cells, rests, h1, h2, h3, h4, h5, h6, h⟩ := D
  exact ⟨cells, rests, h1, h2, h3, s _ _ h4, s _ _ h5, s _ _ h6, h⟩
theorem Dr.off {H : Hp} {d r c p : Addr} {t : Int} (D : Dr H d r c t) (n : H p = none) : p ≠ d ∧ p ≠ r := by
  obtain ⟨cells, rests, h1, h2, h3, h4, h5, h6, h⟩ := D
  exact ⟨fun e => (ne_of_none h4 n) e.symm, fun e => (ne_of_none h6 n) e.symm⟩
theorem Dr.offc {H : Hp} {d r c p : Addr} {t : Int} (D : Dr H d r c t) (n : H p = none) : p ≠ c := by
  obtain ⟨cells, rests, h1, h2, h3, h4, h5, h6, h⟩ := D
  exact fun e => (ne_of_none h5 n) e.symm
theorem Dr.upd {H : Hp} {d r c p : Addr} {t : Int} {o : HO} (D : Dr H d r c t) (n1 : p ≠ d) (n2 : p ≠ r) (n3 : p ≠ c) : Dr (upd H p o) d r c t := by
  obtain ⟨cells, rests, h1, h2, h3, h4, h5, h6, h⟩ := D
  refine ⟨cells, rests, h1, h2, h3, ?_, ?_, ?_, h⟩
  · rw [upd_ne n1.symm]
    exact h4
  · rw [upd_ne n3.symm]
    exact h5
  · rw [upd_ne n2.symm]
    exact h6
theorem Fr.upd {d r : Addr} {H H' : Hp} {p : Addr} {o : HO} (f : Fr d r H H') (n : H p = none) : Fr d r H (upd H' p o) := fun b u n1 n2 e => by
  rw [upd_ne (ne_of_none e n)]
  exact f b u n1 n2 e
def sp_next : Sp := fun vs H Q _ => ∃ (d r c : Addr) (t m : Int), vs = [.ref d, .int m] ∧ Dr H d r c t ∧ t ≤ 1000000 ∧ 0 < m ∧ m.natAbs < 2 ^ 8000 ∧
  ∀ H' v, 0 ≤ v → v < m → Dr H' d r c (t + 1) → Fr d r H H' → Q (.int v) H'
def sp_one : Sp := fun vs H Q _ => ∃ (d r c a : Addr) (t : Int) (xs : List V), vs = [.ref d, .ref a] ∧ Dr H d r c t ∧ t ≤ 1000000 ∧ a ≠ d ∧ a ≠ r ∧ H a = some (.lst xs) ∧ 0 < xs.length ∧ xs.length ≤ 1000 ∧
  ∀ H' v, v ∈ xs → Dr H' d r c (t + 1) → Fr d r H H' → Q v H'
def sp_draws (K : PySem.W.Frag) : Sp := fun vs H Q _ => ∃ (a : Addr) (ns : List Int), vs = [.ref a] ∧ SqL K H a (ns.map V.int) ∧ ns.length ≤ 63 ∧
  ∀ H' d r c, H d = none → H r = none → Dr H' d r c 0 → Same H H' → Q (.ref d) H'
section
variable {P : Program} {w : World} {K : PySem.W.Frag} {mg : Str → Option Value} {base : Heap} {f : Addr} {fd : FuncData}
theorem mul_bounds {t : Int} (h0 : 0 ≤ t) (h1 : t ≤ 1000000) : 0 ≤ 6007 * t * t ∧ 6007 * t * t ≤ 6007000000000000 := by
  have a : 0 ≤ t * t := Int.mul_nonneg h0 h0
  have b : t * t ≤ 1000000 * 1000000 := Int.mul_le_mul h1 h1 h0 (by decide)
  rw [Int.mul_assoc]
  omega
theorem ok_next (T : Top mg) (F : Fun K "_law_next" "_law_next" s__law_next f fd) : FnOk P w K mg base CX0 1 f fd ["_law_drawn", "_law_many"] sp_next := by
  refine F.ok sc__law_next (fun vs H Q E h => ?_) (fun cdv A outer s H vs Q E hr h => ?_)
  · obtain ⟨d, r, c, t, m, rfl, _⟩ := h
    rfl
  · obtain ⟨d, r, c, t, m, rfl, ⟨cells, rests, dr, cd, cr, hd, hc, hrs, hl, h1, h63, t0⟩, t1, m0, m1, q⟩ := h
    refine ⟨_, (pss_cons (ps_asg (pv 0) (pg_unl rfl (pgs_cons (pg_name (i := 2) sc__law_next.nd rfl (by first | exact Or.inl rfl | exact Or.inr rfl)) (pgs_cons (pg_name (i := 3) sc__law_next.nd rfl (by first | exact Or.inl rfl | exact Or.inr rfl)) (pgs_cons (pg_name (i := 4) sc__law_next.nd rfl (by first | exact Or.inl rfl | exact Or.inr rfl)) pgs_nil)))))
      (pss_cons (ps_set (i := 5) sc__law_next.nd rfl (by first | exact Or.inl rfl | exact Or.inr rfl) (pe_op op_mod (pv 3) (pe_callB len_seq (by rfl) T.z_len PySem.boot_len (pa_cons (pv 2) pa_nil))))
      (pss_cons (ps_asg (pe_op op_add (pv 3) pe_int) (pg_sub (pv 0) pe_int set_list))
      (pss_cons (ps_if (pt_cmpR op_gt (pe_ix ix_list (pv 4) (pv 5) (fun _ _ => rfl)) pe_int (nomark _))
       (pss_cons (ps_set (i := 6) sc__law_next.nd rfl (by first | exact Or.inl rfl | exact Or.inr rfl) (pe_op op_mod (pe_ix ix_list (pv 4) (pv 5) (fun _ _ => rfl)) (pv 1)))
        (pss_cons (ps_asg (pe_op op_fdivW (pe_ix ix_list (pv 4) (pv 5) (fun _ _ => rfl)) (pv 1)) (pg_sub (pv 4) (pv 5) set_list))
        (pss_one (ps_ret (pv 6)))))
       pss_nil)
      (pss_cons (ps_set (i := 7) sc__law_next.nd rfl (by first | exact Or.inl rfl | exact Or.inr rfl) (pe_op op_mod (pe_op op_pow (pe_op op_add (pe_op op_add (pe_op op_mod (pe_ix ix_list (pv 2) (pv 5) (fun _ _ => rfl)) pe_int) (pe_op op_mul pe_int (pv 3))) pe_int) pe_int) pe_int))
      (pss_cons (ps_set (i := 8) sc__law_next.nd rfl (by first | exact Or.inl rfl | exact Or.inr rfl) (pe_op op_mod (pe_op op_pow (pe_op op_add (pe_op op_add (pv 7) (pe_op op_mul (pe_op op_mul pe_int (pv 3)) (pv 3))) pe_int) pe_int) pe_int))
      (pss_one (ps_ret (pe_op op_mod (pe_op op_mod (pe_op op_add (pe_op op_mul (pv 8) pe_int) (pv 7)) pe_int) (pv 1)))))))))), ?_⟩
    walk_at "rd"
    refine rd_unl (SqL.of hd) rfl ?_
    walk_at "rd"
    refine rd_len (SqL.of hc) ?_
    rw [List.length_map]
    have hn : (0 : Int) < (cells.length : Int) := by omega
    walk_at "rd"
    have s0 : 0 ≤ t % (cells.length : Int) := Int.emod_nonneg _ (by omega)
    have s1 : t % (cells.length : Int) < (cells.length : Int) := Int.emod_lt_of_pos _ hn
    generalize hs : t % (cells.length : Int) = spot at s0 s1
    refine rd_set hd (m := 1) rfl ?_
    walk_at "rd"
    obtain ⟨z, hz, zm, az⟩ := at_ints (ns := rests) s0 (by rw [hl]; exact s1)
    obtain ⟨y, hy, ym, ay⟩ := at_ints (ns := cells) s0 s1
    generalize hH : upd H d (.lst ([V.ref c, V.int t, V.ref r].set 1 (.int (t + 1)))) = H1
    have d1 : H1 d = some (.lst [.ref c, .int (t + 1), .ref r]) := by
      rw [← hH, upd_same]
      rfl
    have c1 : H1 c = some (.lst (cells.map V.int)) := by
      rw [← hH, upd_ne cd]
      exact hc
    have r1 : H1 r = some (.lst (rests.map V.int)) := by
      rw [← hH, upd_ne dr.symm]
      exact hrs
    have f1 : Fr d r H H1 := fun b o n1 n2 e => by
      rw [← hH, upd_ne n1]
      exact e
    refine rd_ixL (SqL.of r1) az ?_
    walk_at "rd"
    refine rd_dec (fun zp => ?_) fun zn => ?_
    · walk_at "rd"
      refine rd_ixL (SqL.of r1) az ?_
      walk_at "rd"
      refine rd_ixL (SqL.of r1) az ?_
      walk_at "rd"
      refine rd_I (wide_div m0 m1 (by decide) (by decide)) ?_
      walk_at "rd"
      refine rd_set r1 (m := spot.toNat) (by rw [List.length_map, hl]; exact ix_in s0 s1) ?_
      walk_at "rd"
      refine q _ _ (Int.emod_nonneg _ (by omega)) (Int.emod_lt_of_pos _ m0) ⟨cells, rests.set spot.toNat (z / m), dr, cd, cr, ?_, ?_, ?_, ?_, h1, h63, by omega⟩ ?_
      · rw [upd_ne dr]
        exact d1
      · rw [upd_ne cr]
        exact c1
      · rw [upd_same, List.map_set]
      · rw [List.length_set]
        exact hl
      · exact f1.trans fun b o n1 n2 e => by
          rw [upd_ne n2]
          exact e
    · walk_at "rd"
      refine rd_ixL (SqL.of c1) ay ?_
      obtain ⟨p0, p1⟩ := mul_bounds t0 t1
      walk_at "rd"
      exact q _ _ (Int.emod_nonneg _ (by omega)) (Int.emod_lt_of_pos _ m0) ⟨cells, rests, dr, cd, cr, d1, c1, r1, hl, h1, h63, by omega⟩ f1
theorem ok_one {f2 : Addr} {fd2 : FuncData} (T : Top mg) (D__law_next : Df K mg "_law_next" s__law_next ["_law_drawn", "_law_many"] f2 fd2) (F : Fun K "_law_one" "_law_one" s__law_one f fd) : FnOk P w K mg base CX0 2 f fd ["_law_drawn", "_law_items"] sp_one := by
  have G__law_next : FnOk P w K mg base CX0 1 f2 fd2 _ sp_next := ok_next T D__law_next.fn
  refine F.ok sc__law_one (fun vs H Q E h => ?_) (fun cdv A outer s H vs Q E hr h => ?_)
  · obtain ⟨d, r, c, a, t, xs, rfl, _⟩ := h
    rfl
  · obtain ⟨d, r, c, a, t, xs, rfl, hD, t1, ad, ar, ha, h0, hz, q⟩ := h
    refine ⟨_, (pss_one (ps_ret (pe_ix ix_list (pv 1) (callF D__law_next G__law_next (hr.mono (by decide)) (by rfl) (pa_cons (pv 0) (pa_cons (pe_callB len_seq (by rfl) T.z_len PySem.boot_len (pa_cons (pv 1) pa_nil)) pa_nil))) (fun _ _ => rfl)))), ?_⟩
    walk_at "rd"
    refine rd_len (SqL.of ha) ?_
    walk_at "rd"
    have hb : ((xs.length : Int)).natAbs < 2 ^ 8000 := Nat.lt_of_le_of_lt (by omega : ((xs.length : Int)).natAbs ≤ 1000) (Nat.lt_of_lt_of_le (by decide : 1000 < 2 ^ 10) (Nat.pow_le_pow_right (by decide) (by decide)))
    refine ⟨d, r, c, t, (xs.length : Int), rfl, hD, t1, by omega, hb, fun H1 v v0 v1 D1 f1 => ?_⟩
    have hj : v.toNat < xs.length := by omega
    have ea : atI xs v = some xs[v.toNat] := by
      unfold atI
      rw [ix_in v0 v1]
      exact List.getElem?_eq_getElem hj
    exact rd_ixL (SqL.of (f1 _ _ ad ar ha)) ea (q H1 _ (List.getElem_mem hj) D1 f1)
theorem ok_draws (T : Top mg) (F : Fun K "_law_draws" "_law_draws" s__law_draws f fd) : FnOk P w K mg base CX0 1 f fd ["_law_script"] (sp_draws K) := by
  refine F.ok sc__law_draws (fun vs H Q E h => ?_) (fun cdv A outer s H vs Q E hr h => ?_)
  · obtain ⟨a, ns, rfl, _⟩ := h
    rfl
  · obtain ⟨a, ns, rfl, hS, hn, q⟩ := h
    refine ⟨_, (pss_cons (ps_set (i := 1) sc__law_draws.nd rfl (by first | exact Or.inl rfl | exact Or.inr rfl) (pe_op op_cat (pe_callTy list_of (by rfl) T.z_list (by decide +kernel) (pa_cons (pe_slice sl_list (pv 0) po_none (po_some pe_int)) pa_nil)) (pe_op op_rep (pe_lst (pa_cons pe_int pa_nil)) (pe_callTy int_1 (by rfl) T.z_int (by decide +kernel) (pa_cons (pe_cmpR op_eq (pe_callB len_seq (by rfl) T.z_len PySem.boot_len (pa_cons (pv 0) pa_nil)) pe_int (nomark _)) pa_nil)))))
      (pss_one (ps_ret (pe_lst (pa_cons (pv 1) (pa_cons pe_int (pa_cons (pe_lc (own := [("_law_cell", 2)]) (g := _) (tt := tYes) (by rfl) sc__law_draws.nd (pi_list (pv 1)) (blkOk_by (own := [("_law_cell", 2)]) (N := n__law_draws) (sc := defScope s__law_draws) (by decide +kernel)) (fun _ _ _ _ _ => (pg_name (i := 2) sc__law_draws.nd rfl (by first | exact Or.inl rfl | exact Or.inr rfl))) (fun _ _ _ _ _ => pts_nil) (fun _ _ _ _ _ => (pe_op op_mul (pv 2) (pe_callTy int_1 (by rfl) T.z_int (by decide +kernel) (pa_cons (pe_cmpR op_ge (pv 2) (pe_op op_pow pe_int pe_int) (nomark _)) pa_nil))))) pa_nil))))))), ?_⟩
    walk_at "rd"
    refine rd_slL hS fun p1 H1 n1 => ?_
    have e1 : cutV (ns.map V.int) none (some 63) = ns.map V.int := by
      unfold cutV
      rw [HT.sIx_none, List.length_map]
      have : HT.sIx ns.length ns.length (some 63) = ns.length := by
        rw [show (63 : Int) = ((63 : Nat) : Int) from rfl, HT.sIx_nat]
        omega
      rw [this]
      show List.take ns.length (ns.map V.int) = _
      exact List.take_of_length_le (by rw [List.length_map]; exact Nat.le_refl _)
    rw [e1] at n1
    walk_at "rd"
    refine rd_listL (SqL.of n1.here) fun p2 H2 n2 => ?_
    walk_at "rd"
    refine rd_new (by decide) fun p3 H3 n3 => ?_
    walk_at "rd"
    have s3 : Same H H3 := n1.same.trans (n2.same.trans n3.same)
    refine rd_len (s3.seq hS) ?_
    rw [List.length_map]
    walk_at "rd"
    -- [0] * int(len(script) == 0)
    obtain ⟨cells, ec, h1, h63, hrep⟩ : ∃ cells : List Int, cells = ns ++ (List.replicate (if decide (V.int (ns.length : Int) = V.int 0) = true then (1 : Int) else 0).toNat [(0 : Int)]).flatten ∧ 0 < cells.length ∧ cells.length ≤ 63 ∧ ((if decide (V.int (ns.length : Int) = V.int 0) = true then (1 : Int) else 0) = 0 ∨ (if decide (V.int (ns.length : Int) = V.int 0) = true then (1 : Int) else 0) = 1) := by
      by_cases h0 : ns.length = 0
      · have : decide (V.int (ns.length : Int) = V.int 0) = true := decide_eq_true (by rw [h0]; rfl)
        rw [this]
        refine ⟨_, rfl, ?_, ?_, .inr rfl⟩ <;> (rw [List.length_append, h0]; decide)
      · have : decide (V.int (ns.length : Int) = V.int 0) = false := decide_eq_false (fun z => h0 (by have := V.int.inj z; omega))
        rw [this]
        refine ⟨_, rfl, ?_, ?_, .inl rfl⟩ <;> (rw [List.length_append]; show _ ; simp; omega)
    generalize hk : (if decide (V.int (ns.length : Int) = V.int 0) = true then (1 : Int) else 0) = k at ec hrep
    refine rd_rep (i := k) n3.here (by omega) (by omega) (by show 1 * k.toNat ≤ 1000; omega) fun p4 H4 n4 => ?_
    have zl : (ns.map V.int).length ≤ 63 := by rw [List.length_map]; exact hn
    have zk : ((List.replicate k.toNat [V.int 0]).flatten).length ≤ 1 := by
      rcases hrep with e | e <;> (rw [e]; decide)
    refine rd_cat (n4.same _ _ (n3.same _ _ n2.here)) n4.here (by omega) (fun p5 H5 n5 => ?_)
    have e5 : ns.map V.int ++ (List.replicate k.toNat [V.int 0]).flatten = cells.map V.int := by
      rw [ec, List.map_append, List.map_flatten, List.map_replicate]
      rfl
    rw [e5] at n5
    walk_at "rd"
    refine rd_lcF (zs := cells) (emb := V.int) (f := fun c => .int (c * if 10 ^ 18 ≤ c then 1 else 0)) (a := p5) rfl (SqL.of n5.here) (by omega) (fun z H6 R _ s6 go => ?_) (fun p6 H6 n6 => ?_)
    · walk_at "rd"
      refine ⟨rfl, ?_⟩
      walk_at "rd"
      have e18 : (if decide ((10 : Int) ^ (18 : Int).toNat ≤ z) = true then (1 : Int) else 0) = if 10 ^ 18 ≤ z then 1 else 0 := by
        by_cases h : (10 : Int) ^ 18 ≤ z
        · rw [if_pos h]
          exact if_pos (decide_eq_true h)
        · rw [if_neg h]
          exact if_neg fun w => h (of_decide_eq_true w)
      rw [e18]
      exact go H6 fun _ _ h => h
    · walk_at "rd"
      refine rd_new (by decide : 3 ≤ 1000) fun p7 H7 n7 => ?_
      have s5 : Same H H5 := s3.trans (n4.same.trans n5.same)
      have s7 : Same H5 H7 := n6.same.trans n7.same
      refine q H7 p7 p6 p5 ?_ ?_ ⟨cells, cells.map fun c => c * if 10 ^ 18 ≤ c then 1 else 0, ?_, ?_, ?_, n7.here, s7 _ _ n5.here, ?_, ?_, h1, h63, by decide⟩ (s5.trans s7)
      · exact (s5.trans n6.same).free n7.free
      · exact s5.free n6.free
      · exact (ne_of_none n6.here n7.free).symm
      · exact ne_of_none (n6.same _ _ n5.here) n7.free
      · exact ne_of_none n5.here n6.free
      · rw [n7.same _ _ n6.here, List.map_map]
        rfl
      · rw [List.length_map]
end
/-! ### words -/
def sp_greatest : Sp := fun vs H Q _ => ∃ w : Int, vs = [.int w] ∧ 1 ≤ w ∧ w ≤ 64 ∧ Q (.int (2 ^ w.toNat - 1)) H
def sp_toword : Sp := fun vs H Q _ => ∃ n w : Int, vs = [.int n, .int w] ∧ 1 ≤ w ∧ w ≤ 64 ∧ Q (.int (n % 2 ^ w.toNat)) H
def sp_signed : Sp := fun vs H Q _ => ∃ x w : Int, vs = [.int x, .int w] ∧ 1 ≤ w ∧ w ≤ 64 ∧ 0 ≤ x ∧ Q (.int (if x < 2 ^ (w - 1).toNat then x else x - 2 ^ w.toNat)) H
section
variable {P : Program} {w : World} {K : PySem.W.Frag} {mg : Str → Option Value} {base : Heap} {f : Addr} {fd : FuncData}
theorem ok_greatest (T : Top mg) (F : Fun K "greatest_word" "greatest_word" s_greatest_word f fd) : FnOk P w K mg base CX0 1 f fd ["width"] sp_greatest := by
  refine F.ok sc_greatest_word (fun vs H Q E h => ?_) (fun cdv A outer s H vs Q E hr h => ?_)
  · obtain ⟨d, rfl, _⟩ := h
    rfl
  · obtain ⟨n, rfl, w1, w2, q⟩ := h
    refine ⟨_, (pss_one (ps_ret (pe_op op_sub (pe_op op_shl pe_int (pv 0)) pe_int))), ?_⟩
    walk_at "rd"
    rw [Int.one_mul]
    exact q
theorem ok_toword {f2 : Addr} {fd2 : FuncData} (T : Top mg) (D_greatest_word : Df K mg "greatest_word" s_greatest_word ["width"] f2 fd2) (F : Fun K "to_word" "to_word" s_to_word f fd) : FnOk P w K mg base CX0 2 f fd ["number", "width"] sp_toword := by
  have G_greatest_word : FnOk P w K mg base CX0 1 f2 fd2 _ sp_greatest := ok_greatest T D_greatest_word.fn
  refine F.ok sc_to_word (fun vs H Q E h => ?_) (fun cdv A outer s H vs Q E hr h => ?_)
  · obtain ⟨n, d, rfl, _⟩ := h
    rfl
  · obtain ⟨x, n, rfl, w1, w2, q⟩ := h
    refine ⟨_, (pss_one (ps_ret (pe_op op_andM' (pv 0) (callF D_greatest_word G_greatest_word (hr.mono (by decide)) (by rfl) (pa_cons (pv 1) pa_nil))))), ?_⟩
    walk_at "rd"
    exact ⟨n, rfl, w1, w2, rd_andM rfl q⟩
theorem pow_pos2 (k : Nat) : (0 : Int) < 2 ^ k := Int.pow_pos (by decide)
theorem ok_signed (T : Top mg) (F : Fun K "signed_value" "signed_value" s_signed_value f fd) : FnOk P w K mg base CX0 1 f fd ["word", "width"] sp_signed := by
  refine F.ok sc_signed_value (fun vs H Q E h => ?_) (fun cdv A outer s H vs Q E hr h => ?_)
  · obtain ⟨n, d, rfl, _⟩ := h
    rfl
  · obtain ⟨x, n, rfl, w1, w2, x0, q⟩ := h
    refine ⟨_, (pss_cons (ps_if (pt_cmpR op_eq (pe_op op_shr (pv 0) (pe_op op_sub (pv 1) pe_int)) pe_int (nomark _))
       (pss_one (ps_ret (pv 0)))
       pss_nil)
      (pss_one (ps_ret (pe_op op_sub (pv 0) (pe_op op_shl pe_int (pv 1)))))), ?_⟩
    walk_at "rd"
    have hp := pow_pos2 (n - 1).toNat
    refine rd_dec (fun e => ?_) fun e => ?_
    · walk_at "rd"
      have e0 : x / 2 ^ (n - 1).toNat = 0 := V.int.inj e
      rw [if_pos ?_] at q
      · exact q
      · have := Int.lt_ediv_add_one_mul_self x hp
        rw [e0] at this
        omega
    · walk_at "rd"
      rw [if_neg ?_] at q
      · rw [Int.one_mul]
        exact q
      · intro z
        exact e (congrArg V.int (Int.ediv_eq_zero_of_lt x0 z))
end
def sp_width : Sp := fun vs H Q _ => ∃ (d r c : Addr) (t : Int), vs = [.ref d] ∧ Dr H d r c t ∧ t ≤ 900000 ∧ ∀ H' v, 1 ≤ v → v ≤ 64 → Dr H' d r c (t + 2) → Fr d r H H' → Q (.int v) H'
def sp_word : Sp := fun vs H Q _ => ∃ (d r c : Addr) (t n : Int), vs = [.ref d, .int n] ∧ Dr H d r c t ∧ t ≤ 900000 ∧ 1 ≤ n ∧ n ≤ 64 ∧ ∀ H' v, 0 ≤ v → v < 2 ^ n.toNat → Dr H' d r c (t + 4) → Fr d r H H' → Q (.int v) H'
theorem mods {v : Int} {k : Nat} : 0 ≤ v % 2 ^ k ∧ v % 2 ^ k < 2 ^ k := ⟨Int.emod_nonneg _ (Int.ne_of_gt (pow_pos2 k)), Int.emod_lt_of_pos _ (pow_pos2 k)⟩
theorem lt_2_64 {n : Int} (h : n ≤ 64) : (2 : Int) ^ n.toNat ≤ 2 ^ 64 := by
  have h2 : (2 : Nat) ^ n.toNat ≤ 2 ^ 64 := Nat.pow_le_pow_right (by decide) (by omega)
  have h3 : ((2 ^ n.toNat : Nat) : Int) ≤ ((2 ^ 64 : Nat) : Int) := Int.ofNat_le.mpr h2
  rw [Int.natCast_pow, Int.natCast_pow] at h3
  exact h3
theorem size_of_small {m : Int} (h0 : 0 ≤ m) (h : m < 2 ^ 100) : m.natAbs < 2 ^ 8000 := (Bd.of h0 h).mono (by decide)
section
variable {P : Program} {w : World} {K : PySem.W.Frag} {mg : Str → Option Value} {base : Heap} {f f1 f2 : Addr} {fd fd1 fd2 : FuncData}
theorem ok_width (T : Top mg) (D__law_next : Df K mg "_law_next" s__law_next ["_law_drawn", "_law_many"] f1 fd1) (D__law_one : Df K mg "_law_one" s__law_one ["_law_drawn", "_law_items"] f2 fd2) (F : Fun K "_law_width" "_law_width" s__law_width f fd) :
    FnOk P w K mg base CX0 3 f fd ["_law_drawn"] sp_width := by
  have G__law_next : FnOk P w K mg base CX0 1 f1 fd1 _ sp_next := ok_next T D__law_next.fn
  have G__law_one : FnOk P w K mg base CX0 2 f2 fd2 _ sp_one := ok_one T D__law_next D__law_one.fn
  refine F.ok sc__law_width (fun vs H Q E h => ?_) (fun cdv A outer s H vs Q E hr h => ?_)
  · obtain ⟨d, r, c, t, rfl, _⟩ := h
    rfl
  · obtain ⟨d, r, c, t, rfl, hD, t1, q⟩ := h
    refine ⟨_, (pss_one (ps_ret (callF D__law_one G__law_one (hr.mono (by decide)) (by rfl) (pa_cons (pv 0) (pa_cons (pe_lst (pa_cons pe_int (pa_cons pe_int (pa_cons pe_int (pa_cons pe_int (pa_cons pe_int (pa_cons pe_int (pa_cons pe_int (pa_cons pe_int (pa_cons pe_int (pa_cons pe_int (pa_cons (pe_op op_add pe_int (callF D__law_next G__law_next (hr.mono (by decide)) (by rfl) (pa_cons (pv 0) (pa_cons pe_int pa_nil)))) pa_nil)))))))))))) pa_nil))))), ?_⟩
    walk_at "rd"
    refine ⟨d, r, c, t, 64, rfl, hD, by omega, by decide, size_of_small (by decide) (by decide), fun H1 v v0 v1 D1 F1 => ?_⟩
    walk_at "rd"
    refine rd_new (by decide : 11 ≤ 1000) fun p H2 n2 => ?_
    walk_at "rd"
    obtain ⟨o1, o2⟩ := D1.off n2.free
    refine ⟨d, r, c, p, t + 1, _, rfl, D1.same n2.same, by omega, o1, o2, n2.here, (by show 0 < 11; decide), (by show 11 ≤ 1000; decide), fun H3 x hx D3 F3 => ?_⟩
    have hv : ∃ y : Int, x = .int y ∧ 1 ≤ y ∧ y ≤ 64 := by
      simp only [List.mem_cons, List.not_mem_nil, or_false] at hx
      rcases hx with h | h | h | h | h | h | h | h | h | h | h <;> exact ⟨_, h, by omega, by omega⟩
    obtain ⟨y, rfl, y0, y1⟩ := hv
    exact q H3 y y0 y1 (by rw [show t + 2 = t + 1 + 1 by omega]; exact D3) (F1.trans ((Fr.of n2.same).trans F3))
end
section
variable {P : Program} {w : World} {K : PySem.W.Frag} {mg : Str → Option Value} {base : Heap} {f f1 f2 : Addr} {fd fd1 fd2 : FuncData}
theorem ok_word (T : Top mg) (D__law_next : Df K mg "_law_next" s__law_next ["_law_drawn", "_law_many"] f1 fd1) (D__law_one : Df K mg "_law_one" s__law_one ["_law_drawn", "_law_items"] f2 fd2) (F : Fun K "_law_word" "_law_word" s__law_word f fd) :
    FnOk P w K mg base CX0 3 f fd ["_law_drawn", "_law_width_here"] sp_word := by
  have G__law_next : FnOk P w K mg base CX0 1 f1 fd1 _ sp_next := ok_next T D__law_next.fn
  have G__law_one : FnOk P w K mg base CX0 2 f2 fd2 _ sp_one := ok_one T D__law_next D__law_one.fn
  refine F.ok sc__law_word (fun vs H Q E h => ?_) (fun cdv A outer s H vs Q E hr h => ?_)
  · obtain ⟨d, r, c, t, n, rfl, _⟩ := h
    rfl
  · obtain ⟨d, r, c, t, n, rfl, hD, t1, n1, n2, q⟩ := h
    refine ⟨_, (pss_cons (ps_set (i := 2) sc__law_word.nd rfl (by first | exact Or.inl rfl | exact Or.inr rfl) (pe_op op_sub (pe_op op_shl pe_int (pv 1)) pe_int))
      (pss_cons (ps_set (i := 3) sc__law_word.nd rfl (by first | exact Or.inl rfl | exact Or.inr rfl) (pe_op op_add (pe_op op_mul (callF D__law_next G__law_next (hr.mono (by decide)) (by rfl) (pa_cons (pv 0) (pa_cons (pe_op op_pow pe_int pe_int) pa_nil))) (pe_op op_pow pe_int pe_int)) (callF D__law_next G__law_next (hr.mono (by decide)) (by rfl) (pa_cons (pv 0) (pa_cons (pe_op op_pow pe_int pe_int) pa_nil)))))
      (pss_cons (ps_set (i := 4) sc__law_word.nd rfl (by first | exact Or.inl rfl | exact Or.inr rfl) (pe_lst (pa_cons pe_int (pa_cons pe_int (pa_cons pe_int (pa_cons (pv 2) (pa_cons (pe_op op_sub (pv 2) pe_int) (pa_cons (pe_op op_fdivW (pv 2) pe_int) (pa_cons (pe_op op_add (pe_op op_fdivW (pv 2) pe_int) pe_int) pa_nil)))))))))
      (pss_one (ps_ret (pe_op op_andM' (callF D__law_one G__law_one (hr.mono (by decide)) (by rfl) (pa_cons (pv 0) (pa_cons (pe_op op_cat (pv 4) (pe_lst (pa_cons (pe_op op_shl pe_int (callF D__law_next G__law_next (hr.mono (by decide)) (by rfl) (pa_cons (pv 0) (pa_cons (pv 1) pa_nil)))) (pa_cons (pv 3) (pa_cons (pv 3) (pa_cons (pv 3) pa_nil)))))) pa_nil))) (pv 2))))))), ?_⟩
    walk_at "rd"
    refine ⟨d, r, c, t, _, rfl, hD, by omega, by decide, size_of_small (by decide) (by decide), fun H1 v v0 v1 D1 F1 => ?_⟩
    walk_at "rd"
    refine ⟨d, r, c, t + 1, _, rfl, D1, by omega, by decide, size_of_small (by decide) (by decide), fun H2 u u0 u1 D2 F2 => ?_⟩
    walk_at "rd"
    refine rd_new (by decide : 7 ≤ 1000) fun p H3 n3 => ?_
    walk_at "rd"
    have top0 : (0 : Int) ≤ 1 * 2 ^ n.toNat - 1 := by have := pow_pos2 n.toNat; omega
    refine ⟨d, r, c, t + 2, n, rfl, (by rw [show t + 2 = t + 1 + 1 by omega]; exact D2.same n3.same), by omega, by omega, size_of_small (by omega) (by omega), fun H4 x x0 x1 D4 F4 => ?_⟩
    walk_at "rd"
    refine rd_new (by show 4 ≤ 1000; decide) fun p5 H5 n5 => ?_
    walk_at "rd"
    obtain ⟨o1, o2⟩ := D2.off n3.free
    refine rd_cat (n5.same _ _ (F4 _ _ o1 o2 n3.here)) n5.here (by show 7 + 4 ≤ 1000; decide) fun p6 H6 n6 => ?_
    walk_at "rd"
    have D6 := (D4.same n5.same).same n6.same
    obtain ⟨o5, o6⟩ := (D4.same n5.same).off n6.free
    refine ⟨d, r, c, p6, t + 2 + 1, _, rfl, D6, by omega, o5, o6, n6.here, (by show 0 < 11; decide), (by show 11 ≤ 1000; decide), fun H7 y hy D7 F7 => ?_⟩
    have hv : ∃ z : Int, y = .int z := by
      simp only [List.cons_append, List.nil_append, List.mem_cons, List.not_mem_nil, or_false] at hy
      rcases hy with h | h | h | h | h | h | h | h | h | h | h <;> exact ⟨_, h⟩
    obtain ⟨z, rfl⟩ := hv
    walk_at "rd"
    refine rd_andM (k := n.toNat) (by omega) ?_
    exact q H7 _ mods.1 mods.2 (by rw [show t + 4 = t + 2 + 1 + 1 by omega]; exact D7) (F1.trans (F2.trans ((Fr.of n3.same).trans (F4.trans ((Fr.of n5.same).trans ((Fr.of n6.same).trans F7))))))
end
/-! ### data: repr and == -/
mutual
def cost : PyData → Nat
  | .none => 8
  | .bool _ => 8
  | .int _ => 1925
  | .str x => (reprText x).length
  | .list xs => costAll xs + 3
  | .tuple xs => costAll xs + 3
  | .dict _ => 0
def costAll : List PyData → Nat
  | [] => 0
  | x :: xs => cost x + 2 + costAll xs
end
mutual
theorem shown_cost : ∀ d : PyData, d.showable = true → d.hasDict = false → d.shown.length ≤ cost d
  | .none, _, _ => by
    show (PyData.shown .none).length ≤ 8
    decide
  | .bool b, _, _ => by
    show (PyData.shown (.bool b)).length ≤ 8
    cases b <;> decide
  | .int i, h, _ => by
    have h' : i.natAbs.log2 < 1920 := by simpa [PyData.showable] using h
    have := int_text_len_1921 h'
    show (PyData.shown (.int i)).length ≤ 1925
    simp only [PyData.shown]
    show (PySem.Str.ofString (toString i)).length ≤ 1925
    omega
  | .str x, _, _ => by
    simp only [PyData.shown, cost]
    exact Nat.le_refl _
  | .list xs, h, nd => by
    have a := shownAll_cost xs (by simpa [PyData.showable] using h) (by simpa [PyData.hasDict] using nd)
    have b := listText_len_le (PyData.shownAll xs)
    have c := PyData.shownAll_length xs
    simp only [PyData.shown, cost]
    omega
  | .tuple xs, h, nd => by
    have a := shownAll_cost xs (by simpa [PyData.showable] using h) (by simpa [PyData.hasDict] using nd)
    have b := tupleText_len_le (PyData.shownAll xs)
    have c := PyData.shownAll_length xs
    simp only [PyData.shown, cost]
    omega
  | .dict _, _, nd => by
    simp [PyData.hasDict] at nd
theorem shownAll_cost : ∀ xs : List PyData, PyData.showableAll xs = true → PyData.hasDictAll xs = false → ((PyData.shownAll xs).map (·.length)).sum + 2 * xs.length ≤ costAll xs
  | [], _, _ => by
    simp [PyData.shownAll, costAll]
  | x :: xs, h, nd => by
    have h' : x.showable = true ∧ PyData.showableAll xs = true := by simpa [PyData.showableAll] using h
    have n' : x.hasDict = false ∧ PyData.hasDictAll xs = false := by simpa [PyData.hasDictAll] using nd
    have a := shown_cost x h'.1 n'.1
    have b := shownAll_cost xs h'.2 n'.2
    simp only [PyData.shownAll, costAll, List.map_cons, List.sum_cons, List.length_cons]
    omega
end
/-- a datum that may be shown and compared -/
structure Shows (d : PyData) : Prop where
  show_ : d.showable = true
  flat : d.hasDict = false
  deep : d.depth ≤ 60
  small : cost d ≤ 4000000
  lay : d.canLay0 = true
theorem Shows.shaped {d : PyData} (h : Shows d) : SeqAt.shaped d = true := by
  unfold SeqAt.shaped
  rw [h.lay, decide_eq_true (Nat.le_trans h.deep (by decide))]
  rfl
theorem Shows.size {d : PyData} (h : Shows d) : d.shown.length ≤ sizeLine := Nat.le_trans (shown_cost d h.show_ h.flat) (Nat.le_trans h.small (by rw [sizeLine_eq]; decide))
section
variable {K : PySem.W.Frag} {H : Hp} {Q : VK}
theorem rd_repr {p : Addr} {d : PyData} (h : Dp K H (.ref p) d) (s : Shows d) (q : Q (.str d.shown) H) : rRepr K [.ref p] H Q := ⟨p, d, rfl, h, s.show_, s.flat, Nat.le_trans s.deep (by decide), s.size, q⟩
theorem rd_eqSame {x y : V} {d : PyData} (h1 : Dp K H x d) (h2 : Dp K H y d) (s : Shows d) (q : Q (.bl true) H) : rEqD K x y H Q := by
  refine ⟨d, d, h1, h2, s.shaped, s.shaped, ?_⟩
  rw [SeqAt.eqv_refl d s.lay]
  exact q
theorem rd_neSame {x y : V} {d : PyData} (h1 : Dp K H x d) (h2 : Dp K H y d) (s : Shows d) (q : Q (.bl false) H) : rNeD K x y H Q := by
  refine ⟨d, d, h1, h2, s.shaped, s.shaped, ?_⟩
  rw [SeqAt.eqv_refl d s.lay]
  exact q
theorem dp_ints : ∀ ns : List Int, DpAll K H (ns.map V.int) (ns.map PyData.int)
  | [] => .nil
  | n :: ns => .cons (.int n) (dp_ints ns)
theorem shows_ints {ns : List Int} (few : ns.length ≤ 1000) (h : ∀ n ∈ ns, n.natAbs.log2 < 1920) : Shows (.list (ns.map PyData.int)) := by
  have a : PyData.showableAll (ns.map PyData.int) = true ∧ PyData.hasDictAll (ns.map PyData.int) = false ∧ PyData.depthAll (ns.map PyData.int) = 0 ∧ costAll (ns.map PyData.int) = 1927 * ns.length ∧ PyData.canLayAll0 (ns.map PyData.int) = true := by
    clear few
    induction ns with
    | nil => simp [PyData.showableAll, PyData.hasDictAll, PyData.depthAll, costAll, PyData.canLayAll0]
    | cons n ns ih =>
      obtain ⟨a, b, c, d, e⟩ := ih fun m hm => h m (List.mem_cons_of_mem _ hm)
      have hn := h n List.mem_cons_self
      refine ⟨?_, ?_, ?_, ?_, ?_⟩
      · simp only [List.map_cons, PyData.showableAll, PyData.showable, a, decide_eq_true hn, Bool.and_self]
      · simp only [List.map_cons, PyData.hasDictAll, PyData.hasDict, b, Bool.or_self]
      · simp only [List.map_cons, PyData.depthAll, PyData.depth, c, Nat.max_self]
      · simp only [List.map_cons, costAll, cost, d, List.length_cons]
        omega
      · simp only [List.map_cons, PyData.canLayAll0, PyData.canLay0, e, Bool.and_self]
  obtain ⟨a, b, c, d, e⟩ := a
  refine ⟨?_, ?_, ?_, ?_, ?_⟩
  · simpa only [PyData.showable] using a
  · simpa only [PyData.hasDict] using b
  · simp only [PyData.depth, c]
    decide
  · simp only [cost, d]
    omega
  · simpa only [PyData.canLay0] using e
theorem log2_word {x : Int} {k : Int} (h0 : 0 ≤ x) (h : x < 2 ^ k.toNat) (hk : k ≤ 64) : x.natAbs.log2 < 1920 := by
  have b : Bd 65 x := Bd.of h0 (Int.lt_of_lt_of_le h (Int.le_trans (lt_2_64 hk) (by decide)))
  exact Nat.lt_of_lt_of_le (PySem.Flt.log2_lt_of (by decide) b) (by decide)
end
def sp_integer : Sp := fun vs H Q _ => ∃ (d r c : Addr) (t n : Int), vs = [.ref d, .int n] ∧ Dr H d r c t ∧ t ≤ 900000 ∧ 1 ≤ n ∧ n ≤ 64 ∧ ∀ H' v, Bd 1200 v → Dr H' d r c (t + 4) → Fr d r H H' → Q (.int v) H'
theorem bd_pow {n : Int} (h0 : 1 ≤ n) (h : n ≤ 64) : Bd 65 (1 * 2 ^ n.toNat) := Bd.of (by have := pow_pos2 n.toNat; omega) (by have := lt_2_64 h; omega)
section
variable {P : Program} {w : World} {K : PySem.W.Frag} {mg : Str → Option Value} {base : Heap} {f f1 f2 : Addr} {fd fd1 fd2 : FuncData}
theorem ok_integer (T : Top mg) (D__law_next : Df K mg "_law_next" s__law_next ["_law_drawn", "_law_many"] f1 fd1) (D__law_one : Df K mg "_law_one" s__law_one ["_law_drawn", "_law_items"] f2 fd2) (F : Fun K "_law_integer" "_law_integer" s__law_integer f fd) :
    FnOk P w K mg base CX0 3 f fd ["_law_drawn", "_law_width_here"] sp_integer := by
  have G__law_next : FnOk P w K mg base CX0 1 f1 fd1 _ sp_next := ok_next T D__law_next.fn
  have G__law_one : FnOk P w K mg base CX0 2 f2 fd2 _ sp_one := ok_one T D__law_next D__law_one.fn
  refine F.ok sc__law_integer (fun vs H Q E h => ?_) (fun cdv A outer s H vs Q E hr h => ?_)
  · obtain ⟨d, r, c, t, n, rfl, _⟩ := h
    rfl
  · obtain ⟨d, r, c, t, n, rfl, hD, t1, n1, n2, q⟩ := h
    refine ⟨_, (pss_cons (ps_set (i := 2) sc__law_integer.nd rfl (by first | exact Or.inl rfl | exact Or.inr rfl) (pe_op op_shl pe_int (pv 1)))
      (pss_cons (ps_set (i := 3) sc__law_integer.nd rfl (by first | exact Or.inl rfl | exact Or.inr rfl) (pe_op op_add (pe_op op_mulW (pe_op op_powW (pe_op op_powW pe_int pe_int) pe_int) (pe_op op_powW pe_int pe_int)) (callF D__law_next G__law_next (hr.mono (by decide)) (by rfl) (pa_cons (pv 0) (pa_cons (pe_op op_powW pe_int pe_int) pa_nil)))))
      (pss_cons (ps_set (i := 4) sc__law_integer.nd rfl (by first | exact Or.inl rfl | exact Or.inr rfl) (pe_op op_sub (pe_op op_add (pe_op op_mulW (pv 2) (pe_op op_add pe_int (callF D__law_next G__law_next (hr.mono (by decide)) (by rfl) (pa_cons (pv 0) (pa_cons pe_int pa_nil))))) (callF D__law_next G__law_next (hr.mono (by decide)) (by rfl) (pa_cons (pv 0) (pa_cons pe_int pa_nil)))) pe_int))
      (pss_cons (ps_set (i := 5) sc__law_integer.nd rfl (by first | exact Or.inl rfl | exact Or.inr rfl) (pe_lst (pa_cons pe_int (pa_cons pe_int (pa_cons (pe_un un_neg pe_int) (pa_cons (pv 2) (pa_cons (pe_op op_sub (pv 2) pe_int) (pa_cons (pe_un un_neg (pv 2)) (pa_cons (pe_op op_fdivW (pv 2) pe_int) (pa_cons (pv 4) (pa_cons (pe_un un_neg (pv 4)) pa_nil)))))))))))
      (pss_one (ps_ret (callF D__law_one G__law_one (hr.mono (by decide)) (by rfl) (pa_cons (pv 0) (pa_cons (pe_op op_cat (pv 5) (pe_lst (pa_cons (pv 3) (pa_cons (pe_un un_neg (pv 3)) (pa_cons (pe_op op_add (pe_op op_mulW pe_int (pv 3)) (pv 4)) pa_nil))))) pa_nil))))))))), ?_⟩
    have bm := bd_pow n1 n2
    walk_at "rd"
    refine ⟨d, r, c, t, _, rfl, hD, by omega, by decide, size_of_small (by decide) (by decide), fun H1 v v0 v1 D1 F1 => ?_⟩
    have bv : Bd 50 v := Bd.of v0 (Int.lt_trans v1 (by decide))
    have bG : Bd 1120 (((10 : Int) ^ (64 : Int).toNat) ^ (5 : Int).toNat * 10 ^ (15 : Int).toNat) := by
      unfold Bd
      decide +kernel
    walk_at "rd"
    generalize ((10 : Int) ^ (64 : Int).toNat) ^ (5 : Int).toNat * 10 ^ (15 : Int).toNat = G at bG
    refine ⟨d, r, c, t + 1, _, rfl, D1, by omega, by decide, size_of_small (by decide) (by decide), fun H2 u u0 u1 D2 F2 => ?_⟩
    have bu : Bd 20 (1 + u) := Bd.of (by omega) (by omega)
    have c2 := bm.mulOk bu (by decide)
    walk_at "rd"
    refine ⟨d, r, c, t + 2, _, rfl, (by rw [show t + 2 = t + 1 + 1 by omega]; exact D2), by omega, by decide, size_of_small (by decide) (by decide), fun H3 y y0 y1 D3 F3 => ?_⟩
    have bg : Bd 1121 (G + v) := bG.add (bv.mono (by decide))
    have c7 : CMulW 7 (G + v) := Bd.mulOk (A := 4) (Bd.of (by decide) (by decide)) bg (by decide)
    walk_at "rd"
    refine rd_new (by show 9 ≤ 1000; decide) fun p H4 n4 => ?_
    walk_at "rd"
    refine rd_new (by show 3 ≤ 1000; decide) fun p5 H5 n5 => ?_
    walk_at "rd"
    refine rd_cat (n5.same _ _ n4.here) n5.here (by show 9 + 3 ≤ 1000; decide) fun p6 H6 n6 => ?_
    walk_at "rd"
    have D6 := ((D3.same n4.same).same n5.same).same n6.same
    obtain ⟨o5, o6⟩ := ((D3.same n4.same).same n5.same).off n6.free
    refine ⟨d, r, c, p6, t + 3, _, rfl, (by rw [show t + 3 = t + 2 + 1 by omega]; exact D6), by omega, o5, o6, n6.here, (by show 0 < 12; decide), (by show 12 ≤ 1000; decide), fun H7 x hx D7 F7 => ?_⟩
    have bn : Bd 87 (1 * 2 ^ n.toNat * (1 + u) + y - 2) := ((bm.mul bu).add (B := 85) ((Bd.of (B := 10) y0 (by omega)).mono (by decide))).sub (Bd.of (by decide) (by decide))
    have hv : ∃ z : Int, x = .int z ∧ Bd 1200 z := by
      simp only [List.cons_append, List.nil_append, List.mem_cons, List.not_mem_nil, or_false] at hx
      have b1 : Bd 65 1 := Bd.of (by decide) (by decide)
      rcases hx with h | h | h | h | h | h | h | h | h | h | h | h
      · exact ⟨_, h, Bd.of (by decide) (by decide)⟩
      · exact ⟨_, h, b1.mono (by decide)⟩
      · exact ⟨_, h, b1.neg.mono (by decide)⟩
      · exact ⟨_, h, bm.mono (by decide)⟩
      · exact ⟨_, h, (bm.sub b1).mono (by decide)⟩
      · exact ⟨_, h, bm.neg.mono (by decide)⟩
      · exact ⟨_, h, (bm.le (by have := pow_pos2 n.toNat; omega) (by have := pow_pos2 n.toNat; omega)).mono (by decide)⟩
      · exact ⟨_, h, bn.mono (by decide)⟩
      · exact ⟨_, h, bn.neg.mono (by decide)⟩
      · exact ⟨_, h, bg.mono (by decide)⟩
      · exact ⟨_, h, bg.neg.mono (by decide)⟩
      · exact ⟨_, h, ((Bd.mul (A := 4) (Bd.of (by decide) (by decide)) bg).add (bn.mono (by decide))).mono (by decide)⟩
    obtain ⟨z, rfl, bz⟩ := hv
    exact q H7 z bz (by rw [show t + 4 = t + 3 + 1 by omega]; exact D7) (F1.trans (F2.trans (F3.trans ((Fr.of n4.same).trans ((Fr.of n5.same).trans ((Fr.of n6.same).trans F7))))))
/-- an integer less its quotient times the number of words -/
def sp_due : Sp := fun vs H Q _ => ∃ n k : Int, vs = [.int n, .int k] ∧ Bd 3000 n ∧ 1 ≤ k ∧ k ≤ 64 ∧ Q (.int (n % 2 ^ k.toNat)) H
theorem ok_due (T : Top mg) (F : Fun K "_law_word_due" "_law_word_due" s__law_word_due f fd) : FnOk P w K mg base CX0 1 f fd ["_law_number", "_law_width_here"] sp_due := by
  refine F.ok sc__law_word_due (fun vs H Q E h => ?_) (fun cdv A outer s H vs Q E hr h => ?_)
  · obtain ⟨n, k, rfl, _⟩ := h
    rfl
  · obtain ⟨n, k, rfl, bn, k1, k2, q⟩ := h
    refine ⟨_, (pss_cons (ps_set (i := 2) sc__law_word_due.nd rfl (by first | exact Or.inl rfl | exact Or.inr rfl) (pe_op op_shl pe_int (pv 1)))
      (pss_one (ps_ret (pe_op op_sub (pv 0) (pe_op op_mulW (pe_op op_fdivW (pv 0) (pv 2)) (pv 2)))))), ?_⟩
    have bm := bd_pow k1 k2
    have hp := pow_pos2 k.toNat
    have cd : CDivW n (1 * 2 ^ k.toNat) := wide_div (by omega) bm (by decide) (by decide)
    have bq : Bd 3001 (n / (1 * 2 ^ k.toNat)) := by
      rw [Int.one_mul]
      have h1 : (n / 2 ^ k.toNat).natAbs ≤ n.natAbs + 1 := by
        have a := Int.mul_ediv_self_le (x := n) (k := 2 ^ k.toNat) (by omega)
        have b := Int.lt_mul_ediv_self_add (x := n) hp
        generalize n / 2 ^ k.toNat = z at a b
        generalize hm : (2 : Int) ^ k.toNat = m at a b hp
        rcases Int.lt_or_le z 0 with hz | hz
        · have : m * z ≤ 1 * z := Int.mul_le_mul_of_nonpos_right (by omega) (by omega)
          rcases Int.lt_or_le (m * z + m) (z + 2) with c | c
          · omega
          · have e : m * z + m = m * (z + 1) := by rw [Int.mul_add, Int.mul_one]
            have : m * (z + 1) ≤ 1 * (z + 1) := Int.mul_le_mul_of_nonpos_right (by omega) (by omega)
            omega
        · have : 1 * z ≤ m * z := Int.mul_le_mul_of_nonneg_right (by omega) hz
          omega
      unfold Bd at *
      rw [Nat.pow_succ]
      have : 0 < 2 ^ 3000 := Nat.pow_pos (by decide)
      omega
    have cm := bq.mulOk bm (by decide)
    walk_at "rd"
    rw [Int.one_mul]
    have e : n - n / 2 ^ k.toNat * 2 ^ k.toNat = n % 2 ^ k.toNat := by
      rw [Int.emod_def, Int.mul_comm]
    rw [e]
    exact q
end
def sp_words : Sp := fun vs H Q _ => ∃ a b k : Int, vs = [.int a, .int b, .int k] ∧ Bd 1200 a ∧ Bd 1200 b ∧ 1 ≤ k ∧ k ≤ 64 ∧ ∀ H', Same H H' → Q (.bl true) H'
def sp_signs : Sp := fun vs H Q _ => ∃ x k : Int, vs = [.int x, .int k] ∧ 0 ≤ x ∧ x < 2 ^ k.toNat ∧ 1 ≤ k ∧ k ≤ 64 ∧ ∀ H', Same H H' → Q (.bl true) H'
theorem neg_mods (a m : Int) : (-a) % m = (-(a % m)) % m := by
  rw [show -a = -(a % m) + m * (-(a / m)) by rw [Int.mul_neg]; have := Int.emod_add_mul_ediv a m; omega, Int.add_mul_emod_self_left]
theorem mul_mods (a b m : Int) : (a % m * b) % m = (a % m * (b % m)) % m := by
  rw [Int.mul_emod, Int.emod_emod]
section
variable {P : Program} {w : World} {K : PySem.W.Frag} {mg : Str → Option Value} {base : Heap} {f f1 f2 f3 f4 : Addr} {fd fd1 fd2 fd3 fd4 : FuncData}
theorem ok_words (T : Top mg) (D_greatest_word : Df K mg "greatest_word" s_greatest_word ["width"] f1 fd1) (D_to_word : Df K mg "to_word" s_to_word ["number", "width"] f2 fd2)
    (D__law_word_due : Df K mg "_law_word_due" s__law_word_due ["_law_number", "_law_width_here"] f3 fd3) (F : Fun K "_law_words_right" "_law_words_right" s__law_words_right f fd) :
    GOk P w K mg base 3 f fd ["_law_one_here", "_law_other", "_law_width_here"] sp_words := by
  have G_to_word : FnOk P w K mg base CX0 2 f2 fd2 _ sp_toword := ok_toword T D_greatest_word D_to_word.fn
  have G__law_word_due : FnOk P w K mg base CX0 1 f3 fd3 _ sp_due := ok_due T D__law_word_due.fn
  refine okG F sc__law_words_right (fun h => ?_) (fun cdv A outer s H vs Q E hq hr h => ?_)
  · obtain ⟨a, b, k, rfl, _⟩ := h
    rfl
  · obtain ⟨a, b, k, rfl, ba, bb, k1, k2, q⟩ := h
    refine ⟨_, (pss_cons (ps_set (i := 3) sc__law_words_right.nd rfl (by first | exact Or.inl rfl | exact Or.inr rfl) (pe_lst (pa_cons (callF D_to_word G_to_word (hr.mono (by decide)) (by rfl) (pa_cons (pv 0) (pa_cons (pv 2) pa_nil))) (pa_cons (callF D_to_word G_to_word (hr.mono (by decide)) (by rfl) (pa_cons (pv 1) (pa_cons (pv 2) pa_nil))) pa_nil))))
      (pss_cons (ps_if (pt_cmpR op_ne (pe_callB (call_reprG hq (roomU hr)) (by rfl) T.z_repr (by decide +kernel) (pa_cons (pv 3) pa_nil)) (pe_callB (call_reprG hq (roomU hr)) (by rfl) T.z_repr (by decide +kernel) (pa_cons (pe_lst (pa_cons (callF D__law_word_due G__law_word_due (hr.mono (by decide)) (by rfl) (pa_cons (pv 0) (pa_cons (pv 2) pa_nil))) (pa_cons (callF D__law_word_due G__law_word_due (hr.mono (by decide)) (by rfl) (pa_cons (pv 1) (pa_cons (pv 2) pa_nil))) pa_nil))) pa_nil)) (nomark _))
       (pss_one (ps_ret pe_bl))
       pss_nil)
      (pss_cons (ps_if (pt_cmpR op_ne (callF D_to_word G_to_word (hr.mono (by decide)) (by rfl) (pa_cons (pe_op op_add (pv 0) (pv 1)) (pa_cons (pv 2) pa_nil))) (callF D_to_word G_to_word (hr.mono (by decide)) (by rfl) (pa_cons (pe_op op_add (pe_ix ix_list (pv 3) pe_int (fun _ _ => rfl)) (pe_ix ix_list (pv 3) pe_int (fun _ _ => rfl))) (pa_cons (pv 2) pa_nil))) (nomark _))
       (pss_one (ps_ret pe_bl))
       pss_nil)
      (pss_cons (ps_if (pt_cmpR op_ne (callF D_to_word G_to_word (hr.mono (by decide)) (by rfl) (pa_cons (pe_op op_mulW (pe_ix ix_list (pv 3) pe_int (fun _ _ => rfl)) (pv 1)) (pa_cons (pv 2) pa_nil))) (callF D_to_word G_to_word (hr.mono (by decide)) (by rfl) (pa_cons (pe_op op_mulW (pe_ix ix_list (pv 3) pe_int (fun _ _ => rfl)) (pe_ix ix_list (pv 3) pe_int (fun _ _ => rfl))) (pa_cons (pv 2) pa_nil))) (nomark _))
       (pss_one (ps_ret pe_bl))
       pss_nil)
      (pss_cons (ps_if (pt_cmpR op_ne (callF D_to_word G_to_word (hr.mono (by decide)) (by rfl) (pa_cons (pe_un un_neg (pv 0)) (pa_cons (pv 2) pa_nil))) (callF D_to_word G_to_word (hr.mono (by decide)) (by rfl) (pa_cons (pe_un un_neg (pe_ix ix_list (pv 3) pe_int (fun _ _ => rfl))) (pa_cons (pv 2) pa_nil))) (nomark _))
       (pss_one (ps_ret pe_bl))
       pss_nil)
      (pss_cons (ps_set (i := 4) sc__law_words_right.nd rfl (by first | exact Or.inl rfl | exact Or.inr rfl) (pe_op op_sub (pe_op op_mulW (pe_op op_mulW (pe_op op_powW (pe_op op_powW pe_int pe_int) pe_int) (pe_op op_powW pe_int pe_int)) (pe_op op_add pe_int (pe_op op_mod (pe_callB abs_1 (by rfl) T.z_abs (by decide +kernel) (pa_cons (pv 1) pa_nil)) pe_int))) (pe_op op_mod (pv 0) pe_int)))
      (pss_cons (ps_set (i := 5) sc__law_words_right.nd rfl (by first | exact Or.inl rfl | exact Or.inr rfl) (pe_lst (pa_cons (callF D__law_word_due G__law_word_due (hr.mono (by decide)) (by rfl) (pa_cons (pv 4) (pa_cons (pv 2) pa_nil))) (pa_cons (callF D__law_word_due G__law_word_due (hr.mono (by decide)) (by rfl) (pa_cons (pe_un un_neg (pv 4)) (pa_cons (pv 2) pa_nil))) pa_nil))))
      (pss_one (ps_ret (pe_cmpR (op_eqD hr.units) (pe_lst (pa_cons (callF D_to_word G_to_word (hr.mono (by decide)) (by rfl) (pa_cons (pv 4) (pa_cons (pv 2) pa_nil))) (pa_cons (callF D_to_word G_to_word (hr.mono (by decide)) (by rfl) (pa_cons (pe_un un_neg (pv 4)) (pa_cons (pv 2) pa_nil))) pa_nil))) (pv 5) (nomark _))))))))))), ?_⟩
    obtain ⟨wa0, wa1⟩ := mods (v := a) (k := k.toNat)
    obtain ⟨wb0, wb1⟩ := mods (v := b) (k := k.toNat)
    have la := log2_word wa0 wa1 k2
    have lb := log2_word wb0 wb1 k2
    have b65 : ∀ {x : Int}, 0 ≤ x → x < 2 ^ k.toNat → Bd 65 x := fun h0 h1 => Bd.of h0 (Int.lt_of_lt_of_le h1 (Int.le_trans (lt_2_64 k2) (by decide)))
    walk_at "rd"
    refine ⟨a, k, rfl, k1, k2, ?_⟩
    walk_at "rd"
    refine ⟨b, k, rfl, k1, k2, ?_⟩
    walk_at "rd"
    refine rd_new (by show 2 ≤ 1000; decide) fun p H1 n1 => ?_
    have hp := n1.here
    walk_at "rd"
    have sh : Shows (.list ([a % 2 ^ k.toNat, b % 2 ^ k.toNat].map PyData.int)) := shows_ints (by show 2 ≤ 1000; decide) (fun n hn => by
      simp only [List.mem_cons, List.not_mem_nil, or_false] at hn
      rcases hn with rfl | rfl
      · exact la
      · exact lb)
    refine rd_repr (.lst (SqL.of hp) (dp_ints [_, _])) sh ?_
    walk_at "rd"
    refine ⟨a, k, rfl, ba.mono (by decide), k1, k2, ?_⟩
    walk_at "rd"
    refine ⟨b, k, rfl, bb.mono (by decide), k1, k2, ?_⟩
    walk_at "rd"
    refine rd_new (by show 2 ≤ 1000; decide) fun p2 H2 n2 => ?_
    walk_at "rd"
    refine rd_repr (.lst (SqL.of n2.here) (dp_ints [_, _])) sh ?_
    walk_at "rd"
    refine rd_noN rfl ?_
    have hp := n2.same _ _ hp
    walk_at "rd"
    refine ⟨_, k, rfl, k1, k2, ?_⟩
    walk_at "rd"
    refine ⟨_, k, rfl, k1, k2, ?_⟩
    walk_at "rd"
    refine rd_noN (congrArg V.int (Int.add_emod a b _)) ?_
    have c1 : CMulW (a % 2 ^ k.toNat) b := (b65 wa0 wa1).mulOk bb (by decide)
    have c2 : CMulW (a % 2 ^ k.toNat) (b % 2 ^ k.toNat) := (b65 wa0 wa1).mulOk (b65 wb0 wb1) (by decide)
    walk_at "rd"
    refine ⟨_, k, rfl, k1, k2, ?_⟩
    walk_at "rd"
    refine ⟨_, k, rfl, k1, k2, ?_⟩
    walk_at "rd"
    refine rd_noN (congrArg V.int (mul_mods a b _)) ?_
    walk_at "rd"
    refine ⟨_, k, rfl, k1, k2, ?_⟩
    walk_at "rd"
    refine ⟨_, k, rfl, k1, k2, ?_⟩
    walk_at "rd"
    refine rd_noN (congrArg V.int (neg_mods a _)) ?_
    walk_at "rd"
    have bC : Bd 1330 (((10 : Int) ^ (64 : Int).toNat) ^ (6 : Int).toNat * 10 ^ (14 : Int).toNat) := by
      unfold Bd
      decide +kernel
    generalize ((10 : Int) ^ (64 : Int).toNat) ^ (6 : Int).toNat * 10 ^ (14 : Int).toNat = C at bC
    have bx : Bd 8 (1 + (if b < 0 then -b else b) % 99) := Bd.of (by omega) (by omega)
    have cC := bC.mulOk bx (by decide)
    walk_at "rd"
    have bf : Bd 1340 (C * (1 + (if b < 0 then -b else b) % 99) - a % 1000) := ((bC.mul bx).sub ((Bd.of (B := 10) (by omega) (by omega)).mono (by decide))).mono (by decide)
    generalize C * (1 + (if b < 0 then -b else b) % 99) - a % 1000 = far at bf
    obtain ⟨wf0, wf1⟩ := mods (v := far) (k := k.toNat)
    obtain ⟨wg0, wg1⟩ := mods (v := -far) (k := k.toNat)
    have lf := log2_word wf0 wf1 k2
    have lg := log2_word wg0 wg1 k2
    refine ⟨_, k, rfl, bf.mono (by decide), k1, k2, ?_⟩
    walk_at "rd"
    refine ⟨_, k, rfl, bf.neg.mono (by decide), k1, k2, ?_⟩
    walk_at "rd"
    refine rd_new (by show 2 ≤ 1000; decide) fun p3 H3 n3 => ?_
    walk_at "rd"
    refine ⟨_, k, rfl, k1, k2, ?_⟩
    walk_at "rd"
    refine ⟨_, k, rfl, k1, k2, ?_⟩
    walk_at "rd"
    refine rd_new (by show 2 ≤ 1000; decide) fun p4 H4 n4 => ?_
    walk_at "rd"
    have sh2 : Shows (.list ([far % 2 ^ k.toNat, (-far) % 2 ^ k.toNat].map PyData.int)) := shows_ints (by show 2 ≤ 1000; decide) (fun n hn => by
      simp only [List.mem_cons, List.not_mem_nil, or_false] at hn
      rcases hn with rfl | rfl
      · exact lf
      · exact lg)
    refine rd_eqSame (.lst (SqL.of n4.here) (dp_ints [_, _])) (.lst (SqL.of (n4.same _ _ n3.here)) (dp_ints [_, _])) sh2 ?_
    exact q H4 (n1.same.trans (n2.same.trans (n3.same.trans n4.same)))
theorem half_pow {k : Int} (k1 : 1 ≤ k) : (2 : Int) ^ k.toNat = 2 * 2 ^ (k - 1).toNat := by
  rw [show k.toNat = (k - 1).toNat + 1 by omega, Int.pow_succ]
  exact Int.mul_comm _ _
theorem ok_signs (T : Top mg) (D_greatest_word : Df K mg "greatest_word" s_greatest_word ["width"] f1 fd1) (D_to_word : Df K mg "to_word" s_to_word ["number", "width"] f2 fd2)
    (D_signed_value : Df K mg "signed_value" s_signed_value ["word", "width"] f3 fd3) (F : Fun K "_law_signed_right" "_law_signed_right" s__law_signed_right f fd) :
    GOk P w K mg base 3 f fd ["_law_word_here", "_law_width_here"] sp_signs := by
  have G_to_word : FnOk P w K mg base CX0 2 f2 fd2 _ sp_toword := ok_toword T D_greatest_word D_to_word.fn
  have G_signed_value : FnOk P w K mg base CX0 1 f3 fd3 _ sp_signed := ok_signed T D_signed_value.fn
  refine okG F sc__law_signed_right (fun h => ?_) (fun cdv A outer s H vs Q E hq hr h => ?_)
  · obtain ⟨a, k, rfl, _⟩ := h
    rfl
  · obtain ⟨x, k, rfl, x0, x1, k1, k2, q⟩ := h
    refine ⟨_, (pss_cons (ps_par (i := 2) (j := 3) (by rfl) sc__law_signed_right.nd rfl rfl (by decide) rfl rfl (pa_cons (pe_op op_shl pe_int (pe_op op_sub (pv 1) pe_int)) (pa_cons (callF D_signed_value G_signed_value (hr.mono (by decide)) (by rfl) (pa_cons (pv 0) (pa_cons (pv 1) pa_nil))) pa_nil)) (by rfl))
      (pss_cons (ps_set (i := 4) sc__law_signed_right.nd rfl (by first | exact Or.inl rfl | exact Or.inr rfl) (pe_ifExp (pt_cmpR op_lt (pv 0) (pv 2) (nomark _)) (pv 0) (pe_op op_sub (pv 0) (pe_op op_mulW pe_int (pv 2)))))
      (pss_cons (ps_if (PW.pt (pw_or (pt_cmpR op_ne (pe_callB (call_reprG hq (roomU hr)) (by rfl) T.z_repr (by decide +kernel) (pa_cons (pe_lst (pa_cons (pv 3) (pa_cons (callF D_signed_value G_signed_value (hr.mono (by decide)) (by rfl) (pa_cons (pv 0) (pa_cons (pv 1) pa_nil))) pa_nil))) pa_nil)) (pe_callB (call_reprG hq (roomU hr)) (by rfl) T.z_repr (by decide +kernel) (pa_cons (pe_lst (pa_cons (pv 4) (pa_cons (pv 4) pa_nil))) pa_nil)) (nomark _)) (pw_or1 (pt_cmpR op_ne (callF D_to_word G_to_word (hr.mono (by decide)) (by rfl) (pa_cons (pv 3) (pa_cons (pv 1) pa_nil))) (pv 0) (nomark _)))))
       (pss_one (ps_ret pe_bl))
       pss_nil)
      (pss_one (ps_ret (pe_and (pe_chain op_le op_lt (pe_un un_neg (pv 2)) (pv 3) (pv 2)) (pe_one (pe_cmpR op_eq (pe_cmpR op_lt (pv 3) pe_int (nomark _)) (pe_cmpR op_ge (pv 0) (pv 2) (nomark _)) (nomark _))))))))), ?_⟩
    have hp := pow_pos2 (k - 1).toNat
    have hh := half_pow k1
    have lx := log2_word x0 x1 k2
    walk_at "rd"
    refine ⟨x, k, rfl, k1, k2, x0, ?_⟩
    walk_at "rd"
    -- the due value
    have fin : ∀ v : Int, v = (if x < 2 ^ (k - 1).toNat then x else x - 2 ^ k.toNat) → v.natAbs.log2 < 1920 ∧ v % 2 ^ k.toNat = x ∧ -(1 * 2 ^ (k - 1).toNat) ≤ v ∧ v < 1 * 2 ^ (k - 1).toNat ∧ decide (v < 0) = decide (1 * 2 ^ (k - 1).toNat ≤ x) := by
      intro v hv
      have h64 := lt_2_64 k2
      have bv : Bd 65 v := by
        unfold Bd
        have e : (2 : Nat) ^ 65 = 36893488147419103232 := by decide
        rw [e]
        have e2 : (2 : Int) ^ 64 = 18446744073709551616 := by decide
        rw [e2] at h64
        rw [hv]
        split <;> omega
      refine ⟨Nat.lt_of_lt_of_le (PySem.Flt.log2_lt_of (by decide) bv) (by decide), ?_⟩
      rw [hv]
      by_cases c : x < 2 ^ (k - 1).toNat
      · rw [if_pos c]
        refine ⟨Int.emod_eq_of_lt x0 x1, by omega, by omega, ?_⟩
        rw [decide_eq_false (by omega), decide_eq_false (by omega)]
      · rw [if_neg c]
        refine ⟨?_, by omega, by omega, ?_⟩
        · rw [Int.sub_emod_right, Int.emod_eq_of_lt x0 x1]
        · rw [decide_eq_true (by omega), decide_eq_true (by omega)]
    have go : ∀ v : Int, v = (if x < 2 ^ (k - 1).toNat then x else x - 2 ^ k.toNat) → Shows (.list ([v, v].map PyData.int)) := fun v hv => shows_ints (by show 2 ≤ 1000; decide) (fun n hn => by
      simp only [List.mem_cons, List.not_mem_nil, or_false] at hn
      rcases hn with rfl | rfl <;> exact (fin _ hv).1)
    refine rd_dec (fun c => ?_) fun c => ?_
    · have c' : x < 2 ^ (k - 1).toNat := by omega
      have ev : x = (if x < 2 ^ (k - 1).toNat then x else x - 2 ^ k.toNat) := (if_pos c').symm
      rw [if_pos c']
      obtain ⟨f1', f2', f3', f4', f5'⟩ := fin x ev
      have sh := go x ev
      walk_at "rd"
      refine ⟨x, k, rfl, k1, k2, x0, ?_⟩
      rw [if_pos c']
      walk_at "rd"
      refine rd_new (by show 2 ≤ 1000; decide) fun p1 H1 n1 => ?_
      walk_at "rd"
      refine rd_repr (.lst (SqL.of n1.here) (dp_ints [_, _])) sh ?_
      walk_at "rd"
      refine rd_new (by show 2 ≤ 1000; decide) fun p2 H2 n2 => ?_
      walk_at "rd"
      refine rd_repr (.lst (SqL.of n2.here) (dp_ints [_, _])) sh ?_
      walk_at "rd"
      refine rd_noN rfl ?_
      walk_at "rd"
      refine ⟨_, k, rfl, k1, k2, ?_⟩
      walk_at "rd"
      refine rd_noN (congrArg V.int f2') ?_
      walk_at "rd"
      refine rd_yes f3' ?_
      walk_at "rd"
      refine rd_yes f4' ?_
      walk_at "rd"
      refine (congrArg (fun b => Q (.bl b) H2) (decide_eq_true (congrArg V.bl f5'))).mpr ?_
      exact q H2 (n1.same.trans n2.same)
    · have c' : ¬ x < 2 ^ (k - 1).toNat := by omega
      have ev : x - 2 ^ k.toNat = (if x < 2 ^ (k - 1).toNat then x else x - 2 ^ k.toNat) := (if_neg c').symm
      have cm : CMulW 2 (1 * 2 ^ (k - 1).toNat) := Bd.mulOk (A := 3) (B := 65) (Bd.of (by decide) (by decide)) (Bd.of (by omega) (by have := lt_2_64 k2; omega)) (by decide)
      have e2 : x - 2 * (1 * 2 ^ (k - 1).toNat) = x - 2 ^ k.toNat := by omega
      rw [if_neg c']
      obtain ⟨f1', f2', f3', f4', f5'⟩ := fin (x - 2 ^ k.toNat) ev
      have sh := go (x - 2 ^ k.toNat) ev
      walk_at "rd"
      refine ⟨x, k, rfl, k1, k2, x0, ?_⟩
      rw [if_neg c']
      walk_at "rd"
      refine rd_new (by show 2 ≤ 1000; decide) fun p1 H1 n1 => ?_
      walk_at "rd"
      refine rd_repr (.lst (SqL.of n1.here) (dp_ints [_, _])) sh ?_
      walk_at "rd"
      refine rd_new (by show 2 ≤ 1000; decide) fun p2 H2 n2 => ?_
      walk_at "rd"
      rw [e2] at n2
      refine rd_repr (.lst (SqL.of n2.here) (dp_ints [_, _])) sh ?_
      walk_at "rd"
      refine rd_noN rfl ?_
      walk_at "rd"
      refine ⟨_, k, rfl, k1, k2, ?_⟩
      walk_at "rd"
      refine rd_noN (congrArg V.int f2') ?_
      walk_at "rd"
      refine rd_yes f3' ?_
      walk_at "rd"
      refine rd_yes f4' ?_
      walk_at "rd"
      refine (congrArg (fun b => Q (.bl b) H2) (decide_eq_true (congrArg V.bl f5'))).mpr ?_
      exact q H2 (n1.same.trans n2.same)
end
def sp_law (K : PySem.W.Frag) : Sp := fun vs H Q _ => ∃ (a : Addr) (ns : List Int), vs = [.ref a] ∧ SqL K H a (ns.map V.int) ∧ ns.length ≤ 63 ∧ ∀ H', Q (.bl true) H'
section
variable {P : Program} {w : World} {K : PySem.W.Frag} {mg : Str → Option Value} {base : Heap} {f a1 a2 a3 a4 a5 a6 a7 a8 a9 a10 a11 : Addr} {fd b1 b2 b3 b4 b5 b6 b7 b8 b9 b10 b11 : FuncData}
theorem ok_law (T : Top mg) (D_greatest_word : Df K mg "greatest_word" s_greatest_word ["width"] a1 b1) (D_to_word : Df K mg "to_word" s_to_word ["number", "width"] a2 b2) (D_signed_value : Df K mg "signed_value" s_signed_value ["word", "width"] a3 b3)
    (D__law_draws : Df K mg "_law_draws" s__law_draws ["_law_script"] a4 b4) (D__law_next : Df K mg "_law_next" s__law_next ["_law_drawn", "_law_many"] a5 b5) (D__law_one : Df K mg "_law_one" s__law_one ["_law_drawn", "_law_items"] a6 b6)
    (D__law_width : Df K mg "_law_width" s__law_width ["_law_drawn"] a7 b7) (D__law_word : Df K mg "_law_word" s__law_word ["_law_drawn", "_law_width_here"] a8 b8) (D__law_integer : Df K mg "_law_integer" s__law_integer ["_law_drawn", "_law_width_here"] a9 b9)
    (D__law_word_due : Df K mg "_law_word_due" s__law_word_due ["_law_number", "_law_width_here"] a10 b10)
    {a12 : Addr} {b12 : FuncData} (D__law_words_right : Df K mg "_law_words_right" s__law_words_right ["_law_one_here", "_law_other", "_law_width_here"] a11 b11) (D__law_signed_right : Df K mg "_law_signed_right" s__law_signed_right ["_law_word_here", "_law_width_here"] a12 b12)
    (F : Fun K "law" "law" s_law f fd) : GOk P w K mg base 4 f fd ["_law_script"] (sp_law K) := by
  have G__law_draws : FnOk P w K mg base CX0 1 a4 b4 _ (sp_draws K) := ok_draws T D__law_draws.fn
  have G__law_width : FnOk P w K mg base CX0 3 a7 b7 _ sp_width := ok_width T D__law_next D__law_one D__law_width.fn
  have G__law_word : FnOk P w K mg base CX0 3 a8 b8 _ sp_word := ok_word T D__law_next D__law_one D__law_word.fn
  have G__law_integer : FnOk P w K mg base CX0 3 a9 b9 _ sp_integer := ok_integer T D__law_next D__law_one D__law_integer.fn
  have G__law_words_right : GOk P w K mg base 3 a11 b11 _ sp_words := ok_words T D_greatest_word D_to_word D__law_word_due D__law_words_right.fn
  have G__law_signed_right : GOk P w K mg base 3 a12 b12 _ sp_signs := ok_signs T D_greatest_word D_to_word D_signed_value D__law_signed_right.fn
  refine okG F sc_law (fun h => ?_) (fun cdv A outer s H vs Q E hq hr h => ?_)
  · obtain ⟨a, ns, rfl, _⟩ := h
    rfl
  · obtain ⟨a, ns, rfl, hS, hn, q⟩ := h
    refine ⟨_, (pss_cons (ps_set (i := 1) sc_law.nd rfl (by first | exact Or.inl rfl | exact Or.inr rfl) (callF D__law_draws G__law_draws (hr.mono (by decide)) (by rfl) (pa_cons (pv 0) pa_nil)))
      (pss_cons (ps_for PassesOwn.never rfl (pi_list (pe_op op_cat (pe_lst (pa_cons pe_int (pa_cons pe_int (pa_cons pe_int (pa_cons pe_int (pa_cons pe_int (pa_cons pe_int pa_nil))))))) (pe_lc (own := [("_law_turn", 3)]) (g := _) (tt := tYes) (by rfl) sc_law.nd (pi_range1 (by rfl) T.z_range (pa_cons pe_int pa_nil)) (blkOk_by (own := [("_law_turn", 3)]) (N := n_law) (sc := defScope s_law) (by decide +kernel)) (fun _ _ _ _ _ => (pg_name (i := 3) sc_law.nd rfl (by first | exact Or.inl rfl | exact Or.inr rfl))) (fun _ _ _ _ _ => pts_nil) (fun _ _ _ _ _ => (callF D__law_width G__law_width (hr.mono (by decide)) (by rfl) (pa_cons (pv 1) pa_nil)))))) (pg_name (i := 2) sc_law.nd rfl (by first | exact Or.inl rfl | exact Or.inr rfl))
       (pss_cons (ps_for PassesOwn.never rfl (pi_range1 (by rfl) T.z_range (pa_cons pe_int pa_nil)) (pg_name (i := 3) sc_law.nd rfl (by first | exact Or.inl rfl | exact Or.inr rfl))
         (pss_one (ps_if (pt_not (pt_val (callG D__law_words_right G__law_words_right (hr.mono (by decide)) hq (by rfl) (pa_cons (callF D__law_integer G__law_integer (hr.mono (by decide)) (by rfl) (pa_cons (pv 1) (pa_cons (pv 2) pa_nil))) (pa_cons (callF D__law_integer G__law_integer (hr.mono (by decide)) (by rfl) (pa_cons (pv 1) (pa_cons (pv 2) pa_nil))) (pa_cons (pv 2) pa_nil))))))
           (pss_one (ps_ret pe_bl))
           pss_nil)))
        (pss_cons (ps_par (i := 4) (j := 5) (by rfl) sc_law.nd rfl rfl (by decide) rfl rfl (pa_cons (pe_op op_shl pe_int (pe_op op_sub (pv 2) pe_int)) (pa_cons (pe_op op_sub (pe_op op_shl pe_int (pv 2)) pe_int) pa_nil)) (by rfl))
        (pss_one (ps_for PassesOwn.never rfl (pi_list (pe_lst (pa_cons pe_int (pa_cons (pe_op op_sub (pv 4) pe_int) (pa_cons (pv 4) (pa_cons (pv 5) (pa_cons (callF D__law_word G__law_word (hr.mono (by decide)) (by rfl) (pa_cons (pv 1) (pa_cons (pv 2) pa_nil))) (pa_cons (callF D__law_word G__law_word (hr.mono (by decide)) (by rfl) (pa_cons (pv 1) (pa_cons (pv 2) pa_nil))) pa_nil)))))))) (pg_name (i := 6) sc_law.nd rfl (by first | exact Or.inl rfl | exact Or.inr rfl))
         (pss_one (ps_if (pt_not (pt_val (callG D__law_signed_right G__law_signed_right (hr.mono (by decide)) hq (by rfl) (pa_cons (pv 6) (pa_cons (pv 2) pa_nil)))))
           (pss_one (ps_ret pe_bl))
           pss_nil)))))))
      (pss_one (ps_ret pe_bl)))), ?_⟩
    walk_at "rd"
    refine ⟨a, ns, rfl, hS, hn, fun H1 d r c _ _ D1 s1 => ?_⟩
    walk_at "rd"
    refine rd_new (by show 6 ≤ 1000; decide) fun p H2 n2 => ?_
    walk_at "rd"
    have D2 := D1.same n2.same
    refine rd_lcR (m := 6) (fun i H' => Dr H' d r c ((2 * i : Nat) : Int) ∧ Fr d r H2 H') (fun y => ∃ z : Int, y = .int z ∧ 1 ≤ z ∧ z ≤ 64) (by decide) (fun R h => h) (fun D H3 n3 => ⟨D2.same n3.same, Fr.of n3.same⟩)
      (fun D i H3 xs nD h _ => ⟨h.1.upd (D2.off nD).1 (D2.off nD).2 (D2.offc nD), h.2.upd nD⟩) (fun D i H3 ys R nD hi h hD go => ?_) (fun D H3 ys nD hD hl hS h => ?_)
    · walk_at "rd"
      refine ⟨rfl, ?_⟩
      walk_at "rd"
      refine ⟨d, r, c, ((2 * i : Nat) : Int), rfl, h.1, by omega, fun H4 v v0 v1 D4 F4 => ?_⟩
      refine go _ H4 ⟨v, rfl, v0, v1⟩ ⟨?_, h.2.trans F4⟩ ?_
      · rw [show ((2 * (i + 1) : Nat) : Int) = ((2 * i : Nat) : Int) + 2 by omega]
        exact D4
      · exact F4 _ _ (D2.off nD).1 (D2.off nD).2 hD
    · have o2 := D1.off n2.free
      have hp := h.2 _ _ o2.1 o2.2 n2.here
      refine rd_cat hp hD (by rw [hl]; show 6 + 6 ≤ 1000; decide) fun p4 H4 n4 => ?_
      walk_at "rd"
      have o4 := h.1.off n4.free
      have hW : ∀ x ∈ ([V.int 1, V.int 2, V.int 3, V.int 8, V.int 63, V.int 64] ++ ys), ∃ z : Int, x = .int z ∧ 1 ≤ z ∧ z ≤ 64 := by
        intro x hx
        rcases List.mem_append.mp hx with hx | hx
        · simp only [List.mem_cons, List.not_mem_nil, or_false] at hx
          rcases hx with h | h | h | h | h | h <;> exact ⟨_, h, by decide, by decide⟩
        · exact hS x hx
      have hL : ([V.int 1, V.int 2, V.int 3, V.int 8, V.int 63, V.int 64] ++ ys).length = 12 := by
        rw [List.length_append, hl]
        rfl
      generalize [V.int 1, V.int 2, V.int 3, V.int 8, V.int 63, V.int 64] ++ ys = L at hW hL n4
      refine rd_forL (SqL.of n4.here) (fun i σ H' => ∃ x2 x3 x4 x5 x6, ∃ t : Int, σ = [some (.ref a), some (.ref d), x2, x3, x4, x5, x6] ∧ t ≤ 100 + 100 * i ∧ Dr H' d r c t ∧ Fr d r H4 H')
        ⟨none, none, none, none, none, 12, rfl, by omega, h.1.same n4.same, Fr.refl⟩ ?_ ?_ ?_
      · rintro i σ H' _ ⟨x2, x3, x4, x5, x6, t, rfl, ht, D', F'⟩
        exact SqL.of (F' _ _ o4.1 o4.2 n4.here)
      · rintro i x σ H5 hx ⟨x2, x3, x4, x5, x6, t, rfl, ht, D5, F5⟩
        have hi : i < 12 := by
          have := (List.getElem?_eq_some_iff.mp hx).1
          omega
        obtain ⟨z, rfl, z1, z2⟩ := hW x (List.mem_of_getElem? hx)
        walk_at "rd"
        refine rd_forR (m := 6) (by decide) (fun j σ H' => ∃ x3, ∃ t' : Int, σ = [some (.ref a), some (.ref d), some (.int z), x3, x4, x5, x6] ∧ t' ≤ t + 8 * j ∧ Dr H' d r c t' ∧ Fr d r H4 H') ⟨x3, t, rfl, by omega, D5, F5⟩ ?_ ?_
        · rintro j σ H6 hj ⟨x3', t', rfl, ht', D6, F6⟩
          walk_at "rd"
          refine ⟨d, r, c, t', z, rfl, D6, by omega, z1, z2, fun H7 v bv D7 F7 => ?_⟩
          walk_at "rd"
          refine ⟨d, r, c, t' + 4, z, rfl, D7, by omega, z1, z2, fun H8 u bu D8 F8 => ?_⟩
          walk_at "rd"
          refine ⟨v, u, z, rfl, bv, bu, z1, z2, fun H9 s9 => ?_⟩
          walk_at "rd"
          exact ⟨_, t' + 4 + 4, rfl, by omega, D8.same s9, F6.trans (F7.trans (F8.trans (Fr.of s9)))⟩
        · rintro σ H6 ⟨x3', t', rfl, ht', D6, F6⟩
          have hp2 := pow_pos2 (z - 1).toNat
          have hh := half_pow z1
          walk_at "rd"
          refine ⟨d, r, c, t', z, rfl, D6, by omega, z1, z2, fun H7 v v0 v1 D7 F7 => ?_⟩
          walk_at "rd"
          refine ⟨d, r, c, t' + 4, z, rfl, D7, by omega, z1, z2, fun H8 u u0 u1 D8 F8 => ?_⟩
          walk_at "rd"
          refine rd_new (by show 6 ≤ 1000; decide) fun p9 H9 n9 => ?_
          have o9 := D8.off n9.free
          have D9 := D8.same n9.same
          refine rd_forL (SqL.of n9.here) (fun j σ H' => ∃ x6, σ = [some (.ref a), some (.ref d), some (.int z), x3', some (.int (1 * 2 ^ (z - 1).toNat)), some (.int (1 * 2 ^ z.toNat - 1)), x6] ∧ Dr H' d r c (t' + 4 + 4) ∧ Fr d r H9 H')
            ⟨_, rfl, D9, Fr.refl⟩ ?_ ?_ ?_
          · rintro j σ H' _ ⟨y6, rfl, D', F'⟩
            exact SqL.of (F' _ _ o9.1 o9.2 n9.here)
          · rintro j x σ H10 hx ⟨y6, rfl, D10, F10⟩
            obtain ⟨y, rfl, y0, y1⟩ : ∃ y : Int, x = .int y ∧ 0 ≤ y ∧ y < 2 ^ z.toNat := by
              have hm := List.mem_of_getElem? hx
              simp only [List.mem_cons, List.not_mem_nil, or_false] at hm
              rcases hm with h | h | h | h | h | h
              · exact ⟨_, h, by omega, by omega⟩
              · exact ⟨_, h, by omega, by omega⟩
              · exact ⟨_, h, by omega, by omega⟩
              · exact ⟨_, h, by omega, by omega⟩
              · exact ⟨_, h, v0, v1⟩
              · exact ⟨_, h, u0, u1⟩
            walk_at "rd"
            refine ⟨y, z, rfl, y0, y1, z1, z2, fun H11 s11 => ?_⟩
            walk_at "rd"
            exact ⟨_, rfl, D10.same s11, F10.trans (Fr.of s11)⟩
          · rintro σ H' ⟨y6, rfl, D', F'⟩
            exact ⟨_, _, _, _, _, t' + 4 + 4, rfl, by omega, D', F6.trans (F7.trans (F8.trans ((Fr.of n9.same).trans F')))⟩
      · rintro σ H' ⟨x2, x3, x4, x5, x6, t, rfl, ht, D', F'⟩
        walk_at "rd"
        exact q H'
end
/-! ### what the top has written -/
theorem all_mk {l : PySem.W.OpenLaw} {w : World} {K : PySem.W.Frag} {h : Heap} {mg : Str → Option Value} {fa f0 f1 f2 f3 f4 f5 f6 f7 f8 f9 f10 f11 f12 : Addr} (X : K.In h) (G : h.Ns mainGlobals mg) (hfa : mg "law" = some (.ref fa))
    {od0 od1 od2 od3 od4 od5 od6 od7 od8 od9 od10 od11 od12 an0 an1 an2 an3 an4 an5 an6 an7 an8 an9 an10 an11 an12 : Option Addr} {sl0 sl1 sl2 sl3 sl4 sl5 sl6 sl7 sl8 sl9 sl10 sl11 sl12 : Array (Option Value)} {oc0 oc1 oc2 oc3 oc4 oc5 oc6 oc7 oc8 oc9 oc10 oc11 oc12 kV0 kV1 kV2 kV3 kV4 kV5 kV6 kV7 kV8 kV9 kV10 kV11 kV12 dc0 dc1 dc2 dc3 dc4 dc5 dc6 dc7 dc8 dc9 dc10 dc11 dc12 pm0 pm1 pm2 pm3 pm4 pm5 pm6 pm7 pm8 pm9 pm10 pm11 pm12 cd0 cd1 cd2 cd3 cd4 cd5 cd6 cd7 cd8 cd9 cd10 cd11 cd12 ct0 ct1 ct2 ct3 ct4 ct5 ct6 ct7 ct8 ct9 ct10 ct11 ct12 : Value}
    (a0 : PySem.W.nsIn K mainGlobals "greatest_word" = some (some (.ref f0)))
    (l0 : K.lookup f0 = some ⟨oc0, od0, .func (PySem.W.fnOf "greatest_word" "greatest_word" (defArgs s_greatest_word) (defBody s_greatest_word) (defScope s_greatest_word) .none kV0 dc0 pm0 an0 cd0 ct0), sl0⟩)
    (c0 : PySem.W.codeIn K cd0 "greatest_word" = true) (k0 : PySem.W.keepIn K (.ref f0) = true)
    (a1 : PySem.W.nsIn K mainGlobals "to_word" = some (some (.ref f1)))
    (l1 : K.lookup f1 = some ⟨oc1, od1, .func (PySem.W.fnOf "to_word" "to_word" (defArgs s_to_word) (defBody s_to_word) (defScope s_to_word) .none kV1 dc1 pm1 an1 cd1 ct1), sl1⟩)
    (c1 : PySem.W.codeIn K cd1 "to_word" = true) (k1 : PySem.W.keepIn K (.ref f1) = true)
    (a2 : PySem.W.nsIn K mainGlobals "signed_value" = some (some (.ref f2)))
    (l2 : K.lookup f2 = some ⟨oc2, od2, .func (PySem.W.fnOf "signed_value" "signed_value" (defArgs s_signed_value) (defBody s_signed_value) (defScope s_signed_value) .none kV2 dc2 pm2 an2 cd2 ct2), sl2⟩)
    (c2 : PySem.W.codeIn K cd2 "signed_value" = true) (k2 : PySem.W.keepIn K (.ref f2) = true)
    (a3 : PySem.W.nsIn K mainGlobals "_law_draws" = some (some (.ref f3)))
    (l3 : K.lookup f3 = some ⟨oc3, od3, .func (PySem.W.fnOf "_law_draws" "_law_draws" (defArgs s__law_draws) (defBody s__law_draws) (defScope s__law_draws) .none kV3 dc3 pm3 an3 cd3 ct3), sl3⟩)
    (c3 : PySem.W.codeIn K cd3 "_law_draws" = true) (k3 : PySem.W.keepIn K (.ref f3) = true)
    (a4 : PySem.W.nsIn K mainGlobals "_law_next" = some (some (.ref f4)))
    (l4 : K.lookup f4 = some ⟨oc4, od4, .func (PySem.W.fnOf "_law_next" "_law_next" (defArgs s__law_next) (defBody s__law_next) (defScope s__law_next) .none kV4 dc4 pm4 an4 cd4 ct4), sl4⟩)
    (c4 : PySem.W.codeIn K cd4 "_law_next" = true) (k4 : PySem.W.keepIn K (.ref f4) = true)
    (a5 : PySem.W.nsIn K mainGlobals "_law_one" = some (some (.ref f5)))
    (l5 : K.lookup f5 = some ⟨oc5, od5, .func (PySem.W.fnOf "_law_one" "_law_one" (defArgs s__law_one) (defBody s__law_one) (defScope s__law_one) .none kV5 dc5 pm5 an5 cd5 ct5), sl5⟩)
    (c5 : PySem.W.codeIn K cd5 "_law_one" = true) (k5 : PySem.W.keepIn K (.ref f5) = true)
    (a6 : PySem.W.nsIn K mainGlobals "_law_width" = some (some (.ref f6)))
    (l6 : K.lookup f6 = some ⟨oc6, od6, .func (PySem.W.fnOf "_law_width" "_law_width" (defArgs s__law_width) (defBody s__law_width) (defScope s__law_width) .none kV6 dc6 pm6 an6 cd6 ct6), sl6⟩)
    (c6 : PySem.W.codeIn K cd6 "_law_width" = true) (k6 : PySem.W.keepIn K (.ref f6) = true)
    (a7 : PySem.W.nsIn K mainGlobals "_law_word" = some (some (.ref f7)))
    (l7 : K.lookup f7 = some ⟨oc7, od7, .func (PySem.W.fnOf "_law_word" "_law_word" (defArgs s__law_word) (defBody s__law_word) (defScope s__law_word) .none kV7 dc7 pm7 an7 cd7 ct7), sl7⟩)
    (c7 : PySem.W.codeIn K cd7 "_law_word" = true) (k7 : PySem.W.keepIn K (.ref f7) = true)
    (a8 : PySem.W.nsIn K mainGlobals "_law_integer" = some (some (.ref f8)))
    (l8 : K.lookup f8 = some ⟨oc8, od8, .func (PySem.W.fnOf "_law_integer" "_law_integer" (defArgs s__law_integer) (defBody s__law_integer) (defScope s__law_integer) .none kV8 dc8 pm8 an8 cd8 ct8), sl8⟩)
    (c8 : PySem.W.codeIn K cd8 "_law_integer" = true) (k8 : PySem.W.keepIn K (.ref f8) = true)
    (a9 : PySem.W.nsIn K mainGlobals "_law_word_due" = some (some (.ref f9)))
    (l9 : K.lookup f9 = some ⟨oc9, od9, .func (PySem.W.fnOf "_law_word_due" "_law_word_due" (defArgs s__law_word_due) (defBody s__law_word_due) (defScope s__law_word_due) .none kV9 dc9 pm9 an9 cd9 ct9), sl9⟩)
    (c9 : PySem.W.codeIn K cd9 "_law_word_due" = true) (k9 : PySem.W.keepIn K (.ref f9) = true)
    (a10 : PySem.W.nsIn K mainGlobals "_law_words_right" = some (some (.ref f10)))
    (l10 : K.lookup f10 = some ⟨oc10, od10, .func (PySem.W.fnOf "_law_words_right" "_law_words_right" (defArgs s__law_words_right) (defBody s__law_words_right) (defScope s__law_words_right) .none kV10 dc10 pm10 an10 cd10 ct10), sl10⟩)
    (c10 : PySem.W.codeIn K cd10 "_law_words_right" = true) (k10 : PySem.W.keepIn K (.ref f10) = true)
    (a11 : PySem.W.nsIn K mainGlobals "_law_signed_right" = some (some (.ref f11)))
    (l11 : K.lookup f11 = some ⟨oc11, od11, .func (PySem.W.fnOf "_law_signed_right" "_law_signed_right" (defArgs s__law_signed_right) (defBody s__law_signed_right) (defScope s__law_signed_right) .none kV11 dc11 pm11 an11 cd11 ct11), sl11⟩)
    (c11 : PySem.W.codeIn K cd11 "_law_signed_right" = true) (k11 : PySem.W.keepIn K (.ref f11) = true)
    (a12 : PySem.W.nsIn K mainGlobals "law" = some (some (.ref f12)))
    (l12 : K.lookup f12 = some ⟨oc12, od12, .func (PySem.W.fnOf "law" "law" (defArgs s_law) (defBody s_law) (defScope s_law) .none kV12 dc12 pm12 an12 cd12 ct12), sl12⟩)
    (c12 : PySem.W.codeIn K cd12 "law" = true) (k12 : PySem.W.keepIn K (.ref f12) = true)
    (z_abs : PySem.W.nsIn K mainGlobals "abs" = some none)
    (z_int : PySem.W.nsIn K mainGlobals "int" = some none)
    (z_len : PySem.W.nsIn K mainGlobals "len" = some none)
    (z_list : PySem.W.nsIn K mainGlobals "list" = some none)
    (z_range : PySem.W.nsIn K mainGlobals "range" = some none)
    (z_repr : PySem.W.nsIn K mainGlobals "repr" = some none)
    : ∃ fd : FuncData, (∀ (s : Shared) (v : Value), BindsTo s fd ⟨[v], []⟩ [("_law_script", v)]) ∧ ∀ base : Heap, K.In base → base.Ns mainGlobals mg → GOk l.prog w K mg base 4 fa fd ["_law_script"] (sp_law K) := by
  have e := hfa.symm.trans (PySem.W.mg_of X G a12)
  cases e
  have T : Top mg := ⟨PySem.W.mg_none_of X G z_abs, PySem.W.mg_none_of X G z_int, PySem.W.mg_none_of X G z_len, PySem.W.mg_none_of X G z_list, PySem.W.mg_none_of X G z_range, PySem.W.mg_none_of X G z_repr⟩
  have F0 := fun_mk (st := s_greatest_word) l0 c0 k0
  have D0 : Df K mg "greatest_word" s_greatest_word ["width"] _ _ := ⟨F0, PySem.W.mg_of X G a0, F0.binds fun _ _ _ _ _ _ us hl => match us, hl with | [_], _ => rfl⟩
  have F1 := fun_mk (st := s_to_word) l1 c1 k1
  have D1 : Df K mg "to_word" s_to_word ["number", "width"] _ _ := ⟨F1, PySem.W.mg_of X G a1, F1.binds fun _ _ _ _ _ _ us hl => match us, hl with | [_, _], _ => rfl⟩
  have F2 := fun_mk (st := s_signed_value) l2 c2 k2
  have D2 : Df K mg "signed_value" s_signed_value ["word", "width"] _ _ := ⟨F2, PySem.W.mg_of X G a2, F2.binds fun _ _ _ _ _ _ us hl => match us, hl with | [_, _], _ => rfl⟩
  have F3 := fun_mk (st := s__law_draws) l3 c3 k3
  have D3 : Df K mg "_law_draws" s__law_draws ["_law_script"] _ _ := ⟨F3, PySem.W.mg_of X G a3, F3.binds fun _ _ _ _ _ _ us hl => match us, hl with | [_], _ => rfl⟩
  have F4 := fun_mk (st := s__law_next) l4 c4 k4
  have D4 : Df K mg "_law_next" s__law_next ["_law_drawn", "_law_many"] _ _ := ⟨F4, PySem.W.mg_of X G a4, F4.binds fun _ _ _ _ _ _ us hl => match us, hl with | [_, _], _ => rfl⟩
  have F5 := fun_mk (st := s__law_one) l5 c5 k5
  have D5 : Df K mg "_law_one" s__law_one ["_law_drawn", "_law_items"] _ _ := ⟨F5, PySem.W.mg_of X G a5, F5.binds fun _ _ _ _ _ _ us hl => match us, hl with | [_, _], _ => rfl⟩
  have F6 := fun_mk (st := s__law_width) l6 c6 k6
  have D6 : Df K mg "_law_width" s__law_width ["_law_drawn"] _ _ := ⟨F6, PySem.W.mg_of X G a6, F6.binds fun _ _ _ _ _ _ us hl => match us, hl with | [_], _ => rfl⟩
  have F7 := fun_mk (st := s__law_word) l7 c7 k7
  have D7 : Df K mg "_law_word" s__law_word ["_law_drawn", "_law_width_here"] _ _ := ⟨F7, PySem.W.mg_of X G a7, F7.binds fun _ _ _ _ _ _ us hl => match us, hl with | [_, _], _ => rfl⟩
  have F8 := fun_mk (st := s__law_integer) l8 c8 k8
  have D8 : Df K mg "_law_integer" s__law_integer ["_law_drawn", "_law_width_here"] _ _ := ⟨F8, PySem.W.mg_of X G a8, F8.binds fun _ _ _ _ _ _ us hl => match us, hl with | [_, _], _ => rfl⟩
  have F9 := fun_mk (st := s__law_word_due) l9 c9 k9
  have D9 : Df K mg "_law_word_due" s__law_word_due ["_law_number", "_law_width_here"] _ _ := ⟨F9, PySem.W.mg_of X G a9, F9.binds fun _ _ _ _ _ _ us hl => match us, hl with | [_, _], _ => rfl⟩
  have F10 := fun_mk (st := s__law_words_right) l10 c10 k10
  have D10 : Df K mg "_law_words_right" s__law_words_right ["_law_one_here", "_law_other", "_law_width_here"] _ _ := ⟨F10, PySem.W.mg_of X G a10, F10.binds fun _ _ _ _ _ _ us hl => match us, hl with | [_, _, _], _ => rfl⟩
  have F11 := fun_mk (st := s__law_signed_right) l11 c11 k11
  have D11 : Df K mg "_law_signed_right" s__law_signed_right ["_law_word_here", "_law_width_here"] _ _ := ⟨F11, PySem.W.mg_of X G a11, F11.binds fun _ _ _ _ _ _ us hl => match us, hl with | [_, _], _ => rfl⟩
  have F12 := fun_mk (st := s_law) l12 c12 k12
  have D12 : Df K mg "law" s_law ["_law_script"] _ _ := ⟨F12, PySem.W.mg_of X G a12, F12.binds fun _ _ _ _ _ _ us hl => match us, hl with | [_], _ => rfl⟩
  refine ⟨PySem.W.fnOf "law" "law" (defArgs s_law) (defBody s_law) (defScope s_law) .none kV12 dc12 pm12 an12 cd12 ct12, fun s v => .of_eq rfl, fun base _ _ => ?_⟩
  exact ok_law T D0 D1 D2 D3 D4 D5 D6 D7 D8 D9 D10 D11 D12.fn
end Lw
open PySem PySem.W PyProof.Rows
set_option maxHeartbeats 0 in
theorem PySem.Challenge.cw_wordsalike_k07_words_and_signed_values_holds : PySem.Challenge.rw_wordsalike_k07_words_and_signed_values.Holds := by
  w_on; o_law; k_head; (case hw => w_witness2)
  k_fill
  refine Glay.walkG (l := PySem.Challenge.rw_wordsalike_k07_words_and_signed_values) (n := 63) (k := 4) (x := "_law_script") (sp := fun w => Lw.sp_law _) rfl (by decide) rfl ⟨rfl, by decide, by decide⟩ (fun w h Y => PySem.W.kIn_of Y) ?F (fun _ _ a ns hl _ hS => ⟨a, ns, rfl, hS, hl, fun _ => rfl⟩)
  case F =>
    intro w mg fa h KX G hmg
    open Lw in
    refine' all_mk KX G hmg ?a0 ?l0 ?c0 ?k0 ?a1 ?l1 ?c1 ?k1 ?a2 ?l2 ?c2 ?k2 ?a3 ?l3 ?c3 ?k3 ?a4 ?l4 ?c4 ?k4 ?a5 ?l5 ?c5 ?k5 ?a6 ?l6 ?c6 ?k6 ?a7 ?l7 ?c7 ?k7 ?a8 ?l8 ?c8 ?k8 ?a9 ?l9 ?c9 ?k9 ?a10 ?l10 ?c10 ?k10 ?a11 ?l11 ?c11 ?k11 ?a12 ?l12 ?c12 ?k12 ?z_abs ?z_int ?z_len ?z_list ?z_range ?z_repr
    (case a0 => k_is)
    (case l0 => k_is)
    (case c0 => k_is)
    (case k0 => k_is)
    (case a1 => k_is)
    (case l1 => k_is)
    (case c1 => k_is)
    (case k1 => k_is)
    (case a2 => k_is)
    (case l2 => k_is)
    (case c2 => k_is)
    (case k2 => k_is)
    (case a3 => k_is)
    (case l3 => k_is)
    (case c3 => k_is)
    (case k3 => k_is)
    (case a4 => k_is)
    (case l4 => k_is)
    (case c4 => k_is)
    (case k4 => k_is)
    (case a5 => k_is)
    (case l5 => k_is)
    (case c5 => k_is)
    (case k5 => k_is)
    (case a6 => k_is)
    (case l6 => k_is)
    (case c6 => k_is)
    (case k6 => k_is)
    (case a7 => k_is)
    (case l7 => k_is)
    (case c7 => k_is)
    (case k7 => k_is)
    (case a8 => k_is)
    (case l8 => k_is)
    (case c8 => k_is)
    (case k8 => k_is)
    (case a9 => k_is)
    (case l9 => k_is)
    (case c9 => k_is)
    (case k9 => k_is)
    (case a10 => k_is)
    (case l10 => k_is)
    (case c10 => k_is)
    (case k10 => k_is)
    (case a11 => k_is)
    (case l11 => k_is)
    (case c11 => k_is)
    (case k11 => k_is)
    (case a12 => k_is)
    (case l12 => k_is)
    (case c12 => k_is)
    (case k12 => k_is)
    (case z_abs => k_is)
    (case z_int => k_is)
    (case z_len => k_is)
    (case z_list => k_is)
    (case z_range => k_is)
    (case z_repr => k_is)
