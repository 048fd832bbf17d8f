import PyProof.Rows.All
import Wide.All
import OpenK.AllK
import Wide.FinOn
import HandS.ForMost
import PyProof.ReprRoads
import HandS.Wide
import HandS.Style
import HandS.Evl
import HandS.Conv
import HandS.Replace
import PyProof.EqAt
import PyProof.NeKinds
import PyProof.AutoSeq1
import HandS.Star
import HandS.SortKw
import KE.DatumOrd
import KE.KDictPairs
import HandS.Zip
import HandS.More
import HandS.IsInst
import PyProof.P3In
import HandS.NoneIn
import HandS.WrittenGet
import HandS.Walk
import HandS.Text
import HandS.Flow
import HandS.Set
import HandS.SetBool
import HandS.SetKeys
import PyProof.Rows.SortStr
import HandS.Strs
import KE.KEqDict
import PyProof.FactsAll.dict_1
import PyProof.FactsAll.dict_2
import PyProof.FactsAll.subtypes_3
import PyProof.FactsAll.subtypes_4
import HandS.TupAny
import HandS.Small
import PySem.Challenge.RW_lookdone_k09_what_is_a_transaction
set_option Elab.async false
set_option linter.all false
set_option maxRecDepth 100000
set_option maxHeartbeats 4000000
namespace GR
open PySem PySem.Spec PyProof.Rows L2

/-! ### data that stands in the abstract heap -/
section
variable {X : Cx} {pins : List (Addr × Obj)} {σ : L2.St} {H : Hp} {s : Shared}
mutual
theorem nodict {K : PySem.W.Frag} : ∀ {v : V} {d : PyData}, Dp K H v d → d.hasDict = false
  | _, _, .non => by simp only [PyData.hasDict]
  | _, _, .bl b => by simp only [PyData.hasDict]
  | _, _, .int i => by simp only [PyData.hasDict]
  | _, _, .str x => by simp only [PyData.hasDict]
  | _, _, .lst _ q => by simp only [PyData.hasDict, nodicts q]
  | _, _, .tup _ q => by simp only [PyData.hasDict, nodicts q]
theorem nodicts {K : PySem.W.Frag} : ∀ {vs : List V} {ds : List PyData}, DpAll K H vs ds → PyData.hasDictAll ds = false
  | _, _, .nil => by simp only [PyData.hasDictAll]
  | _, _, .cons h q => by simp only [PyData.hasDictAll, nodict h, nodicts q, Bool.or_self]
end

/-- repr of a list or a tuple of data -/
def rRepr (X : Cx) : List V → Hp → VK → Prop := fun xs H Q => ∃ (a : Addr) (d : PyData), xs = [.ref a] ∧ Dp X.K H (.ref a) d ∧ d.showable = true ∧ d.depth ≤ 60 ∧ d.shown.length ≤ sizeLine ∧ Q (.str d.shown) H
theorem call_reprD {k : Nat} (hg : X.A.guards = some []) (hr : Room k X.A) : CallR X (.builtin "repr") (rRepr X) := by
  intro pins s σ H xs us Q I r h
  obtain ⟨a, d, rfl, hd, hs, hdep, hz, q⟩ := h
  obtain ⟨u, rfl, rv⟩ := vals1 r
  obtain rfl : u = Value.ref a := rv
  obtain ⟨as, hR⟩ := Dp.reads I d _ _ hd rfl
  have hu := hr.units
  exact repr_of_reads' hR hs (PyData.noDict_hsm (nodict hd)) hg (by omega) (fun _ _ e => e) (fun h' u tk hk => ⟨.str d.shown, H, I.kept hk, ⟨_, rfl⟩, q⟩) hz
end

/-! ### defs that show things: a promise kept wherever nothing is being shown -/
structure FnG (P : Program) (w : World) (K : PySem.W.Frag) (mg : Str → Option Value) (base : Heap) (CX : CXT) (k : Nat) (f : Addr) (fd : FuncData) (ps : List Str) (sp : Sp) : Prop where
  size : ∀ vs H Q E, sp vs H Q E → vs.length = ps.length
  go : ∀ (A : Around) (outer : List Env) (s : Shared) (H : Hp) (args : Args) (us : List Value) (vs : List V) (Q : VK) (E : XK),
    A.guards = some [] → Room k A → Env0 P w K mg base A outer s H → BindsTo s fd args (ps.zip us) → Vals vs us → sp vs H Q E →
    codeAny (model P w) A (.call (.ref f) args) (CR CX outer P w H s Q E) s

section
variable {P : Program} {w : World} {K : PySem.W.Frag} {mg : Str → Option Value} {base : Heap}
theorem FnG.of {CX : CXT} {k : Nat} {f : Addr} {fd : FuncData} {ps : List Str} {sp : Sp} (F : FnOk P w K mg base CX k f fd ps sp) : FnG P w K mg base CX k f fd ps sp :=
  ⟨F.len, fun A outer s H args us vs Q E _ => F.run A outer s H args us vs Q E⟩

/-- a def by its body, where nothing is being shown -/
theorem ok_g {x qual : Str} {st : Stmt} {f : Addr} {fd : FuncData} {N ps : List Str} {k : Nat} {sp : Sp} (F : Fun K x qual st f fd) (S : FnScope N ps (defScope st)) (size : ∀ vs H Q E, sp vs H Q E → vs.length = ps.length)
    (body : ∀ (cdv : Value) (A : Around) (outer : List Env) (s : Shared) (H : Hp) (vs : List V) (Q : VK) (E : XK), A.guards = some [] → Room k (A.deeper (envOfC qual (defScope st) s.heap.objs.size f cdv)) → sp vs H Q E →
      ∃ t, PSs (cxOf CX0 P w K mg base N qual (defScope st) f cdv A outer s H E).nox (defBody st) t ∧ t { nx := fun _ H' => Q .non H', rt := Q } (start N vs) H) : FnG P w K mg base CX0 (k + 1) f fd ps sp := by
  obtain ⟨oc, od, kV, doc, pm, an, cdv, ct, osl, rfl, lk, hcd⟩ := F.ex
  constructor
  · exact size
  intro A outer s H args us vs Q E gA room e0 bnd rel hsp
  have inK : K.In s.heap := e0.mod.kin.keeps (fun b o q => (e0.bs b o q).1)
  have nolim := e0.mod.nolimit.keeps (fun b o q => (e0.bs b o q).1)
  obtain ⟨t, ht, hq⟩ := body cdv A outer s H vs Q E gA (room.deeper _) hsp
  refine codeAny_call_function room.depth (inK f _ lk) rfl S.co S.gen rfl (PySem.W.codeRec_of inK hcd) (bnd _ _ _ _ ?_)
  refine wpAny_newFunctionEnv_cells S.kind ?par (fun env he s1 inC => ?run)
  case par =>
    rintro ⟨n, v⟩ hy
    rcases S.par n (List.of_mem_zip hy).1 with q | q
    · exact Or.inl q
    · exact Or.inr ⟨q, PySem.W.cellsFrom_some _ _ _ (Or.inl q)⟩
  case run =>
    cases he
    refine And.intro (nolim.keeps inC.toInCall.keep) (codeAny_func ?_)
    have I0 := inv_start (CX := CX0) (P := P) (w := w) (K := K) (mg := mg) (base := base) (E := E) S room.hd e0 (size _ _ _ _ hsp) rel inC
    refine wpAny_mono (ht.nox.run [] s1 (start N vs) H _ I0 hq) ?_ (fun _ _ z => z)
    rintro fl s' hs
    have close : ∀ (σ' : L2.St) (H' : Hp) (v : V) (u : Value), Inv (cxOf CX0 P w K mg base N qual (defScope st) f cdv A outer s H E) [] σ' H' s' → RelV v u → Q v H' → CE outer P w H s Q u s' := by
      intro σ' H' v u J rv q
      exact ⟨v, H', J.os, J.bare, J.base, J.hok, rv, q⟩
    cases fl
    case ret u => obtain ⟨v, σ', H', J, rv, q⟩ := hs; exact close _ _ _ _ J rv q
    case next => obtain ⟨σ', H', J, q⟩ := hs; exact close _ _ V.non Value.none J rfl q
    case brk => obtain ⟨_, _, _, q⟩ := hs; exact q.elim
    case cont => obtain ⟨_, _, _, q⟩ := hs; exact q.elim
end

section
variable {X : Cx} {CX : CXT} {k : Nat} {f : Addr} {fd : FuncData} {ps : List Str} {sp : Sp} {E : XK} {x : Str} {p pos : Pos} {e : Expr} {es : List Expr} {t : TA}
/-- its call -/
theorem pe_callG (F : FnG X.prog X.w X.K X.mg X.base CX k f fd ps sp) (hg : X.A.guards = some []) (hr : Room k X.A) (gx : Gl X x) (hm : X.mg x = some (.ref f)) (hk : PySem.W.keepIn X.K (.ref f) = true) (hb : Binds X.K fd ps []) (hx : Passes CX X E)
    (ha : PA X (e :: es) t) (hdb : (x == ("__debug__" : Str)) = false := by decide) (he : starEach (e :: es) X.env = (false, eval e X.env) :: starEach es X.env := by rfl) (hpl : (backTo pos (starEach es X.env)).any (·.1) = false := by rfl) :
    PE X (.Call (.Name x p) (e :: es) [] pos) (tCall sp [] E t) := by
  constructor
  intro pins s σ H Q I h
  refine wpAny_Call_Name_kw (ld_glob I gx hm (PySem.W.callWith_K (h₀ := X.base) I.ok.mod.kin hk (thn (ha.run pos pins s σ H _ I h) ?_) he hpl) hdb)
  rintro us s1 ⟨vs, H1, I1, r, q⟩
  refine ⟨I1.kIn, ?_⟩
  have q' : sp vs H1 Q E := by simpa using q
  have hl : us.length = ps.length := by
    rw [← r.length]
    exact F.size _ _ _ _ q'
  have hB := hb s1 us I1.kIn (by simpa using hl)
  rw [List.append_nil] at hB
  refine wpAny_call (codeAny_mono (F.go X.A X.stack s1 H1 ⟨us, []⟩ us vs Q E hg hr I1.env0 hB r q') ?_)
  rintro (er | fl) s2 hq
  · exact hx pins σ H1 s1 er s2 I1 hq
  · cases fl
    case ret u => exact I1.after hq
    case next => exact hq.elim
    case brk => exact hq.elim
    case cont => exact hq.elim
end

/-- a comprehension without a test -/
theorem yes_then {σ : L2.St} {H : Hp} {A B : Hp → Prop} (h : A H) : tYes σ H (fun b H3 => if b = true then A H3 else B H3) := by
  show (if true = true then A H else B H)
  rw [if_pos rfl]
  exact h

/-! ### the law's own call -/
/-- the abstract heap in which the script alone is tracked, as it stands -/
def scriptHp (a : Addr) (o : Obj) (xs : List V) : Hp := fun b => if b = a then some (.frz o (.lst xs)) else none
theorem scriptHp_at {a : Addr} {o : Obj} {xs : List V} : scriptHp a o xs a = some (.frz o (.lst xs)) := if_pos rfl
theorem scriptHp_some {a b : Addr} {o : Obj} {xs : List V} {u : HO} (h : scriptHp a o xs b = some u) : b = a ∧ u = .frz o (.lst xs) := by
  unfold scriptHp at h
  split at h
  · rename_i e
    exact ⟨e, (Option.some.inj h).symm⟩
  · cases h

theorem ns_hid {h : Heap} {H : Hp} {b : Addr} {m : Str → Option Value} (q : h.Ns b m) (hb : H b = none) : (hidT h H).Ns b m := by
  obtain ⟨o, es, ep, e, r⟩ := q
  exact ⟨o, es, ep, hidT_get e hb, r⟩

theorem law_callG {P : Program} {w : World} {K : PySem.W.Frag} {mg mb : Str → Option Value} {k : Nat} {fa a : Addr} {fd : FuncData} {x : Str} {sp : Sp} {s₁ : Shared} {vs : List Value} {ns : List Int}
    (KX : K.In s₁.heap) (hns : s₁.heap.Ns mainGlobals mg) (hb : s₁.heap.Ns builtinsNs mb) (hbb : ∀ x : Str, x ≠ "__name__" → mb x = bootBuiltins x) (hlim : s₁.heap.NoLimit) (hg : s₁.gens = #[])
    (ha : s₁.heap.get? a = some { cls := .type "list", data := .seq vs.toArray }) (hi : IntsAre vs ns) (hl : ns.length ≤ sizeLine) (hr : Room k callerA)
    (F : ∀ base : Heap, K.In base → base.Ns mainGlobals mg → FnG P w K mg base CX0 k fa fd [x] sp) (hbind : ∀ (s : Shared) (u : Value), BindsTo s fd ⟨[u], []⟩ [(x, u)])
    (hsp : ∀ H : Hp, Only H → SqL K H a (ns.map V.int) → sp [.ref a] H (fun v _ => v = .bl true) fun _ _ _ => False) :
    codeAny (model P w) callerA (.call (.ref fa) ⟨[.ref a], []⟩) (fun r s' => r = .ok (.ret (.bool true)) ∧ OldK s₁.heap s'.heap ∧ s'.os = s₁.os ∧ AllBare s'.gens) s₁ := by
  have main : ∀ H : Hp, Only H → SqL K H a (ns.map V.int) → HOk P w H s₁.heap → (∀ b u, H b = some u → b = a ∧ K.lookup a = none) →
      codeAny (model P w) callerA (.call (.ref fa) ⟨[.ref a], []⟩) (fun r s' => r = .ok (.ret (.bool true)) ∧ OldK s₁.heap s'.heap ∧ s'.os = s₁.os ∧ AllBare s'.gens) s₁ := by
    intro H only seq ok one
    have free : ∀ b, (∀ o n, s₁.heap.get? b = some o → o.data ≠ .seq vs.toArray n) → H b = none := by
      intro b nb
      cases q : H b with
      | none => rfl
      | some u =>
        obtain ⟨rfl, _⟩ := one b u q
        exact absurd rfl (nb _ _ ha)
    have freeD : ∀ {b : Addr} {m : Str → Option Value}, s₁.heap.Ns b m → H b = none := by
      rintro b m ⟨o, es, ep, e, d, _⟩
      refine free b fun o' n e' d' => ?_
      rw [e] at e'
      cases e'
      rw [d] at d'
      cases d'
    have inB : K.In (hidT s₁.heap H) := by
      intro b o e
      refine hidT_get (KX b o e) ?_
      cases q : H b with
      | none => rfl
      | some u =>
        obtain ⟨rfl, z⟩ := one b u q
        rw [z] at e
        cases e
    have gB := ns_hid hns (freeD hns)
    have md : Mod K mg (hidT s₁.heap H) := by
      refine ⟨inB, gB, ⟨mb, ns_hid hb (freeD hb), hbb⟩, ?_⟩
      obtain ⟨mc, h1, h2⟩ := hlim
      exact ⟨mc, ns_hid h1 (freeD h1), h2⟩
    have start0 : Env0 P w K mg (hidT s₁.heap H) callerA [] s₁ H := by
      constructor
      · rfl
      · exact md
      · exact fun b o e => of_hidT e
      · exact Nat.le_of_eq (hidT_size _ _)
      · trivial
      · intro b hb
        exact absurd (show b ∈ ([] : List Addr) from hb) (by simp)
      · exact ok
      · exact .of_eq hg
    have run := (F _ inB gB).go callerA [] s₁ H ⟨[.ref a], []⟩ [.ref a] [.ref a] (fun v _ => v = .bl true) (fun _ _ _ => False) rfl hr start0 (hbind s₁ (.ref a)) (.cons rfl .nil) (hsp H only seq)
    refine codeAny_mono run ?_
    rintro (er | fl) s' h
    · exact False.elim h
    cases fl with
    | next => exact False.elim h
    | brk => exact False.elim h
    | cont => exact False.elim h
    | ret u =>
      obtain ⟨v, H', os, bare, un, ok', rv, q⟩ := h
      cases (show v = .bl true from q)
      cases (show u = Value.bool true from rv)
      refine ⟨rfl, OldK.of_keep ?_, os, bare⟩
      intro b o e
      cases z : H b with
      | none => exact un.keep b o e z (fun m => absurd (show b ∈ ([] : List Addr) from m) (by simp)) (by simp)
      | some u =>
        rcases only b with z' | ⟨ob, xs, z'⟩
        · rw [z] at z'
          cases z'
        · have e1 := (ok b _ z').1
          have e2 := (ok' b _ (un.frzs b ob _ z')).1
          rw [e] at e1
          rw [e1]
          exact e2
  have rv := vals_ints hi
  cases hk : K.lookup a with
  | some o =>
    have e := KX a o hk
    rw [ha] at e
    cases e
    refine main (fun _ => none) (fun _ => .inl rfl) (.inr ⟨_, vs.toArray, _, hk, rfl, rfl, rfl, ?_, by simpa using rv⟩) ?_ ?_
    · rw [List.size_toArray, hi.length]
      exact hl
    · intro b u z
      cases z
    · intro b u z
      cases z
  | none =>
    refine main (scriptHp a { cls := .type "list", data := .seq vs.toArray } (ns.map V.int)) ?_ (.inl (.inr ⟨_, scriptHp_at⟩)) ?_ ?_
    · intro b
      cases z : scriptHp a { cls := .type "list", data := .seq vs.toArray } (ns.map V.int) b with
      | none => exact .inl rfl
      | some u => exact .inr ⟨_, _, by rw [(scriptHp_some z).2]⟩
    · intro b u z
      obtain ⟨rfl, rfl⟩ := scriptHp_some z
      refine ⟨ha, ?_, vs, _, rv, ha⟩
      rw [List.length_map]
      exact hl
    · intro b u z
      exact ⟨(scriptHp_some z).1, hk⟩

theorem walk_g {l : PySem.W.OpenLaw} {n k : Nat} {q : Program} {loose : List Str} {XP : (Str → Option Value) → Heap → Prop} {YP : World → Heap → Prop} {d : DefRec} {K : Params → PySem.W.Frag} {sp : PySem.W.Frag → Sp} {x : Str}
    (hn : l.most = some n) (hn2 : n ≤ sizeLine) (hdf : d.params.defaults = []) (hr : Room k callerA)
    (hY : ∀ (w : World) (h : Heap), YP w h → (K w.params).In h)
    (F : ∀ (w : World) (mg : Str → Option Value) (fa : Addr) (h : Heap), (K w.params).In h → h.Ns mainGlobals mg → mg d.name = some (.ref fa) →
      ∃ fd : FuncData, (∀ (s : Shared) (u : Value), BindsTo s fd ⟨[u], []⟩ [(x, u)]) ∧
        ∀ base : Heap, (K w.params).In base → base.Ns mainGlobals mg → FnG l.prog w (K w.params) mg base CX0 k fa fd [x] (sp (K w.params)))
    (hsp : ∀ (K : PySem.W.Frag) (H : Hp) (a : Addr) (ns : List Int), ns.length ≤ n → Only H → SqL K H a (ns.map V.int) → sp K [.ref a] H (fun v _ => v = .bl true) fun _ _ _ => False) :
    PySem.W.WalkO q loose XP YP l.row.toRowW d [] (fun f vs => PySem.call f vs) := by
  apply Att.attach_call hn hdf
  intro w s₀ s₁ mg mb fa o pm cd doc a vs ns G Y ho hd hcd hmg hobj hints hlen hg
  obtain ⟨fd, bnd, keeps⟩ := F w mg fa _ (hY w _ Y) G.T.g hmg
  exact law_callG (hY w _ Y) G.T.g G.T.b G.T.builtins G.T.nolimit hg hobj hints (Nat.le_trans hlen hn2) hr keeps bnd (fun H => hsp _ H a ns hlen)
end GR

namespace L9
open PySem PySem.Spec PyProof.Rows L2 GR
abbrev LIM : Int := 1000000000000000000
def topS (i : Nat) : Stmt := PySem.Challenge.pw_lookdone_k09_what_is_a_transaction.main.body.getD i (.Pass ⟨0, 0, 0, 0⟩)
theorem same_upd {H : Hp} {p : Addr} {o : HO} (h : H p = none) : Same H (upd H p o) := fun b x e => by
  rw [upd_ne (ne_of_none e h)]
  exact e
theorem le2 : 2 ≤ sizeLine := by decide
theorem at0 {xs : List V} {v : V} : atI (v :: xs) 0 = some v := atI_nat (j := 0) rfl
theorem at1 {xs : List V} {v u : V} : atI (u :: v :: xs) 1 = some v := atI_nat (j := 1) rfl
theorem at2 {xs : List V} {v u t : V} : atI (t :: u :: v :: xs) 2 = some v := atI_nat (j := 2) rfl
theorem at3 {xs : List V} {v u t s : V} : atI (s :: t :: u :: v :: xs) 3 = some v := atI_nat (j := 3) rfl
/-! ### the law's deck -/
/-- the deck at d: the cells at c, a number, the count of draws, at most N -/
def Deck (H : Hp) (d c : Addr) (N : Int) : Prop := ∃ (cells : List Int) (m n : Int), H d = some (.lst [.ref c, .int m, .int n]) ∧ H c = some (.lst (cells.map V.int)) ∧ cells.length ≤ 63 ∧ 0 ≤ n ∧ n ≤ N
theorem Deck.ne {H : Hp} {d c : Addr} {N : Int} (h : Deck H d c N) : c ≠ d := by
  obtain ⟨cells, m, n, h1, h2, _⟩ := h
  rintro rfl
  rw [h1] at h2
  have e := HO.lst.inj (Option.some.inj h2)
  cases cells with
  | nil => cases e
  | cons x r =>
    have := (List.cons.inj e).1
    cases this
theorem Deck.mono {H : Hp} {d c : Addr} {N M : Int} (h : Deck H d c N) (hm : N ≤ M) : Deck H d c M := by
  obtain ⟨cells, m, n, h1, h2, h3, h4, h5⟩ := h
  exact ⟨cells, m, n, h1, h2, h3, h4, Int.le_trans h5 hm⟩
/-- all but the deck is as it was -/
def Keep (d c : Addr) (H H' : Hp) : Prop := ∀ b o, b ≠ d → b ≠ c → H b = some o → H' b = some o
theorem Keep.refl {d c : Addr} {H : Hp} : Keep d c H H := fun _ _ _ _ e => e
theorem Keep.trans {d c : Addr} {H H1 H2 : Hp} (a : Keep d c H H1) (b : Keep d c H1 H2) : Keep d c H H2 := fun x o h1 h2 e => b x o h1 h2 (a x o h1 h2 e)
theorem Keep.of {d c : Addr} {H H' : Hp} (s : Same H H') : Keep d c H H' := fun b o _ _ e => s b o e
theorem Deck.same {H H' : Hp} {d c : Addr} {N : Int} (h : Deck H d c N) (s : Same H H') : Deck H' d c N := by
  obtain ⟨cells, m, n, h1, h2, h3⟩ := h
  exact ⟨cells, m, n, s _ _ h1, s _ _ h2, h3⟩
/-- a tuple, a list that is not the deck's stays -/
theorem Keep.tup {d c p : Addr} {H H' : Hp} {N : Int} {xs : List V} (s : Keep d c H H') (D : Deck H d c N) (h : H p = some (.tup xs)) : H' p = some (.tup xs) := by
  obtain ⟨cells, m, n, h1, h2, _⟩ := D
  exact s p _ (ne_of h h1 (fun z => by cases z)) (ne_of h h2 (fun z => by cases z)) h
theorem dp_ints {K : PySem.W.Frag} {H : Hp} : ∀ ns : List Int, DpAll K H (ns.map V.int) (ns.map PyData.int)
  | [] => .nil
  | n :: ns => .cons (.int n) (dp_ints ns)
theorem lay_ints : ∀ ns : List Int, PyData.canLayAll0 (ns.map PyData.int) = true
  | [] => by simp only [List.map_nil, PyData.canLayAll0]
  | n :: ns => by simp only [List.map_cons, PyData.canLayAll0, PyData.canLay0, lay_ints ns, Bool.and_self]
theorem depth_ints : ∀ ns : List Int, PyData.depthAll (ns.map PyData.int) ≤ 1
  | [] => by simp only [List.map_nil, PyData.depthAll]; omega
  | n :: ns => by
    have := depth_ints ns
    simp only [List.map_cons, PyData.depthAll, PyData.depth]
    omega
theorem shaped_ints (ns : List Int) : SeqAt.shaped (.list (ns.map PyData.int)) = true := by
  have := depth_ints ns
  unfold SeqAt.shaped
  rw [Bool.and_eq_true]
  refine ⟨by simp only [PyData.canLay0, lay_ints], decide_eq_true ?_⟩
  simp only [PyData.depth]
  omega
theorem neq_nil : ∀ ns : List Int, (!PyData.eqv (.list (ns.map PyData.int)) (.list [])) = !ns.isEmpty
  | [] => by simp only [List.map_nil, PyData.eqv, PyData.eqvAll, List.isEmpty_nil]
  | n :: ns => by simp only [List.map_cons, PyData.eqv, PyData.eqvAll, List.isEmpty_cons]

def num1 (z n : Int) : Int := (z % 2147483629 + 7919 * (n + 1) * (n + 1) + 31) * 48271 % 2147483647
theorem num1_rng (z n : Int) : -(2 ^ 64) < num1 z n ∧ num1 z n < 2 ^ 64 := by
  unfold num1
  omega
def num2 (x n : Int) : Int := (x * x + 69621 * x + (n + 1)) % 2147483587
theorem num2_rng (x n : Int) : -(2 ^ 64) < num2 x n ∧ num2 x n < 2 ^ 64 := by
  unfold num2
  omega

section
variable {P : Program} {w : World} {K : PySem.W.Frag} {mg : Str → Option Value} {base : Heap}
abbrev s_law_draw : Stmt := topS 40
theorem sc_law_draw : FnScope ["_law_deck_here", "_law_most", "_law_cell_here", "_law_mixed"] ["_law_deck_here", "_law_most"] (defScope s_law_draw) := ⟨rfl, rfl, rfl, by decide +kernel, rfl, by decide +kernel, by decide +kernel⟩
def sp_draw : Sp := fun vs H Q _ => ∃ (d c : Addr) (N most : Int), vs = [.ref d, .int most] ∧ Deck H d c N ∧ N < 2 ^ 60 ∧ 0 < most ∧ most < 2 ^ 100 ∧
  ∀ H' r, Keep d c H H' → Deck H' d c (N + 1) → 0 ≤ r → r < most → Q (.int r) H'
theorem ok_draw {f : Addr} {fd : FuncData} {k : Nat} (F : Fun K "_law_draw" "_law_draw" s_law_draw f fd) :
    FnOk P w K mg base CX0 (k + 1) f fd ["_law_deck_here", "_law_most"] sp_draw := by
  have nd := sc_law_draw.nd
  refine F.ok sc_law_draw (fun vs H Q E h => ?_) (fun cdv A outer s H vs Q E hr h => ?_)
  · obtain ⟨d, c, N, most, rfl, _⟩ := h
    rfl
  obtain ⟨d, c, N, most, rfl, D, hN, hm0, hm1, q⟩ := h
  have hcd := D.ne
  obtain ⟨cells, m, n, hd, hc, hlen, hn0, hn1⟩ := D
  refine ⟨_, (pss_cons (ps_asg (pe_op op_add (pe_ix ix_list (pv 0) pe_int (fun _ _ => rfl)) pe_int) (pg_sub (pv 0) pe_int set_list))
      (pss_cons (ps_set (i := 2) nd rfl (.inl rfl) (pe_ix ix_list (pv 0) pe_int (fun _ _ => rfl)))
      (Evl.pss_cut (ps_if (pt_cmpR (op_neD hr.units) (pe_ix ix_list (pv 0) pe_int (fun _ _ => rfl)) (pe_lst pa_nil) (nomark _))
      (pss_cons (ps_set (i := 2) nd rfl (.inl rfl) (pe_bm0 PySem.F.plainAttrs_list PySem.F.slot_list_pop PySem.F.type_list_pop mt_pop (pe_ix ix_list (pv 0) pe_int (fun _ _ => rfl))))
        (pss_one (ps_if (pt_cmpR op_ge (pv 2) (pe_op op_pow pe_int pe_int) (nomark _))
        (pss_cons (ps_expr (pe_bm PySem.F.plainAttrs_list PySem.F.slot_list_append PySem.F.type_list_append mt_append (pe_ix ix_list (pv 0) pe_int (fun _ _ => rfl)) (pa_cons (pe_op op_fdivW (pv 2) (pv 1)) pa_nil)))
          (pss_one (ps_ret (pe_op op_mod (pv 2) (pv 1)))))
        pss_nil)))
      pss_nil)
      (pss_cons (ps_set (i := 3) nd rfl (.inl rfl) (pe_op op_mod (pe_op op_mul (pe_op op_add (pe_op op_add (pe_op op_mod (pv 2) pe_int) (pe_op op_mul (pe_op op_mul pe_int (pe_ix ix_list (pv 0) pe_int (fun _ _ => rfl))) (pe_ix ix_list (pv 0) pe_int (fun _ _ => rfl)))) pe_int) pe_int) pe_int))
      (pss_cons (ps_set (i := 3) nd rfl (.inl rfl) (pe_op op_mod (pe_op op_add (pe_op op_add (pe_op op_mul (pv 3) (pv 3)) (pe_op op_mul pe_int (pv 3))) (pe_ix ix_list (pv 0) pe_int (fun _ _ => rfl))) pe_int))
      (pss_one (ps_ret (pe_op op_mod (pe_op op_fdivW (pe_op op_mod (pe_op op_mul (pv 3) (pe_op op_add (pe_op op_fdivW (pv 3) pe_int) pe_int)) pe_int) pe_int) (pv 1))))))))), ?_⟩
  refine ⟨.ref d, rfl, d, _, 2, _, rfl, rfl, .inl (.inl hd), at2, _, _, rfl, rfl, .ref d, rfl, d, _, 2, 2, rfl, rfl, hd, rfl, ?_⟩
  -- the deck with one draw more
  have h1d : upd H d (.lst [.ref c, .int m, .int (n + 1)]) d = some (.lst [.ref c, .int m, .int (n + 1)]) := upd_same
  have h1c : upd H d (.lst [.ref c, .int m, .int (n + 1)]) c = some (.lst (cells.map V.int)) := by
    rw [upd_ne hcd]
    exact hc
  have k1 : Keep d c H (upd H d (.lst [.ref c, .int m, .int (n + 1)])) := fun b o nb _ e => by
    rw [upd_ne nb]
    exact e
  refine ⟨.ref d, rfl, d, _, 1, _, rfl, rfl, .inl (.inl h1d), at1, ?_⟩
  have wd : CDivW 0 most := wide_div hm0 (b := 100) (by omega) (by decide) (by decide)
  refine ⟨fun σ' H' => ∃ (z : Int) (cells' : List Int), σ' = [some (.ref d), some (.int most), some (.int z), none] ∧ Keep d c H H' ∧ H' d = some (.lst [.ref c, .int m, .int (n + 1)]) ∧ H' c = some (.lst (cells'.map V.int)) ∧ cells'.length ≤ 63, ?_, ?_⟩
  · refine ⟨.ref d, rfl, d, _, 0, _, rfl, rfl, .inl (.inl h1d), at0, Nat.zero_le _, fun e ne => ?_⟩
    have s2 : Same (upd H d (.lst [.ref c, .int m, .int (n + 1)])) (upd (upd H d (.lst [.ref c, .int m, .int (n + 1)])) e (.lst [])) := same_upd ne
    have h2d := s2 _ _ h1d
    have h2c := s2 _ _ h1c
    have k2 := k1.trans (Keep.of s2)
    refine ⟨_, _, .lst (.inl (.inl h2c)) (dp_ints cells), .lst (.inl (.inl upd_same)) .nil, shaped_ints cells, shaped_ints [], _, rfl, ?_⟩
    rw [neq_nil]
    cases hcs : cells with
    | nil => exact iteF ⟨m, cells, rfl, k2, h2d, h2c, hlen⟩
    | cons x0 r0 =>
      refine iteT ?_
      have hne : cells ≠ [] := by
        rw [hcs]
        exact List.cons_ne_nil _ _
      have hlast : (cells.map V.int)[(cells.map V.int).length - 1]? = some (.int (cells.getLast hne)) := by
        rw [List.length_map, List.getElem?_map, ← List.getLast?_eq_getElem?, List.getLast?_eq_getLast hne]
        rfl
      refine ⟨.ref d, rfl, d, _, 0, _, rfl, rfl, .inl (.inl h2d), at0, .inl ⟨rfl, _, .inl (.inl h2c)⟩, c, _, _, rfl, rfl, h2c, hlast, ?_⟩
      have hdrop : (cells.map V.int).dropLast = cells.dropLast.map V.int := by rw [List.map_dropLast]
      rw [hdrop]
      have h3d : upd (upd (upd H d (.lst [.ref c, .int m, .int (n + 1)])) e (.lst [])) c (.lst (cells.dropLast.map V.int)) d = some (.lst [.ref c, .int m, .int (n + 1)]) := by
        rw [upd_ne hcd.symm]
        exact h2d
      have h3c : upd (upd (upd H d (.lst [.ref c, .int m, .int (n + 1)])) e (.lst [])) c (.lst (cells.dropLast.map V.int)) c = some (.lst (cells.dropLast.map V.int)) := upd_same
      have k3 : Keep d c H (upd (upd (upd H d (.lst [.ref c, .int m, .int (n + 1)])) e (.lst [])) c (.lst (cells.dropLast.map V.int))) := fun b o n1 n2 e1 => by
        rw [upd_ne n2]
        exact k2 b o n1 n2 e1
      have l3 : cells.dropLast.length + 1 ≤ 63 := by
        rw [List.length_dropLast, hcs, List.length_cons]
        rw [hcs, List.length_cons] at hlen
        omega
      generalize cells.getLast hne = z
      refine ⟨.int z, rfl, _, _, rfl, rfl, ⟨by decide, by decide, by decide⟩, _, _, rfl, rfl, _, rfl, ite2 (fun e5 => ?_) (fun e5 => ?_)⟩
      · refine ⟨.ref d, rfl, d, _, 0, _, rfl, rfl, .inl (.inl h3d), at0, .inl ⟨rfl, _, .inl (.inl h3c)⟩, .int z, rfl, .int most, rfl, z, most, rfl, rfl, wd, c, _, _, rfl, rfl, h3c, ?_, ?_⟩
        · rw [List.length_map]
          exact small1000 (by omega)
        · refine ⟨.int z, rfl, .int most, rfl, z, most, rfl, rfl, hm0, ?_⟩
          refine q _ _ ?_ ?_ (Int.emod_nonneg _ (by omega)) (Int.emod_lt_of_pos _ hm0)
          · intro b o n1 n2 e1
            rw [upd_ne n2]
            exact k3 b o n1 n2 e1
          · refine ⟨cells.dropLast ++ [z / most], m, n + 1, ?_, ?_, ?_, by omega, by omega⟩
            · rw [upd_ne hcd.symm]
              exact h3d
            · rw [upd_same, List.map_append]
              rfl
            · rw [List.length_append, List.length_singleton]
              exact l3
      · exact ⟨z, cells.dropLast, rfl, k3, h3d, h3c, by omega⟩
  · rintro σ' H' ⟨z, cells', rfl, kk, h5d, h5c, hl5⟩
    have hn2 : -(2 ^ 64) < n + 1 ∧ n + 1 < 2 ^ 64 := by omega
    refine ⟨.int z, rfl, z, 2147483629, rfl, rfl, (show (0 : Int) < 2147483629 by decide), .ref d, rfl, d, _, 2, _, rfl, rfl, .inl (.inl h5d), at2, 7919, n + 1, rfl, rfl, .inl ⟨by decide, by decide⟩, .ref d, rfl, d, _, 2, _, rfl, rfl, .inl (.inl h5d), at2, 7919 * (n + 1), n + 1, rfl, rfl, .inr hn2, _, _, rfl, rfl, _, _, rfl, rfl, _, 48271, rfl, rfl, .inr ⟨by decide, by decide⟩, _, 2147483647, rfl, rfl, (show (0 : Int) < 2147483647 by decide), ?_⟩
    have b1 := num1_rng z n
    refine ⟨.int (num1 z n), rfl, .int (num1 z n), rfl, num1 z n, num1 z n, rfl, rfl, .inl b1, .int (num1 z n), rfl, 69621, num1 z n, rfl, rfl, .inr b1, _, _, rfl, rfl, .ref d, rfl, d, _, 2, _, rfl, rfl, .inl (.inl h5d), at2, _, _, rfl, rfl, _, 2147483587, rfl, rfl, (show (0 : Int) < 2147483587 by decide), ?_⟩
    have b2 := num2_rng (num1 z n) n
    refine ⟨.int (num2 (num1 z n) n), rfl, .int (num2 (num1 z n) n), rfl, num2 (num1 z n) n, 5, rfl, rfl, ⟨by decide, by decide⟩, _, _, rfl, rfl, num2 (num1 z n) n, _, rfl, rfl, .inl b2, _, 2147483579, rfl, rfl, (show (0 : Int) < 2147483579 by decide), _, 64, rfl, rfl, ⟨by decide, by decide⟩, .int most, rfl, _, most, rfl, rfl, hm0, ?_⟩
    exact q _ _ kk ⟨cells', m, n + 1, h5d, h5c, hl5, by omega, by omega⟩ (Int.emod_nonneg _ (by omega)) (Int.emod_lt_of_pos _ hm0)
end
theorem Keep.seq {K : PySem.W.Frag} {d c a : Addr} {H H' : Hp} {xs : List V} (s : Keep d c H H') (h : SqL K H a xs) (h1 : a ≠ d) (h2 : a ≠ c) : SqL K H' a xs := by
  rcases h with (h | ⟨o, h⟩) | h
  · exact .inl (.inl (s _ _ h1 h2 h))
  · exact .inl (.inr ⟨o, s _ _ h1 h2 h⟩)
  · exact .inr h
theorem cut63 (ns : List Int) : ∃ ms : List Int, cutV (ns.map V.int) none (some 63) = ms.map V.int ∧ ms.length ≤ 63 := by
  refine ⟨ns.take (min 63 ns.length), ?_, ?_⟩
  · unfold cutV
    rw [HT.sIx_none, show HT.sIx (ns.map V.int).length (ns.map V.int).length (some 63) = min 63 (ns.map V.int).length from HT.sIx_nat _ _ 63, List.drop_zero, List.map_take, List.length_map, Nat.sub_zero]
  · rw [List.length_take]
    omega
theorem small_le {n : Nat} (h : n ≤ 1000) : n ≤ sizeLine := Nat.le_of_lt (small1000 h)
section
variable {P : Program} {w : World} {K : PySem.W.Frag} {mg : Str → Option Value} {base : Heap}
abbrev s_law_deck : Stmt := topS 39
theorem sc_law_deck : FnScope ["_law_script", "_law_cells"] ["_law_script"] (defScope s_law_deck) := ⟨rfl, rfl, rfl, by decide +kernel, rfl, by decide +kernel, by decide +kernel⟩
def sp_deck (K : PySem.W.Frag) : Sp := fun vs H Q _ => ∃ (a : Addr) (ns : List Int), vs = [.ref a] ∧ SqL K H a (ns.map V.int) ∧ ∀ H' d c, Same H H' → H d = none → Deck H' d c 0 → Q (.ref d) H'
theorem ok_deck {f : Addr} {fd : FuncData} {k : Nat} (F : Fun K "_law_deck" "_law_deck" s_law_deck f fd) (mlist : mg "list" = none) (msum : mg "sum" = none) (mlen : mg "len" = none) :
    FnOk P w K mg base CX0 (k + 1) f fd ["_law_script"] (sp_deck K) := by
  have nd := sc_law_deck.nd
  refine F.ok sc_law_deck (fun vs H Q E h => ?_) (fun cdv A outer s H vs Q E hr h => ?_)
  · obtain ⟨a, ns, rfl, _⟩ := h
    rfl
  obtain ⟨a, ns, rfl, hS, q⟩ := h
  obtain ⟨ms, hms, hl⟩ := cut63 ns
  refine ⟨_, (pss_cons (ps_set (i := 1) nd rfl (.inl rfl) (pe_callTy call_list_of (by rfl) mlist boot_list (pa_cons (pe_slice sl_list (pv 0) po_none (po_some pe_int)) pa_nil)))
      (pss_one (ps_ret (pe_lst (pa_cons (pe_revL (pv 1)) (pa_cons (pe_op op_add (pe_op op_mod (pe_callB (cr_sum rfl) (by rfl) msum boot_sum (pa_cons (pv 1) pa_nil)) pe_int) (pe_op op_mul pe_int (pe_callB call_len_seq (by rfl) mlen PySem.boot_len (pa_cons (pv 1) pa_nil)))) (pa_cons pe_int pa_nil))))))), ?_⟩
  refine ⟨.ref a, rfl, 63, rfl, a, _, rfl, hS, fun p np => ?_⟩
  rw [hms]
  have s1 : Same H (upd H p (.lst (ms.map V.int))) := same_upd np
  refine ⟨p, _, rfl, .inl (.inl (.inl upd_same)), fun l nl => ?_⟩
  have s2 := same_upd (o := .lst (ms.map V.int)) nl
  have hl2 : SqL K (upd (upd H p (.lst (ms.map V.int))) l (.lst (ms.map V.int))) l (ms.map V.int) := .inl (.inl upd_same)
  refine ⟨.ref l, rfl, l, _, rfl, hl2, fun c nc => ?_⟩
  have s3 := same_upd (o := .lst (ms.map V.int).reverse) nc
  refine ⟨.ref l, rfl, l, ms, rfl, s3.seq hl2, _, 2147483629, rfl, rfl, (show (0 : Int) < 2147483629 by decide), .ref l, rfl, l, _, rfl, .inl (s3.seq hl2), 48271, _, rfl, rfl, .inl ⟨by decide, by decide⟩, _, _, rfl, rfl, small_le (show 3 ≤ 1000 by decide), fun d nd' => ?_⟩
  refine q _ d c ((s1.trans s2).trans (s3.trans (same_upd nd'))) ?_ ?_
  · exact s1.free (s2.free (s3.free nd'))
  · refine ⟨ms.reverse, _, 0, upd_same, ?_, ?_, Int.le_refl 0, Int.le_refl 0⟩
    · have : c ≠ d := ne_of_none (show upd _ c _ c = _ from upd_same) nd'
      rw [upd_ne this, upd_same, List.map_reverse]
    · rw [List.length_reverse]
      exact hl
end
theorem Deck.new {H : Hp} {d c a : Addr} {N : Int} (D : Deck H d c N) (na : H a = none) : a ≠ d ∧ a ≠ c := by
  obtain ⟨cells, m, n, h1, h2, _⟩ := D
  exact ⟨(ne_of_none h1 na).symm, (ne_of_none h2 na).symm⟩
theorem Keep.free {d c a : Addr} {H H' : Hp} (s : Keep d c H H') (na : H' a = none) (h1 : a ≠ d) (h2 : a ≠ c) : H a = none := by
  cases q : H a with
  | none => rfl
  | some o =>
    rw [s a o h1 h2 q] at na
    cases na
end L9

namespace L9
open PySem PySem.Spec PyProof.Rows L2 GR
abbrev L26 : Str := "abcdefghijklmnopqrstuvwxyz"
def sgn (c : Nat) : Str := ⟨#[c]⟩
theorem l26_len : L26.length = 26 := by decide
theorem l26_at : ∀ k, k < 26 → L26.cps.toList[k]? = some (97 + k) := by decide
theorem l26_occ : ∀ k, k < 26 → Builtin.Str.occurrences L26 (sgn (97 + k)) 0 L26.length 1 = [k] := by decide +kernel
def Low (c : Nat) : Prop := 97 ≤ c ∧ c ≤ 122
/-- the words that are no names -/
def barred : List Str := ["key", "if", "at", "count", "sum", "most", "first", "let", "need", "put", "each", "tell"]
/-- a name -/
def Nm (z : Str) : Prop := 1 ≤ z.cps.toList.length ∧ z.cps.toList.length ≤ 8 ∧ (∀ c, c ∈ z.cps.toList → Low c) ∧ z ∉ barred
theorem nm_lit {z : Str} (h : (decide (1 ≤ z.cps.toList.length) && decide (z.cps.toList.length ≤ 8) && z.cps.toList.all (fun c => decide (97 ≤ c) && decide (c ≤ 122)) && decide (z ∉ barred)) = true) : Nm z := by
  simp only [Bool.and_eq_true, decide_eq_true_eq, List.all_eq_true] at h
  obtain ⟨⟨⟨h1, h2⟩, h3⟩, h4⟩ := h
  exact ⟨h1, h2, fun c hc => h3 c hc, h4⟩
abbrev L4 : Str := "qzjx"
abbrev heads : List Nat := [113, 122, 106, 120]
theorem l4_len : L4.length = 4 := by decide
theorem l4_at : ∀ k, k < 4 → ∃ c, L4.cps.toList[k]? = some c ∧ c ∈ heads := by
  intro k hk
  match k, hk with
  | 0, _ => exact ⟨113, by decide, by decide⟩
  | 1, _ => exact ⟨122, by decide, by decide⟩
  | 2, _ => exact ⟨106, by decide, by decide⟩
  | 3, _ => exact ⟨120, by decide, by decide⟩
theorem barred_w : ∀ z, z ∈ barred → 2 ≤ z.cps.toList.length ∧ ∀ c, c ∈ heads → z.cps.toList.head? ≠ some c := by decide
theorem barred_q : ∀ z, z ∈ barred → z.cps.toList.head? ≠ some 113 := by decide
/-- the text of single signs, joined -/
theorem join_signs : ∀ cs : List Nat, (Txt.join Str.empty (cs.map sgn)).cps.toList = cs := by
  intro cs
  have hj : ∀ cs : List Nat, TL.joinL [] (cs.map fun c => [c]) = cs := by
    intro cs
    induction cs with
    | nil => rfl
    | cons a r ih =>
      cases r with
      | nil => rfl
      | cons b r =>
        show [a] ++ ([] ++ TL.joinL [] ((b :: r).map fun c => [c])) = a :: b :: r
        rw [ih]
        rfl
  have := TL.tl_join Str.empty (cs.map sgn)
  rw [List.map_map] at this
  rw [TL.join_eq]
  exact this.trans (hj cs)
section
variable {P : Program} {w : World} {K : PySem.W.Frag} {mg : Str → Option Value} {base : Heap}
abbrev s_law_pick : Stmt := topS 41
theorem sc_law_pick : FnScope ["_law_deck_here", "_law_some"] ["_law_deck_here", "_law_some"] (defScope s_law_pick) := ⟨rfl, rfl, rfl, by decide +kernel, rfl, by decide +kernel, by decide +kernel⟩
/-- a pick from a list, or from the letters -/
def sp_pick (K : PySem.W.Frag) : Sp := fun vs H Q _ =>
  (∃ (d c a : Addr) (N : Int) (xs : List V), vs = [.ref d, .ref a] ∧ Deck H d c N ∧ N < 2 ^ 60 ∧ SqL K H a xs ∧ xs ≠ [] ∧ xs.length ≤ 1000 ∧ a ≠ d ∧ a ≠ c ∧ ∀ H' v, Keep d c H H' → Deck H' d c (N + 1) → v ∈ xs → Q v H') ∨
  (∃ (d c : Addr) (N : Int), vs = [.ref d, .str L26] ∧ Deck H d c N ∧ N < 2 ^ 60 ∧ ∀ H' k, Keep d c H H' → Deck H' d c (N + 1) → k < 26 → Q (.str (sgn (97 + k))) H') ∨
  (∃ (d c : Addr) (N : Int), vs = [.ref d, .str L4] ∧ Deck H d c N ∧ N < 2 ^ 60 ∧ ∀ H' k, Keep d c H H' → Deck H' d c (N + 1) → k ∈ heads → Q (.str (sgn k)) H')
theorem ok_pick {f f_law_draw : Addr} {fd fd_law_draw : FuncData} {k : Nat} (F : Fun K "_law_pick" "_law_pick" s_law_pick f fd) (G_law_draw : FnOk P w K mg base CX0 k f_law_draw fd_law_draw ["_law_deck_here", "_law_most"] sp_draw)
    (g_law_draw : mg "_law_draw" = some (.ref f_law_draw)) (K_law_draw : PySem.W.keepIn K (.ref f_law_draw) = true) (b_law_draw : Binds K fd_law_draw ["_law_deck_here", "_law_most"] []) (mlen : mg "len" = none) :
    FnOk P w K mg base CX0 (k + 1) f fd ["_law_deck_here", "_law_some"] (sp_pick K) := by
  have nd := sc_law_pick.nd
  refine F.ok sc_law_pick (fun vs H Q E h => ?_) (fun cdv A outer s H vs Q E hr h => ?_)
  · rcases h with ⟨d, c, a, N, xs, rfl, _⟩ | ⟨d, c, N, rfl, _⟩ | ⟨d, c, N, rfl, _⟩ <;> rfl
  refine ⟨_, (pss_one (ps_ret (pe_ix ix_seq (pv 1) (pe_call G_law_draw hr (by rfl) g_law_draw K_law_draw b_law_draw .nil pass0 (pa_cons (pv 0) (pa_cons (pe_callB call_len (by rfl) mlen PySem.boot_len (pa_cons (pv 1) pa_nil)) pa_nil))) (fun _ _ => rfl)))), ?_⟩
  rcases h with ⟨d, c, a, N, xs, rfl, D, hN, hS, hne, hlen, had, hac, q⟩ | ⟨d, c, N, rfl, D, hN, q⟩ | ⟨d, c, N, rfl, D, hN, q⟩
  · have hpos : 0 < xs.length := List.length_pos_iff.mpr hne
    refine ⟨.ref a, rfl, .ref d, rfl, .ref a, rfl, .ref a, xs.length, rfl, .inl ⟨xs, hS, rfl⟩, d, c, N, (xs.length : Int), rfl, D, hN, by omega, by omega, fun H' r kp D' r0 r1 => ?_⟩
    obtain ⟨j, rfl⟩ := Int.eq_ofNat_of_zero_le r0
    have hj : j < xs.length := by omega
    exact .inl ⟨a, xs, j, xs[j], rfl, rfl, kp.seq hS had hac, atI_nat (List.getElem?_eq_getElem hj), q H' _ kp D' (List.getElem_mem hj)⟩
  · refine ⟨.str L26, rfl, .ref d, rfl, .str L26, rfl, .str L26, 26, rfl, ⟨by rw [l26_len]; decide, l26_len.symm⟩, d, c, N, 26, rfl, D, hN, by decide, by decide, fun H' r kp D' r0 r1 => ?_⟩
    obtain ⟨j, rfl⟩ := Int.eq_ofNat_of_zero_le r0
    have hj : j < 26 := by omega
    exact .inr (.inr ⟨L26, j, 97 + j, rfl, rfl, by rw [l26_len]; decide, atI_nat (l26_at j hj), q H' j kp D' hj⟩)
  · refine ⟨.str L4, rfl, .ref d, rfl, .str L4, rfl, .str L4, 4, rfl, ⟨by rw [l4_len]; decide, l4_len.symm⟩, d, c, N, 4, rfl, D, hN, by decide, by decide, fun H' r kp D' r0 r1 => ?_⟩
    obtain ⟨j, rfl⟩ := Int.eq_ofNat_of_zero_le r0
    have hj : j < 4 := by omega
    obtain ⟨x, hx, hh⟩ := l4_at j hj
    exact .inr (.inr ⟨L4, j, x, rfl, rfl, by rw [l4_len]; decide, atI_nat hx, q H' x kp D' hh⟩)
end
end L9

namespace L9
open PySem PySem.Spec PyProof.Rows L2 GR
/-- lists of texts of single signs -/
def sg (cs : List Nat) : List V := (cs.map sgn).map V.str
theorem sg_length (cs : List Nat) : (sg cs).length = cs.length := by
  unfold sg
  rw [List.length_map, List.length_map]
theorem sg_snoc (cs : List Nat) (c : Nat) : sg cs ++ [V.str (sgn c)] = sg (cs ++ [c]) := by
  unfold sg
  simp
theorem sg_set (cs : List Nat) (i c : Nat) : (sg cs).set i (V.str (sgn c)) = sg (cs.set i c) := by
  unfold sg
  rw [List.map_set, List.map_set]
theorem sg_get {cs : List Nat} {i c : Nat} (h : cs[i]? = some c) : (sg cs)[i]? = some (V.str (sgn c)) := by
  unfold sg
  rw [List.getElem?_map, List.getElem?_map, h]
  rfl
/-- the signs of a name -/
structure WOk (ws : List Nat) : Prop where
  l1 : 1 ≤ ws.length
  l8 : ws.length ≤ 8
  low : ∀ c, c ∈ ws → Low c
  hd : ws.length = 1 ∨ ∃ c, ws.head? = some c ∧ c ∈ heads
theorem nm_signs {z : Str} {ws : List Nat} (hz : z.cps.toList = ws) (h : WOk ws) : Nm z := by
  refine ⟨by rw [hz]; exact h.l1, by rw [hz]; exact h.l8, by rw [hz]; exact h.low, fun hb => ?_⟩
  obtain ⟨g1, g2⟩ := barred_w z hb
  rw [hz] at g1 g2
  rcases h.hd with e | ⟨c, e, hc⟩
  · omega
  · exact g2 c hc e
theorem WOk.set {ws : List Nat} (h : WOk ws) {i c : Nat} (hi : ws.length = 1 ∨ 1 ≤ i) (hc : Low c) : WOk (ws.set i c) := by
  refine ⟨by rw [List.length_set]; exact h.l1, by rw [List.length_set]; exact h.l8, fun x hx => ?_, ?_⟩
  · rcases List.mem_or_eq_of_mem_set hx with hx | rfl
    · exact h.low x hx
    · exact hc
  · rw [List.length_set]
    rcases h.hd with e | ⟨x, e, hx⟩
    · exact .inl e
    · rcases hi with e1 | hi
      · exact .inl e1
      · refine .inr ⟨x, ?_, hx⟩
        obtain ⟨i, rfl⟩ : ∃ j, i = j + 1 := ⟨i - 1, by omega⟩
        cases ws with
        | nil => simp at e
        | cons y r => simpa using e
theorem heads_low : ∀ c, c ∈ heads → Low c := by unfold Low; decide
theorem sgn_length (cs : List Nat) : ((cs.map sgn).map (·.length)).sum = cs.length := by
  induction cs with
  | nil => rfl
  | cons c r ih =>
    rw [List.map_cons, List.map_cons, List.sum_cons, ih, List.length_cons]
    show 1 + r.length = r.length + 1
    omega
section
variable {P : Program} {w : World} {K : PySem.W.Frag} {mg : Str → Option Value} {base : Heap}
abbrev s_law_names : Stmt := topS 42
abbrev N_names : List Str := ["_law_deck_here", "_law_many", "_law_letters", "_law_k", "_law_word", "_law_at", "_law_first", "_law_found"]
theorem sc_law_names : FnScope N_names ["_law_deck_here", "_law_many"] (defScope s_law_names) := ⟨rfl, rfl, rfl, by decide +kernel, rfl, by decide +kernel, by decide +kernel⟩
/-- a new list of names -/
def sp_names : Sp := fun vs H Q _ => ∃ (d c : Addr) (N : Int) (many : Nat), vs = [.ref d, .int (many : Int)] ∧ Deck H d c N ∧ N < 2 ^ 55 ∧ many ≤ 100 ∧
  ∀ H' p (zs : List Str), Keep d c H H' → Deck H' d c (N + 20) → H p = none → H' p = some (.lst (zs.map V.str)) → zs.length = many → (∀ z, z ∈ zs → Nm z) → Q (.ref p) H'
theorem ok_names {f f_law_draw f_law_pick : Addr} {fd fd_law_draw fd_law_pick : FuncData} {k : Nat} (F : Fun K "_law_names" "_law_names" s_law_names f fd) (G_law_draw : FnOk P w K mg base CX0 k f_law_draw fd_law_draw ["_law_deck_here", "_law_most"] sp_draw)
    (g_law_draw : mg "_law_draw" = some (.ref f_law_draw)) (K_law_draw : PySem.W.keepIn K (.ref f_law_draw) = true) (b_law_draw : Binds K fd_law_draw ["_law_deck_here", "_law_most"] [])
    (G_law_pick : FnOk P w K mg base CX0 k f_law_pick fd_law_pick ["_law_deck_here", "_law_some"] (sp_pick K))
    (g_law_pick : mg "_law_pick" = some (.ref f_law_pick)) (K_law_pick : PySem.W.keepIn K (.ref f_law_pick) = true) (b_law_pick : Binds K fd_law_pick ["_law_deck_here", "_law_some"] [])
    (mrange : mg "range" = none) (mlen : mg "len" = none) : FnOk P w K mg base CX0 (k + 1) f fd ["_law_deck_here", "_law_many"] sp_names := by
  have nd := sc_law_names.nd
  refine F.ok sc_law_names (fun vs H Q E h => ?_) (fun cdv A outer s H vs Q E hr h => ?_)
  · obtain ⟨d, c, N, many, rfl, _⟩ := h
    rfl
  obtain ⟨d, c, N, many, rfl, D, hN, hmany, q⟩ := h
  refine ⟨_, (pss_cons (ps_set (i := 2) nd rfl (.inr rfl) pe_str)
      (Evl.pss_cut (ps_set (i := 4) nd rfl (.inl rfl) (pe_op op_cat (pe_lst (pa_cons (pe_call G_law_pick hr (by rfl) g_law_pick K_law_pick b_law_pick .nil pass0 (pa_cons (pv 0) (pa_cons pe_str pa_nil))) pa_nil)) (pe_lc (own := [("_law_k", 3)]) rfl nd (pi_range1 rfl mrange (pa_cons (pe_call G_law_draw hr (by rfl) g_law_draw K_law_draw b_law_draw .nil pass0 (pa_cons (pv 0) (pa_cons pe_int pa_nil))) pa_nil)) (blkOk_by (N := N_names) (sc := defScope s_law_names) (by decide +kernel)) (fun _ _ _ _ _ => (pg_name (i := 3) nd rfl (Or.inl rfl))) (fun _ _ _ _ _ => pts_nil)
          (te := tCall (sp_pick K) [] E0 (tCons (tVar 0) (tCons (tVar 2) tNil)))
          (fun _ _ _ _ _ => (pe_call G_law_pick hr (by rfl) g_law_pick K_law_pick b_law_pick .nil pass0 (pa_cons (pv 0) (pa_cons (pv 2) pa_nil)))))))
      (Evl.pss_cut (ps_set (i := 5) nd rfl (.inl rfl) (pe_ifExp (pt_cmpR op_eq (pe_callB call_len_seq (by rfl) mlen PySem.boot_len (pa_cons (pv 4) pa_nil)) pe_int (nomark _)) (pe_op op_sub (pe_callB call_len_seq (by rfl) mlen PySem.boot_len (pa_cons (pv 4) pa_nil)) pe_int) (pe_op op_add pe_int (pe_call G_law_draw hr (by rfl) g_law_draw K_law_draw b_law_draw .nil pass0 (pa_cons (pv 0) (pa_cons (pe_op op_sub (pe_callB call_len_seq (by rfl) mlen PySem.boot_len (pa_cons (pv 4) pa_nil)) pe_int) pa_nil))))))
      (pss_cons (ps_set (i := 6) nd rfl (.inl rfl) (pe_bm PySem.F.plainAttrs_str PySem.F.slot_str_index PySem.F.type_str_index mt_sindex (pv 2) (pa_cons (pe_ix ix_list (pv 4) (pv 5) (fun _ _ => rfl)) pa_nil)))
      (pss_cons (ps_set (i := 7) nd rfl (.inl rfl) (pe_lst pa_nil))
      (pss_cons (ps_for PassesOwn.never rfl (pi_range1 rfl mrange (pa_cons (pv 1) pa_nil)) (pg_name (i := 3) nd rfl (Or.inl rfl))
      (pss_cons (ps_asg (pe_ix ix_str (pv 2) (pe_op op_mod (pe_op op_add (pv 6) (pv 3)) pe_int) (fun _ _ => rfl)) (pg_sub (pv 4) (pv 5) set_list))
        (pss_one (ps_expr (pe_bm PySem.F.plainAttrs_list PySem.F.slot_list_append PySem.F.type_list_append mt_append (pv 7) (pa_cons (pe_join pe_str (pv 4)) pa_nil))))))
      (pss_one (ps_ret (pv 7))))))))), ?_⟩
  -- word
  refine ⟨fun σ' H' => ∃ wd ws, σ' = [some (.ref d), some (.int (many : Int)), some (.str L26), none, some (.ref wd), none, none, none] ∧ Keep d c H H' ∧ Deck H' d c (N + 10) ∧ H wd = none ∧ wd ≠ d ∧ wd ≠ c ∧ H' wd = some (.lst (sg ws)) ∧ WOk ws, ?_, ?_⟩
  · refine ⟨.ref d, rfl, .inr (.inr ⟨d, c, N, rfl, D, by omega, fun H0 k0 kp0 D0 hk0 => ?_⟩)⟩
    refine ⟨Nat.le_of_lt (small1000 (show 1 ≤ 1000 by decide)), fun l nl => ?_⟩
    have sl := same_upd (o := .lst [.str (sgn k0)]) nl
    have D1 := D0.same sl
    have hl := D0.new nl
    have hl1 : upd H0 l (.lst [.str (sgn k0)]) l = some (.lst [.str (sgn k0)]) := upd_same
    refine ⟨.ref d, rfl, d, c, N + 1, 8, rfl, D1, by omega, by decide, by decide, fun H1 r k1 D2 r0 r1 => ?_⟩
    obtain ⟨n, rfl⟩ := Int.eq_ofNat_of_zero_le r0
    refine ⟨(n : Int), rfl, by omega, by omega, fun B nB => ?_⟩
    have hB := D2.new nB
    have nlB : l ≠ B := ne_of_none (k1 _ _ hl.1 hl.2 hl1) nB
    have e1n : ((n : Int)).toNat = n := by omega
    rw [e1n]
    refine lc_range (n := n) (fun i H' => ∃ cs, cs.length = i ∧ (∀ x, x ∈ cs → Low x) ∧ H' B = some (.lst (sg cs)) ∧ (∀ b o, b ≠ d → b ≠ c → b ≠ B → H1 b = some o → H' b = some o) ∧ Deck H' d c (N + 2 + (i : Int))) ?_ ?_ ?_
    · refine ⟨[], rfl, fun x hx => (nomatch hx), upd_same, fun b o _ _ nb e => by rw [upd_ne nb]; exact e, ?_⟩
      exact (D2.same (same_upd nB)).mono (by omega)
    · rintro i H3 hi ⟨cs, hlen, hlow, hB3, k3, D3⟩
      refine ⟨rfl, yes_then ⟨.ref d, rfl, .str L26, rfl, .inr (.inl ⟨d, c, _, rfl, D3, by omega, fun H4 j k4 D4 hj => ?_⟩)⟩⟩
      refine ⟨_, k4 _ _ hB.1 hB.2 hB3, ?_, cs ++ [97 + j], ?_, ?_, ?_, ?_, ?_⟩
      · rw [sg_length]
        exact small1000 (by omega)
      · rw [List.length_append, hlen]
        rfl
      · intro x hx
        rcases List.mem_append.mp hx with hx | hx
        · exact hlow x hx
        · rw [List.mem_singleton.mp hx]
          unfold Low
          omega
      · rw [upd_same, sg_snoc]
      · intro b o n1 n2 n3 e
        rw [upd_ne n3]
        exact k4 _ _ n1 n2 (k3 b o n1 n2 n3 e)
      · obtain ⟨cells, m, x, g1, g2, g3, g4, g5⟩ := D4
        refine ⟨cells, m, x, ?_, ?_, g3, g4, by omega⟩
        · rw [upd_ne hB.1.symm]
          exact g1
        · rw [upd_ne hB.2.symm]
          exact g2
    · rintro H3 ⟨cs, hlen, hlow, hB3, k3, D3⟩
      have hl3 := k3 _ _ hl.1 hl.2 nlB (k1 _ _ hl.1 hl.2 hl1)
      refine ⟨l, B, _, _, rfl, rfl, hl3, hB3, ?_, fun wd nwd => ?_⟩
      · rw [sg_length]
        exact small_le (show 1 + cs.length ≤ 1000 by omega)
      have hw := D3.new nwd
      have sw := same_upd (o := .lst ([.str (sgn k0)] ++ sg cs)) nwd
      have k01 : Keep d c H H1 := kp0.trans ((Keep.of sl).trans k1)
      refine ⟨wd, k0 :: cs, rfl, ?_, (D3.same sw).mono (by omega), ?_, hw.1, hw.2, ?_, ⟨by rw [List.length_cons]; omega, by rw [List.length_cons]; omega, ?_, .inr ⟨k0, rfl, hk0⟩⟩⟩
      · intro b o n1 n2 e
        refine sw _ _ (k3 b o n1 n2 ?_ (k01 _ _ n1 n2 e))
        exact ne_of_none (k01 _ _ n1 n2 e) nB
      · cases e : H wd with
        | none => rfl
        | some o =>
          have nb := ne_of_none (k01 _ _ hw.1 hw.2 e) nB
          rw [k3 wd o hw.1 hw.2 nb (k01 _ _ hw.1 hw.2 e)] at nwd
          cases nwd
      · exact upd_same
      · intro x hx
        rcases List.mem_cons.mp hx with rfl | hx
        · exact heads_low _ hk0
        · exact hlow x hx
  rintro σ' H1 ⟨wd, ws, rfl, k1, D1, nwd, hwd, hwc, hw1, ok⟩
  -- at
  refine ⟨fun σ' H' => ∃ at' : Nat, σ' = [some (.ref d), some (.int (many : Int)), some (.str L26), none, some (.ref wd), some (.int (at' : Int)), none, none] ∧ Keep d c H1 H' ∧ Deck H' d c (N + 11) ∧ at' < ws.length ∧ (ws.length = 1 ∨ 1 ≤ at'), ?_, ?_⟩
  · have ol := ok.l1
    have o8 := ok.l8
    refine ⟨.ref wd, rfl, wd, _, rfl, .inl (.inl (.inl hw1)), rfl, _, rfl, ite2 (fun e => ?_) (fun e => ?_)⟩
    · rw [sg_length] at e
      have e1 : ws.length = 1 := by
        have := of_decide_eq_true e
        injection this with this
        omega
      refine ⟨.ref wd, rfl, wd, _, rfl, .inl (.inl (.inl hw1)), _, 1, rfl, rfl, 0, ?_, fun _ _ _ _ e => e, D1.mono (by omega), by omega, .inl e1⟩
      rw [sg_length, e1]
      rfl
    · rw [sg_length] at e
      have e1 : ws.length ≠ 1 := fun h => e (decide_eq_true (by rw [h]; rfl))
      refine ⟨.ref d, rfl, .ref wd, rfl, wd, _, rfl, .inl (.inl (.inl hw1)), _, 1, rfl, rfl, d, c, N + 10, ((sg ws).length : Int) - 1, rfl, D1, by omega, ?_, ?_, fun H2 r k2 D2 r0 r1 => ?_⟩
      · rw [sg_length]
        omega
      · rw [sg_length]
        omega
      rw [sg_length] at r1
      obtain ⟨j, rfl⟩ := Int.eq_ofNat_of_zero_le r0
      exact ⟨_, _, rfl, rfl, j + 1, by rw [show (((j + 1 : Nat)) : Int) = 1 + (j : Int) by omega]; rfl, k2, D2.mono (by omega), by omega, .inr (by omega)⟩
  rintro σ' H2 ⟨j, rfl, k2, D2, hj, hj1⟩
  have hw2 := k2 _ _ hwd hwc hw1
  have hcj : ws[j]? = some ws[j] := List.getElem?_eq_getElem hj
  have hlj := ok.low _ (List.getElem_mem hj)
  obtain ⟨m, hm, hm26⟩ : ∃ m, ws[j] = 97 + m ∧ m < 26 := ⟨ws[j] - 97, by unfold Low at hlj; omega, by unfold Low at hlj; omega⟩
  refine ⟨.str L26, rfl, rfl, .ref wd, rfl, .int ((j : Int)), rfl, wd, _, (j : Int), .str (sgn (97 + m)), rfl, rfl, .inl (.inl hw2), at_of (j := j) (by omega) (by rw [sg_get hcj, hm]), L26, sgn (97 + m), m, [], rfl, rfl, l26_occ m hm26, ?_⟩
  refine ⟨Nat.zero_le _, fun fo nfo => ?_⟩
  have sf := same_upd (o := .lst []) nfo
  have hfo := D2.new nfo
  have nwf : wd ≠ fo := ne_of_none hw2 nfo
  refine ⟨.int (many : Int), rfl, (many : Int), rfl, by omega, by omega, ?_⟩
  have emany : ((many : Int)).toNat = many := by omega
  rw [emany]
  refine for_range (n := many) (fun i σ H' => ∃ (y3 : Option V) (ws' : List Nat) (zs : List Str), σ = [some (.ref d), some (.int (many : Int)), some (.str L26), y3, some (.ref wd), some (.int ((j : Int))), some (.int (m : Int)), some (.ref fo)] ∧ H' wd = some (.lst (sg ws')) ∧ ws'.length = ws.length ∧ WOk ws' ∧
      H' fo = some (.lst (zs.map V.str)) ∧ zs.length = i ∧ (∀ z, z ∈ zs → Nm z) ∧ (∀ b o, b ≠ wd → b ≠ fo → H2 b = some o → H' b = some o)) ?_ ?_ ?_
  · refine ⟨none, ws, [], rfl, ?_, rfl, ok, upd_same, rfl, fun z hz => (nomatch hz), fun b o n1 n2 e => by rw [upd_ne n2]; exact e⟩
    rw [upd_ne nwf]
    exact hw2
  · rintro i σ H3 hi ⟨y3, ws', zs, rfl, hw3, hl3, ok3, hf3, hz3, hnm3, k3⟩
    have hmod : ∃ t : Nat, ((m : Int) + (0 + (i : Int))) % 26 = (t : Int) ∧ t < 26 := ⟨(m + i) % 26, by omega, Nat.mod_lt _ (by decide)⟩
    obtain ⟨t, ht, ht26⟩ := hmod
    refine ⟨.str L26, rfl, .int (m : Int), rfl, .int (0 + (i : Int)), rfl, _, _, rfl, rfl, _, 26, rfl, rfl, (show (0 : Int) < 26 by decide), L26, (t : Int), 97 + t, rfl, congrArg V.int ht, by rw [l26_len]; decide, atI_nat (l26_at t ht26), ?_⟩
    have hix : ixN (sg ws').length ((j : Int)) = some j := by
      unfold ixN
      rw [if_pos (by omega), if_pos (by rw [sg_length]; omega)]
      exact congrArg some (by omega)
    refine ⟨.ref wd, rfl, .int ((j : Int)), rfl, wd, _, (j : Int), j, rfl, rfl, hw3, hix, ?_⟩
    have hset : (sg ws').set j (.str (sgn (97 + t))) = sg (ws'.set j (97 + t)) := sg_set _ _ _
    have hw4 : upd H3 wd (.lst ((sg ws').set j (.str (sgn (97 + t))))) wd = some (.lst (sg (ws'.set j (97 + t)))) := by rw [upd_same, hset]
    have hf4 : upd H3 wd (.lst ((sg ws').set j (.str (sgn (97 + t))))) fo = some (.lst (zs.map V.str)) := by
      rw [upd_ne nwf.symm]
      exact hf3
    refine ⟨.ref fo, rfl, .inl ⟨rfl, _, .inl (.inl hf4)⟩, ⟨_, rfl⟩, .ref wd, rfl, Str.empty, wd, (ws'.set j (97 + t)).map sgn, rfl, rfl, .inl (.inl (.inl hw4)), ?_, fo, _, _, rfl, rfl, hf4, ?_, ?_⟩
    · have o8 := ok.l8
      rw [sgn_length, List.length_map, List.length_set]
      show _ + _ * 0 ≤ _
      omega
    · rw [List.length_map]
      exact small1000 (by omega)
    · refine ⟨_, ws'.set j (97 + t), zs ++ [Txt.join Str.empty ((ws'.set j (97 + t)).map sgn)], rfl, ?_, by rw [List.length_set]; exact hl3, ?_, ?_, by rw [List.length_append, hz3]; rfl, ?_, ?_⟩
      · rw [upd_ne nwf]
        exact hw4
      · exact ok3.set (by rw [hl3]; exact hj1) (by unfold Low; omega)
      · rw [upd_same, List.map_append]
        rfl
      · intro z hz
        rcases List.mem_append.mp hz with hz | hz
        · exact hnm3 z hz
        · rw [List.mem_singleton.mp hz]
          exact nm_signs (join_signs _) (ok3.set (by rw [hl3]; exact hj1) (by unfold Low; omega))
      · intro b o n1 n2 e
        rw [upd_ne n2, upd_ne n1]
        exact k3 b o n1 n2 e
  · rintro σ H3 ⟨y3, ws', zs, rfl, hw3, hl3, ok3, hf3, hz3, hnm3, k3⟩
    have nHfo : H fo = none := (k1.trans k2).free nfo hfo.1 hfo.2
    refine ⟨.ref fo, rfl, q H3 fo zs ?_ ?_ nHfo hf3 hz3 hnm3⟩
    · intro b o n1 n2 e
      exact k3 b o (ne_of_none e nwd) (ne_of_none e nHfo) (k2 _ _ n1 n2 (k1 _ _ n1 n2 e))
    · obtain ⟨cells, mm, x, e1, e2, e3, e4, e5⟩ := D2
      exact ⟨cells, mm, x, k3 _ _ hwd.symm hfo.1.symm e1, k3 _ _ hwc.symm hfo.2.symm e2, e3, e4, by omega⟩
end
end L9

namespace L9
open PySem PySem.Spec PyProof.Rows L2 GR
theorem Deck.upd {H : Hp} {d c p : Addr} {N : Int} {o : HO} (D : Deck H d c N) (h1 : p ≠ d) (h2 : p ≠ c) : Deck (L2.upd H p o) d c N := by
  obtain ⟨cells, m, n, e1, e2, e3⟩ := D
  exact ⟨cells, m, n, by rw [upd_ne h1.symm]; exact e1, by rw [upd_ne h2.symm]; exact e2, e3⟩
def wD (tl cl nl kl : Addr) : List (Key × V) := [(.inr "tables", .ref tl), (.inr "columns", .ref cl), (.inr "names", .ref nl), (.inr "keys", .ref kl)]
theorem wD_t (tl cl nl kl : Addr) : valV (wD tl cl nl kl) (.inr "tables") = some (.ref tl) := valV_pos rfl
theorem wD_c (tl cl nl kl : Addr) : valV (wD tl cl nl kl) (.inr "columns") = some (.ref cl) := (valV_neg (show ¬ ((.inr "tables" : Key) = .inr "columns") by decide)).trans (valV_pos rfl)
theorem wD_n (tl cl nl kl : Addr) : valV (wD tl cl nl kl) (.inr "names") = some (.ref nl) := (valV_neg (show ¬ ((.inr "tables" : Key) = .inr "names") by decide)).trans ((valV_neg (show ¬ ((.inr "columns" : Key) = .inr "names") by decide)).trans (valV_pos rfl))
theorem wD_k (tl cl nl kl : Addr) : valV (wD tl cl nl kl) (.inr "keys") = some (.ref kl) := (valV_neg (show ¬ ((.inr "tables" : Key) = .inr "keys") by decide)).trans ((valV_neg (show ¬ ((.inr "columns" : Key) = .inr "keys") by decide)).trans ((valV_neg (show ¬ ((.inr "names" : Key) = .inr "keys") by decide)).trans (valV_pos rfl)))
/-- the world at u: lists of tables, columns, variables, keys -/
structure Wd (H : Hp) (d c u tl cl nl kl : Addr) (ts cs ns : List Str) (ks : List Int) : Prop where
  dct : H u = some (.dK (wD tl cl nl kl))
  ht : H tl = some (.lst (ts.map V.str))
  hc : H cl = some (.lst (cs.map V.str))
  hn : H nl = some (.lst (ns.map V.str))
  hk : H kl = some (.lst (ks.map V.int))
  t0 : tl ≠ d ∧ tl ≠ c
  c0 : cl ≠ d ∧ cl ≠ c
  n0 : nl ≠ d ∧ nl ≠ c
  k0 : kl ≠ d ∧ kl ≠ c
  u0 : u ≠ d ∧ u ≠ c
  lt : ts.length = 2
  lc : cs.length = 3
  ln : ns.length = 3
  lk : ks.length = 5
  at' : ∀ z, z ∈ ts → Nm z
  ac : ∀ z, z ∈ cs → Nm z
  an : ∀ z, z ∈ ns → Nm z
  ak : ∀ k, k ∈ ks → -2 ≤ k ∧ k ≤ 20
theorem Wd.keep {H H' : Hp} {d c u tl cl nl kl : Addr} {ts cs ns : List Str} {ks : List Int} (W : Wd H d c u tl cl nl kl ts cs ns ks) (k : Keep d c H H') : Wd H' d c u tl cl nl kl ts cs ns ks :=
  ⟨k _ _ W.u0.1 W.u0.2 W.dct, k _ _ W.t0.1 W.t0.2 W.ht, k _ _ W.c0.1 W.c0.2 W.hc, k _ _ W.n0.1 W.n0.2 W.hn, k _ _ W.k0.1 W.k0.2 W.hk, W.t0, W.c0, W.n0, W.k0, W.u0, W.lt, W.lc, W.ln, W.lk, W.at', W.ac, W.an, W.ak⟩
theorem in_nm : Nm "in" := nm_lit (by decide)
theorem cut_map (zs : List Str) (lo hi : Option Int) (a b : Nat) (h1 : HT.sIx zs.length 0 lo = a) (h2 : HT.sIx zs.length zs.length hi = b) : cutV (zs.map V.str) lo hi = ((zs.drop a).take (b - a)).map V.str := by
  unfold cutV
  rw [List.length_map, h1, h2, List.map_take, List.map_drop]
section
variable {P : Program} {w : World} {K : PySem.W.Frag} {mg : Str → Option Value} {base : Heap}
abbrev s_law_world : Stmt := topS 43
abbrev N_wd : List Str := ["_law_deck_here", "_law_names_here", "_law_keys", "_law_k"]
theorem sc_law_world : FnScope N_wd ["_law_deck_here"] (defScope s_law_world) := ⟨rfl, rfl, rfl, by decide +kernel, rfl, by decide +kernel, by decide +kernel⟩
def sp_world : Sp := fun vs H Q _ => ∃ (d c : Addr) (N : Int), vs = [.ref d] ∧ Deck H d c N ∧ N < 2 ^ 54 ∧
  ∀ H' u tl cl nl kl ts cs ns ks, Keep d c H H' → Deck H' d c (N + 30) → H u = none → Wd H' d c u tl cl nl kl ts cs ns ks → Q (.ref u) H'
theorem ok_world {f f_law_draw f_law_names : Addr} {fd fd_law_draw fd_law_names : FuncData} {k : Nat} (F : Fun K "_law_world" "_law_world" s_law_world f fd) (G_law_draw : FnOk P w K mg base CX0 k f_law_draw fd_law_draw ["_law_deck_here", "_law_most"] sp_draw)
    (g_law_draw : mg "_law_draw" = some (.ref f_law_draw)) (K_law_draw : PySem.W.keepIn K (.ref f_law_draw) = true) (b_law_draw : Binds K fd_law_draw ["_law_deck_here", "_law_most"] [])
    (G_law_names : FnOk P w K mg base CX0 k f_law_names fd_law_names ["_law_deck_here", "_law_many"] sp_names)
    (g_law_names : mg "_law_names" = some (.ref f_law_names)) (K_law_names : PySem.W.keepIn K (.ref f_law_names) = true) (b_law_names : Binds K fd_law_names ["_law_deck_here", "_law_many"] []) (mrange : mg "range" = none) : FnOk P w K mg base CX0 (k + 1) f fd ["_law_deck_here"] sp_world := by
  have nd := sc_law_world.nd
  refine F.ok sc_law_world (fun vs H Q E h => ?_) (fun cdv A outer s H vs Q E hr h => ?_)
  · obtain ⟨d, c, N, rfl, _⟩ := h
    rfl
  obtain ⟨d, c, N, rfl, D, hN, q⟩ := h
  refine ⟨_, (pss_cons (ps_set (i := 1) nd rfl (.inl rfl) (pe_call G_law_names hr (by rfl) g_law_names K_law_names b_law_names .nil pass0 (pa_cons (pv 0) (pa_cons pe_int pa_nil))))
      (Evl.pss_cut (ps_if (pt_cmpR op_eq (pe_call G_law_draw hr (by rfl) g_law_draw K_law_draw b_law_draw .nil pass0 (pa_cons (pv 0) (pa_cons pe_int pa_nil))) pe_int (nomark _))
      (pss_one (ps_asg (pe_ix ix_list (pv 1) pe_int (fun _ _ => rfl)) (pg_sub (pv 1) pe_int set_list)))
      pss_nil)
      (Evl.pss_cut (ps_setLc (i := 2) (own := [("_law_k", 3)]) (tt := tYes) (te := tOp (rI0 fun i j => .int (i + j)) (tOp (rI0 fun i j => .int (i - j)) (tCall sp_draw [] E0 (tCons (tVar 0) (tCons (tC (.int 9)) tNil))) (tC (.int 2))) (tOp (rI CMul fun i j => .int (i * j)) (tC (.int 3)) (tVar 3))) rfl nd rfl rfl (sw_true rfl rfl rfl (by decide +kernel)) (pi_range1 rfl mrange (pa_cons pe_int pa_nil)) (blkOk_by (N := N_wd) (sc := defScope s_law_world) (by decide +kernel)) (fun _ _ _ _ _ => (pg_name (i := 3) nd rfl (Or.inl rfl))) (fun _ _ _ _ _ => pts_nil) (fun _ _ _ _ _ => (pe_op op_add (pe_op op_sub (pe_call G_law_draw hr (by rfl) g_law_draw K_law_draw b_law_draw .nil pass0 (pa_cons (pv 0) (pa_cons pe_int pa_nil))) pe_int) (pe_op op_mul pe_int (pv 3)))))
      (pss_one (ps_ret (pe_disp (pps_cons pe_str (pe_slice sl_list (pv 1) po_none (po_some pe_int)) (pps_cons pe_str (pe_op op_cat (pe_slice sl_list (pv 1) (po_some pe_int) (po_some pe_int)) (pe_lst (pa_cons pe_str pa_nil))) (pps_cons pe_str (pe_slice sl_list (pv 1) (po_some pe_int) po_none) (pps_cons pe_str (pe_op op_cat (pv 2) (pe_lst (pa_cons pe_int (pa_cons pe_int (pa_cons pe_int pa_nil))))) pps_nil)))) (by decide) rfl (by simp) (by decide))))))), ?_⟩
  refine ⟨.ref d, rfl, d, c, N, 7, rfl, D, by omega, by decide, fun H1 p zs k1 D1 np hp hlen hnm => ?_⟩
  have hpn : p ≠ d ∧ p ≠ c := by
    obtain ⟨cells, m, n, h1, h2, _⟩ := D
    exact ⟨(ne_of_none h1 np).symm, (ne_of_none h2 np).symm⟩
  refine ⟨fun σ' H' => ∃ zs' : List Str, σ' = [some (.ref d), some (.ref p), none, none] ∧ Keep d c H H' ∧ Deck H' d c (N + 25) ∧ H' p = some (.lst (zs'.map V.str)) ∧ zs'.length = 7 ∧ ∀ z, z ∈ zs' → Nm z, ?_, ?_⟩
  · refine ⟨.ref d, rfl, d, c, _, 4, rfl, D1, by omega, by decide, by decide, fun H2 r k2 D2 r0 r1 => ⟨rfl, _, rfl, ite2 (fun e => ?_) (fun e => ?_)⟩⟩
    · have hp2 := k2 _ _ hpn.1 hpn.2 hp
      have h2 : (zs.map V.str)[2]? = some (.str (zs[2]'(by omega))) := by
        rw [List.getElem?_map, List.getElem?_eq_getElem (by omega)]
        rfl
      refine ⟨.ref p, rfl, p, _, 2, _, rfl, rfl, .inl (.inl hp2), atI_nat (j := 2) h2, .ref p, rfl, p, _, 0, 0, rfl, rfl, hp2, ?_, ?_⟩
      · unfold ixN
        rw [if_pos (by decide), List.length_map, hlen]
        rfl
      rw [← List.map_set]
      refine ⟨_, rfl, fun b o n1 n2 e => ?_, ?_, upd_same, by rw [List.length_set, hlen], fun z hz => ?_⟩
      · rw [upd_ne (ne_of_none e np)]
        exact k2 _ _ n1 n2 (k1 _ _ n1 n2 e)
      · exact (D2.upd hpn.1 hpn.2).mono (by omega)
      · rcases List.mem_or_eq_of_mem_set hz with h | rfl
        · exact hnm z h
        · exact hnm _ (List.getElem_mem _)
    · exact ⟨zs, rfl, k1.trans k2, D2.mono (by omega), k2 _ _ hpn.1 hpn.2 hp, hlen, hnm⟩
  rintro σ' H2 ⟨zs, rfl, k2, D2, hp2, hlen, hnm⟩
  clear k1 D1 hp
  refine ⟨fun σ' H' => ∃ (q2 : Addr) (y : Option V) (ks : List Int), σ' = [some (.ref d), some (.ref p), some (.ref q2), y] ∧ Keep d c H H' ∧ Deck H' d c (N + 28) ∧ H' p = some (.lst (zs.map V.str)) ∧ H' q2 = some (.lst (ks.map V.int)) ∧ ks.length = 2 ∧ ∀ k, k ∈ ks → -2 ≤ k ∧ k ≤ 20, ?_, ?_⟩
  · refine ⟨2, rfl, by decide, by decide, fun B nB => ?_⟩
    have hB := D2.new nB
    have sB := same_upd (o := .lst []) nB
    have npB : p ≠ B := ne_of_none hp2 nB
    refine lc_range (n := 2) (fun i H' => ∃ ks : List Int, ks.length = i ∧ (∀ k, k ∈ ks → -2 ≤ k ∧ k ≤ 20) ∧ H' B = some (.lst (ks.map V.int)) ∧ (∀ b o, b ≠ d → b ≠ c → b ≠ B → H2 b = some o → H' b = some o) ∧ Deck H' d c (N + 25 + (i : Int))) ?_ ?_ ?_
    · exact ⟨[], rfl, fun x hx => (nomatch hx), upd_same, fun b o _ _ nb e => by rw [upd_ne nb]; exact e, (D2.same sB).mono (by omega)⟩
    · rintro i H3 hi ⟨ks, hl, hks, hB3, k3, D3⟩
      refine ⟨rfl, yes_then ⟨.ref d, rfl, d, c, _, 9, rfl, D3, by omega, by decide, by decide, fun H4 r k4 D4 r0 r1 => ?_⟩⟩
      refine ⟨_, _, rfl, rfl, .int (0 + (i : Int)), rfl, _, _, rfl, rfl, .inl ⟨by decide, by decide⟩, _, _, rfl, rfl, ?_⟩
      have eM : (ks.map V.int) ++ [V.int (r - 2 + 3 * (0 + (i : Int)))] = (ks ++ [r - 2 + 3 * (0 + (i : Int))]).map V.int := by rw [List.map_append]; rfl
      refine ⟨_, k4 _ _ hB.1 hB.2 hB3, ?_, ks ++ [r - 2 + 3 * (0 + (i : Int))], ?_, ?_, ?_, ?_, ?_⟩
      · rw [List.length_map]
        exact small1000 (by omega)
      · rw [List.length_append, hl]
        rfl
      · intro k hk
        rcases List.mem_append.mp hk with hk | hk
        · exact hks k hk
        · rw [List.mem_singleton.mp hk]
          omega
      · rw [upd_same, eM]
      · intro b o n1 n2 n3 e
        rw [upd_ne n3]
        exact k4 _ _ n1 n2 (k3 b o n1 n2 n3 e)
      · exact (D4.upd hB.1 hB.2).mono (by omega)
    · rintro H3 ⟨ks, hl, hks, hB3, k3, D3⟩
      have nHB : H B = none := k2.free nB hB.1 hB.2
      exact ⟨B, _, ks, rfl, fun b o n1 n2 e => k3 b o n1 n2 (ne_of_none e nHB) (k2 _ _ n1 n2 e), D3.mono (by omega), k3 _ _ hpn.1 hpn.2 npB hp2, hB3, hl, hks⟩
  clear k2 D2 hp2
  rintro σ' H2 ⟨q2, y3, ks, rfl, k2, D2, hp2, hq2, hlk, hks⟩
  intro u nu
  have su := same_upd (o := .dK []) nu
  have hu := D2.new nu
  refine ⟨.ref p, rfl, 2, rfl, p, _, rfl, .inl (.inl (su _ _ hp2)), fun tl ntl => ?_⟩
  have e1 := cut_map zs none (some 2) 0 2 rfl (by rw [show (some (2 : Int)) = some ((2 : Nat) : Int) from rfl, HT.sIx_nat, hlen]; rfl)
  have e2 := cut_map zs (some 2) (some 4) 2 4 (by rw [show (some (2 : Int)) = some ((2 : Nat) : Int) from rfl, HT.sIx_nat, hlen]; rfl) (by rw [show (some (4 : Int)) = some ((4 : Nat) : Int) from rfl, HT.sIx_nat, hlen]; rfl)
  have e3 := cut_map zs (some 4) none 4 7 (by rw [show (some (4 : Int)) = some ((4 : Nat) : Int) from rfl, HT.sIx_nat, hlen]; rfl) (by rw [HT.sIx_none, hlen])
  rw [e1]
  have s1 := same_upd (o := .lst (((zs.drop 0).take (2 - 0)).map V.str)) ntl
  refine ⟨.ref p, rfl, 2, rfl, 4, rfl, p, _, rfl, .inl (.inl (s1 _ _ (su _ _ hp2))), fun ml nml => ?_⟩
  rw [e2]
  have s2 := same_upd (o := .lst (((zs.drop 2).take (4 - 2)).map V.str)) nml
  refine ⟨small_le (show 1 ≤ 1000 by decide), fun il nil => ?_⟩
  have s3 := same_upd (o := .lst [.str "in"]) nil
  have l2 : ((zs.drop 2).take (4 - 2)).length = 2 := by rw [List.length_take, List.length_drop, hlen]; rfl
  refine ⟨ml, il, _, _, rfl, rfl, s3 _ _ upd_same, upd_same, by rw [List.length_map, l2]; exact small_le (show 3 ≤ 1000 by decide), fun cl ncl => ?_⟩
  have ec : (((zs.drop 2).take (4 - 2)).map V.str) ++ [V.str "in"] = (((zs.drop 2).take (4 - 2)) ++ [("in" : Str)]).map V.str := by rw [List.map_append]; rfl
  rw [ec]
  have s4 := same_upd (o := .lst ((((zs.drop 2).take (4 - 2)) ++ [("in" : Str)]).map V.str)) ncl
  refine ⟨.ref p, rfl, 4, rfl, p, _, rfl, .inl (.inl (s4 _ _ (s3 _ _ (s2 _ _ (s1 _ _ (su _ _ hp2)))))), fun nl nnl => ?_⟩
  rw [e3]
  have s5 := same_upd (o := .lst (((zs.drop 4).take (7 - 4)).map V.str)) nnl
  refine ⟨.ref q2, rfl, ?_⟩
  have s45 := s4.trans s5
  have s25 := s2.trans (s3.trans s45)
  have s15 := s1.trans s25
  have u5 := s15 _ _ (show upd H2 u (.dK []) u = _ from upd_same)
  have t5 := s25 _ _ (show upd (upd H2 u (.dK [])) tl (.lst (((zs.drop 0).take (2 - 0)).map V.str)) tl = _ from upd_same)
  have c5 := s5 _ _ (show upd (upd (upd (upd (upd H2 u (.dK [])) tl (.lst (((zs.drop 0).take (2 - 0)).map V.str))) ml (.lst (((zs.drop 2).take (4 - 2)).map V.str))) il (.lst [.str "in"])) cl (.lst ((((zs.drop 2).take (4 - 2)) ++ [("in" : Str)]).map V.str)) cl = _ from upd_same)
  have n5 : upd (upd (upd (upd (upd (upd H2 u (.dK [])) tl (.lst (((zs.drop 0).take (2 - 0)).map V.str))) ml (.lst (((zs.drop 2).take (4 - 2)).map V.str))) il (.lst [.str "in"])) cl (.lst ((((zs.drop 2).take (4 - 2)) ++ [("in" : Str)]).map V.str))) nl (.lst (((zs.drop 4).take (7 - 4)).map V.str)) nl = _ := upd_same
  have s05 := su.trans s15
  have dtl := D2.new (su.free ntl)
  have dcl := (D2.same (su.trans (s1.trans (s2.trans s3)))).new ncl
  have dnl := (D2.same (su.trans (s1.trans (s2.trans (s3.trans s4))))).new nnl
  clear nnl ncl nil nml ntl s1 s2 s3 s4 s5 s45 s25
  revert u5 t5 c5 n5 s05
  clear s15
  generalize upd (upd (upd (upd (upd (upd H2 u (.dK [])) tl (.lst (((zs.drop 0).take (2 - 0)).map V.str))) ml (.lst (((zs.drop 2).take (4 - 2)).map V.str))) il (.lst [.str "in"])) cl (.lst ((((zs.drop 2).take (4 - 2)) ++ [("in" : Str)]).map V.str))) nl (.lst (((zs.drop 4).take (7 - 4)).map V.str)) = H6
  intro u5 t5 c5 n5 s05
  refine ⟨small_le (show 3 ≤ 1000 by decide), fun jl njl => ?_⟩
  have s6 := same_upd (o := .lst [.int 0, .int 1, .int 2]) njl
  refine ⟨q2, jl, _, _, rfl, rfl, s6 _ _ (s05 _ _ hq2), upd_same, by rw [List.length_map, hlk]; exact small_le (show 5 ≤ 1000 by decide), fun kl nkl => ?_⟩
  have ek : (ks.map V.int) ++ [V.int 0, V.int 1, V.int 2] = (ks ++ [0, 1, 2]).map V.int := by rw [List.map_append]; rfl
  rw [ek]
  have s7 := same_upd (o := .lst ((ks ++ [0, 1, 2]).map V.int)) nkl
  have s67 := s6.trans s7
  have dkl := (D2.same (s05.trans s6)).new nkl
  have k7 : upd (upd H6 jl (.lst [.int 0, .int 1, .int 2])) kl (.lst ((ks ++ [0, 1, 2]).map V.int)) kl = _ := upd_same
  replace u5 := s67 _ _ u5
  replace t5 := s67 _ _ t5
  replace c5 := s67 _ _ c5
  replace n5 := s67 _ _ n5
  replace s05 := s05.trans s67
  clear s6 s7 s67 nkl njl
  revert u5 t5 c5 n5 s05 k7
  generalize upd (upd H6 jl (.lst [.int 0, .int 1, .int 2])) kl (.lst ((ks ++ [0, 1, 2]).map V.int)) = H7
  intro k7 u5 t5 c5 n5 s05
  have tu : tl ≠ u := ne_of t5 u5 (fun z => by cases z)
  have cu : cl ≠ u := ne_of c5 u5 (fun z => by cases z)
  have nu' : nl ≠ u := ne_of n5 u5 (fun z => by cases z)
  have ku : kl ≠ u := ne_of k7 u5 (fun z => by cases z)
  have nHu : H u = none := k2.free nu hu.1 hu.2
  refine ⟨u5, wD tl cl nl kl, rfl, (show 4 ≤ 15 by decide), q _ u tl cl nl kl ((zs.drop 0).take (2 - 0)) ((zs.drop 2).take (4 - 2) ++ [("in" : Str)]) ((zs.drop 4).take (7 - 4)) (ks ++ [0, 1, 2]) (fun b o n1 n2 e => ?_) (((D2.same s05).upd hu.1 hu.2).mono (by omega)) nHu ?_⟩
  · rw [upd_ne (ne_of_none e nHu)]
    exact s05 _ _ (k2 _ _ n1 n2 e)
  · refine ⟨upd_same, by rw [upd_ne tu]; exact t5, by rw [upd_ne cu]; exact c5, by rw [upd_ne nu']; exact n5, by rw [upd_ne ku]; exact k7, dtl, dcl, dnl, dkl, hu, by rw [List.length_take, List.length_drop, hlen]; rfl, by rw [List.length_append, l2]; rfl, by rw [List.length_take, List.length_drop, hlen]; rfl, by rw [List.length_append, hlk]; rfl, fun z hz => hnm z (List.mem_of_mem_drop (List.mem_of_mem_take hz)), fun z hz => ?_, fun z hz => hnm z (List.mem_of_mem_drop (List.mem_of_mem_take hz)), fun k hk => ?_⟩
    · rcases List.mem_append.mp hz with h | h
      · exact hnm z (List.mem_of_mem_drop (List.mem_of_mem_take h))
      · rw [List.mem_singleton.mp h]
        exact in_nm
    · rcases List.mem_append.mp hk with h | h
      · exact hks k h
      · simp only [List.mem_cons, List.not_mem_nil, or_false] at h
        rcases h with rfl | rfl | rfl <;> decide
end
end L9

namespace GR
open PySem PySem.Spec PyProof.Rows L2
theorem FnG.mono {P : Program} {w : World} {K : PySem.W.Frag} {mg : Str → Option Value} {base : Heap} {CX : CXT} {j k : Nat} {f : Addr} {fd : FuncData} {ps : List Str} {sp : Sp} (F : FnG P w K mg base CX j f fd ps sp) (h : j ≤ k) : FnG P w K mg base CX k f fd ps sp :=
  ⟨F.size, fun A outer s H args us vs Q E g hr => F.go A outer s H args us vs Q E g (hr.mono h)⟩
/-! ### the signs of what repr shows -/
abbrev SO (x : Str) : Prop := ∀ c, c ∈ x.cps.toList → c < 0x110000
theorem so_iff {x : Str} : PyData.strOk x = true ↔ SO x := by
  unfold PyData.strOk
  rw [Array.all_eq_true']
  constructor
  · intro h c hc
    have := h c (by simpa using hc)
    simpa using this
  · intro h c hc
    have := h c (by simpa using hc)
    simpa using this
theorem so_append {x y : Str} (hx : SO x) (hy : SO y) : SO (x ++ y) := fun c hc => by
  rcases mem_cps_append.mp hc with h | h
  · exact hx c h
  · exact hy c h
theorem so_join {sep : Str} (hs : SO sep) {ts : List Str} (h : ∀ t, t ∈ ts → SO t) : SO (Str.join sep ts) := fun c hc => by
  rcases (mem_join sep c ts).mp hc with ⟨t, ht, hc⟩ | ⟨_, hc⟩
  · exact h t ht c hc
  · exact hs c hc
theorem hex_so (w c : Nat) : ∀ k, k ∈ List.replicate (w - ((Nat.toDigits 16 c).map Char.toNat).length) 48 ++ (Nat.toDigits 16 c).map Char.toNat → k < 0x110000 := by
  intro k hk
  rcases List.mem_append.mp hk with h | h
  · have := List.eq_of_mem_replicate h
    omega
  · obtain ⟨ch, _, rfl⟩ := List.mem_map.mp h
    have := ch.valid
    have e : ch.toNat = ch.val.toNat := rfl
    rcases this with h | ⟨_, h⟩
    · have h' : ch.val.toNat < 0xd800 := h
      omega
    · have h' : ch.val.toNat < 0x110000 := h
      omega
theorem reprChar_so {q c : Nat} (hc : c < 0x110000) : ∀ k, k ∈ Builtin.Str.reprChar q c → k < 0x110000 := by
  intro k hk
  have h8 := hex_so 8 c k
  have h4 := hex_so 4 c k
  have h2 := hex_so 2 c k
  unfold Builtin.Str.reprChar at hk
  dsimp only at hk
  repeat' split at hk
  all_goals first
    | (rcases List.mem_append.mp hk with hk | hk
       · (simp only [List.mem_cons, List.not_mem_nil, or_false] at hk; omega)
       · first | exact h2 hk | exact h4 hk | exact h8 hk)
    | (simp only [List.mem_cons, List.not_mem_nil, or_false] at hk; omega)
theorem fold_so {q : Nat} : ∀ (l : List Nat) (acc : Array Nat), (∀ c, c ∈ l → c < 0x110000) → (∀ c, c ∈ acc.toList → c < 0x110000) → ∀ c, c ∈ (l.foldl (fun out c => out ++ (Builtin.Str.reprChar q c).toArray) acc).toList → c < 0x110000
  | [], acc, _, h => h
  | d :: r, acc, hl, h => by
    rw [List.foldl_cons]
    refine fold_so r _ (fun c hc => hl c (List.mem_cons_of_mem _ hc)) fun c hc => ?_
    rw [Array.toList_append, List.mem_append] at hc
    rcases hc with hc | hc
    · exact h c hc
    · exact reprChar_so (hl d List.mem_cons_self) c (by simpa using hc)
theorem repr_so {x : Str} (h : SO x) : SO (reprText x) := fun c hc => by
  have hq : reprQuote x < 0x110000 := by
    unfold reprQuote
    split <;> decide
  unfold reprText at hc
  have hc' : c ∈ ((x.cps.foldl (fun out c => out ++ (Builtin.Str.reprChar (reprQuote x) c).toArray) #[reprQuote x]).push (reprQuote x)).toList := hc
  rw [Array.toList_push, List.mem_append] at hc'
  rcases hc' with hc' | hc'
  · rw [← Array.foldl_toList] at hc'
    refine fold_so x.cps.toList _ h (fun c hc => ?_) c hc'
    have : c = reprQuote x := by simpa using hc
    rw [this]
    exact hq
  · have : c = reprQuote x := by simpa using hc'
    rw [this]
    exact hq
mutual
theorem shown_so : ∀ d : PyData, d.canLay0 = true → SO d.shown
  | .none, _ => by rw [PyData.shown_none]; decide
  | .bool b, _ => by
    rw [PyData.shown_bool]
    cases b <;> decide
  | .int i, _ => fun c hc => by
    by_cases h : 57 < c
    · exact absurd hc (shown_int_free' (k := c) ⟨by omega, .inr h⟩ i)
    · omega
  | .str x, h => by
    rw [PyData.shown_str]
    exact repr_so (so_iff.mp (by simpa [PyData.canLay0] using h))
  | .list xs, h => by
    rw [PyData.shown_list]
    exact so_append (so_append (by decide) (so_join (by decide) (shownAll_so xs (by simpa [PyData.canLay0] using h)))) (by decide)
  | .tuple xs, h => by
    rw [PyData.shown_tuple]
    refine so_append (so_append (by decide) (so_join (by decide) (shownAll_so xs (by simpa [PyData.canLay0] using h)))) ?_
    split <;> decide
  | .dict _, h => by simp [PyData.canLay0] at h
theorem shownAll_so : ∀ xs : List PyData, PyData.canLayAll0 xs = true → ∀ t, t ∈ PyData.shownAll xs → SO t
  | [], _, t, ht => by rw [PyData.shownAll_nil] at ht; exact absurd ht (by simp)
  | x :: xs, h, t, ht => by
    have h' : x.canLay0 = true ∧ PyData.canLayAll0 xs = true := by simpa [PyData.canLayAll0] using h
    rw [PyData.shownAll_cons, List.mem_cons] at ht
    rcases ht with rfl | ht
    · exact shown_so x h'.1
    · exact shownAll_so xs h'.2 t ht
end
theorem shown_ok {d : PyData} (h : d.canLay0 = true) : PyData.strOk d.shown = true := so_iff.mpr (shown_so d h)
section
variable {X : Cx} {pins : List (Addr × Obj)} {σ : L2.St} {H : Hp} {s : Shared}
/-- repr of a truth -/
def rReprB : List V → Hp → VK → Prop := fun xs H Q => ∃ b, xs = [.bl b] ∧ Q (.str (PyData.bool b).shown) H
theorem call_reprB : CallR X (.builtin "repr") rReprB := by
  intro pins s σ H xs us Q I r h
  obtain ⟨b, rfl, q⟩ := h
  obtain ⟨u, rfl, rv⟩ := vals1 r
  obtain rfl : u = Value.bool b := rv
  rw [PyData.shown_bool] at q
  exact P.repr_of_bool ⟨.str _, H, I.kept fun _ _ e => e, ⟨_, rfl⟩, q⟩
end
end GR

namespace L9
open PySem PySem.Spec PyProof.Rows L2 GR
/-! ### data of tuples, texts and ints -/
mutual
/-- no lists in it -/
def flatD : PyData → Bool
  | .tuple ds => flatDs ds
  | .int _ => true
  | .str _ => true
  | .bool _ => true
  | .none => true
  | _ => false
def flatDs : List PyData → Bool
  | [] => true
  | d :: ds => flatD d && flatDs ds
end
theorem flatDs_of : ∀ {ds : List PyData}, (∀ d, d ∈ ds → flatD d = true) → flatDs ds = true
  | [], _ => by rw [flatDs]
  | d :: ds, h => by
    rw [flatDs, h d List.mem_cons_self, flatDs_of fun x hx => h x (List.mem_cons_of_mem _ hx)]
    rfl
/-- the tuples stay -/
def KeepT (H H' : Hp) : Prop := (∀ b xs, H b = some (.tup xs) → H' b = some (.tup xs)) ∧ ∀ b o xs, H b = some (.frz o (.tup xs)) → H' b = some (.frz o (.tup xs))
theorem KeepT.of {H H' : Hp} (s : Same H H') : KeepT H H' := ⟨fun b xs e => s b _ e, fun b o xs e => s b _ e⟩
theorem KeepT.refl {H : Hp} : KeepT H H := ⟨fun _ _ e => e, fun _ _ _ e => e⟩
theorem KeepT.trans {H H1 H2 : Hp} (a : KeepT H H1) (b : KeepT H1 H2) : KeepT H H2 := ⟨fun x xs e => b.1 x xs (a.1 x xs e), fun x o xs e => b.2 x o xs (a.2 x o xs e)⟩
theorem KeepT.seqt {K : PySem.W.Frag} {H H' : Hp} (s : KeepT H H') {a : Addr} {xs : List V} (h : SqT K H a xs) : SqT K H' a xs := by
  rcases h with (h | ⟨o, h⟩) | h
  · exact .inl (.inl (s.1 _ _ h))
  · exact .inl (.inr ⟨o, s.2 _ _ _ h⟩)
  · exact .inr h
theorem KeepT.upd {H : Hp} {a : Addr} {o : HO} (ha : ∀ xs, H a ≠ some (.tup xs)) (hb : ∀ u xs, H a ≠ some (.frz u (.tup xs))) : KeepT H (L2.upd H a o) := by
  refine ⟨fun b xs e => ?_, fun b u xs e => ?_⟩
  · have : b ≠ a := by
      rintro rfl
      exact ha xs e
    rw [upd_ne this]
    exact e
  · have : b ≠ a := by
      rintro rfl
      exact hb u xs e
    rw [upd_ne this]
    exact e
theorem KeepT.lst {H : Hp} {a : Addr} {ys : List V} {o : HO} (h : H a = some (.lst ys)) : KeepT H (L2.upd H a o) := KeepT.upd (fun xs e => by rw [h] at e; cases e) (fun u xs e => by rw [h] at e; cases e)
theorem KeepT.dk {H : Hp} {a : Addr} {ys : List (Key × V)} {o : HO} (h : H a = some (.dK ys)) : KeepT H (L2.upd H a o) := KeepT.upd (fun xs e => by rw [h] at e; cases e) (fun u xs e => by rw [h] at e; cases e)
theorem KeepT.non {H : Hp} {a : Addr} {o : HO} (h : H a = none) : KeepT H (L2.upd H a o) := KeepT.of (same_upd h)
theorem Keep.t {H H' : Hp} {d c : Addr} {N : Int} (k : Keep d c H H') (D : Deck H d c N) : KeepT H H' := by
  obtain ⟨cells, m, n, h1, h2, _⟩ := D
  exact ⟨fun b xs e => k _ _ (ne_of e h1 (fun z => by cases z)) (ne_of e h2 (fun z => by cases z)) e,
    fun b o xs e => k _ _ (ne_of e h1 (fun z => by cases z)) (ne_of e h2 (fun z => by cases z)) e⟩
mutual
theorem dp_keep {K : PySem.W.Frag} {H H' : Hp} (s : KeepT H H') : ∀ (d : PyData) (v : V), flatD d = true → Dp K H v d → Dp K H' v d
  | .none, _, _, h => by
    cases h
    exact .non
  | .bool b, _, _, h => by
    cases h
    exact .bl b
  | .int i, _, _, h => by
    cases h
    exact .int i
  | .str z, _, _, h => by
    cases h
    exact .str z
  | .tuple ds, _, hf, h => by
    cases h with
    | tup h1 h2 => exact .tup (s.seqt h1) (dp_keepAll s ds _ (by rw [flatD] at hf; exact hf) h2)
  | .list ds, _, hf, h => by simp only [flatD, Bool.false_eq_true] at hf
  | .dict ds, _, hf, h => by cases h
theorem dp_keepAll {K : PySem.W.Frag} {H H' : Hp} (s : KeepT H H') : ∀ (ds : List PyData) (vs : List V), flatDs ds = true → DpAll K H vs ds → DpAll K H' vs ds
  | [], _, _, h => by
    cases h
    exact .nil
  | d :: ds, _, hf, h => by
    rw [flatDs, Bool.and_eq_true] at hf
    cases h with
    | cons h1 h2 => exact .cons (dp_keep s d _ hf.1 h1) (dp_keepAll s ds _ hf.2 h2)
end
theorem dpAll_len {K : PySem.W.Frag} {H : Hp} : ∀ {vs : List V} {ds : List PyData}, DpAll K H vs ds → vs.length = ds.length
  | [], _, h => by
    cases h
    rfl
  | v :: vs, _, h => by
    cases h with
    | cons _ h2 => rw [List.length_cons, List.length_cons, dpAll_len h2]
theorem dpAll_append {K : PySem.W.Frag} {H : Hp} : ∀ {vs us : List V} {ds es : List PyData}, DpAll K H vs ds → DpAll K H us es → DpAll K H (vs ++ us) (ds ++ es)
  | [], _, _, _, h, g => by
    cases h
    exact g
  | v :: vs, _, _, _, h, g => by
    cases h with
    | cons h1 h2 => exact .cons h1 (dpAll_append h2 g)
theorem dpAll_at {K : PySem.W.Frag} {H : Hp} : ∀ {vs : List V} {ds : List PyData} {i : Nat} {v : V}, DpAll K H vs ds → vs[i]? = some v → ∃ d, ds[i]? = some d ∧ Dp K H v d
  | _, _, 0, v, .cons h _, e => by
    cases e
    exact ⟨_, rfl, h⟩
  | _, _, i + 1, v, .cons _ h, e => by
    rw [List.getElem?_cons_succ] at e ⊢
    exact dpAll_at h e
  | _, _, _, _, .nil, e => by simp at e
theorem flatDs_append : ∀ {xs ys : List PyData}, flatDs xs = true → flatDs ys = true → flatDs (xs ++ ys) = true
  | [], _, _, h => h
  | x :: xs, ys, h, g => by
    rw [flatDs, Bool.and_eq_true] at h
    rw [List.cons_append, flatDs, h.1, flatDs_append h.2 g]
    rfl
theorem new_tup {K : PySem.W.Frag} {H : Hp} {vs : List V} {ds : List PyData} {p : Addr} (hd : DpAll K H vs ds) (hf : flatDs ds = true) (np : H p = none) : Dp K (upd H p (.tup vs)) (.ref p) (.tuple ds) := .tup (.inl (.inl upd_same)) (dp_keepAll (KeepT.non np) _ _ hf hd)
/-! ### how long a text is -/
def sl (d : PyData) : Nat := d.shown.length
def sls : List PyData → Nat
  | [] => 0
  | d :: ds => sl d + 2 + sls ds
theorem sls_eq : ∀ ds : List PyData, ((PyData.shownAll ds).map (·.length)).sum + 2 * ds.length = sls ds
  | [] => by simp only [PyData.shownAll, List.map_nil, List.sum_nil, List.length_nil, sls]
  | d :: ds => by
    have := sls_eq ds
    simp only [PyData.shownAll, List.map_cons, List.sum_cons, List.length_cons, sls, sl]
    omega
theorem sls_append : ∀ (xs ys : List PyData), sls (xs ++ ys) = sls xs + sls ys
  | [], ys => by simp only [List.nil_append, sls, Nat.zero_add]
  | x :: xs, ys => by
    have := sls_append xs ys
    simp only [List.cons_append, sls]
    omega
theorem sls_le {b : PyData → Nat} : ∀ {ds : List PyData}, (∀ d, d ∈ ds → sl d + 2 ≤ b d) → sls ds ≤ (ds.map b).sum
  | [], _ => Nat.le_refl _
  | d :: ds, h => by
    have h1 := h d List.mem_cons_self
    have h2 := sls_le fun x hx => h x (List.mem_cons_of_mem _ hx)
    simp only [sls, List.map_cons, List.sum_cons]
    omega
theorem sl_tup (ds : List PyData) : sl (.tuple ds) ≤ sls ds + 3 := by
  have h1 := tupleText_len_le (PyData.shownAll ds)
  have h2 := sls_eq ds
  rw [PyData.shownAll_length] at h1
  unfold sl
  simp only [PyData.shown]
  omega
theorem sl_lst (ds : List PyData) : sl (.list ds) ≤ sls ds + 3 := by
  have h1 := listText_len_le (PyData.shownAll ds)
  have h2 := sls_eq ds
  rw [PyData.shownAll_length] at h1
  unfold sl
  simp only [PyData.shown]
  omega
theorem sl_name {z : Str} (h : Nm z) : sl (.str z) ≤ 82 := by
  obtain ⟨_, h2, h3, _⟩ := h
  have e := StrLaws.reprText_len z fun c hc => Nat.lt_of_le_of_lt (h3 c hc).2 (by decide)
  have e2 : z.length = z.cps.toList.length := by
    rw [Array.length_toList]
    rfl
  unfold sl
  rw [PyData.shown_str]
  omega
theorem int_nat {n : Int} (h1 : -(10 ^ 18) ≤ n) (h2 : n ≤ 10 ^ 18) : n.natAbs ≤ 1000000000000000000 := by omega
theorem int_log {n : Int} (h1 : -(10 ^ 18) ≤ n) (h2 : n ≤ 10 ^ 18) : n.natAbs.log2 < 60 := by
  by_cases e : n.natAbs = 0
  · rw [e]; decide
  · exact (Nat.log2_lt e).mpr (Nat.lt_of_le_of_lt (int_nat h1 h2) (by decide))
theorem sl_int {n : Int} (h1 : -(10 ^ 18) ≤ n) (h2 : n ≤ 10 ^ 18) : sl (.int n) ≤ 20 := by
  have e := int_text_length_le10 (k := 19) (by decide) (Nat.lt_of_le_of_lt (int_nat h1 h2) (by decide : 1000000000000000000 < 10 ^ 19))
  unfold sl
  rw [PyData.shown_int, PySem.ofString_length]
  exact e

theorem words_len : ∀ w, w ∈ (["int", "key", "var", "cell", "if", "+", "-", "*", "<", "=", "at", "count", "sum", "most", "first", "in", "let", "need", "tell", "put", "each"] : List Str) → sl (.str w) ≤ 7 := by
  have : ∀ w, w ∈ (["int", "key", "var", "cell", "if", "+", "-", "*", "<", "=", "at", "count", "sum", "most", "first", "in", "let", "need", "tell", "put", "each"] : List Str) → (reprText w).length ≤ 7 := by decide +kernel
  intro w hw
  unfold sl
  rw [PyData.shown_str]
  exact this w hw
/-! ### what is drawn -/
/-- data of tuples, texts and ints, of a bounded depth and length -/
structure Fine (k m : Nat) (x : PyData) : Prop where
  flat : flatD x = true
  shw : x.showable = true
  dep : x.depth ≤ k
  len : sl x + 2 ≤ m
theorem Fine.mono {k m k' m' : Nat} {x : PyData} (h : Fine k m x) (h1 : k ≤ k') (h2 : m ≤ m') : Fine k' m' x := ⟨h.flat, h.shw, Nat.le_trans h.dep h1, Nat.le_trans h.len h2⟩
theorem Fine.str {z : Str} (h : Nm z) : Fine 0 84 (.str z) := ⟨by simp only [flatD], by simp only [PyData.showable], by simp only [PyData.depth]; omega, by have := sl_name h; omega⟩
theorem Fine.word {w : Str} (h : w ∈ (["int", "key", "var", "cell", "if", "+", "-", "*", "<", "=", "at", "count", "sum", "most", "first", "in", "let", "need", "tell", "put", "each"] : List Str)) : Fine 0 9 (.str w) := ⟨by simp only [flatD], by simp only [PyData.showable], by simp only [PyData.depth]; omega, by have := words_len w h; omega⟩
theorem Fine.int {n : Int} (h1 : -(10 ^ 18) ≤ n) (h2 : n ≤ 10 ^ 18) : Fine 0 22 (.int n) := ⟨by simp only [flatD], by
  have := int_log h1 h2
  simp only [PyData.showable]
  exact decide_eq_true (by omega), by simp only [PyData.depth]; omega, by have := sl_int h1 h2; omega⟩
/-- parts of a tuple, with their lengths in all -/
inductive Fines (k : Nat) : Nat → List PyData → Prop
  | nil : Fines k 0 []
  | cons {m n : Nat} {x : PyData} {xs : List PyData} : Fine k m x → Fines k n xs → Fines k (m + n) (x :: xs)
theorem Fines.all {k n : Nat} {xs : List PyData} (h : Fines k n xs) : flatDs xs = true ∧ PyData.showableAll xs = true ∧ PyData.depthAll xs ≤ k ∧ sls xs ≤ n := by
  induction h with
  | nil => exact ⟨by simp only [flatDs], by simp only [PyData.showableAll], by simp only [PyData.depthAll]; omega, Nat.le_refl _⟩
  | cons h1 _ ih =>
    obtain ⟨a, b, c, d⟩ := ih
    refine ⟨by simp only [flatDs, h1.flat, a, Bool.and_self], by simp only [PyData.showableAll, h1.shw, b, Bool.and_self], ?_, ?_⟩
    · have := h1.dep
      simp only [PyData.depthAll]
      omega
    · have := h1.len
      simp only [sls]
      omega
theorem Fines.tup {k n : Nat} {xs : List PyData} (h : Fines k n xs) : Fine (k + 1) (n + 5) (.tuple xs) := by
  obtain ⟨a, b, c, d⟩ := h.all
  refine ⟨by simp only [flatD, a], by simp only [PyData.showable, b], by simp only [PyData.depth]; omega, ?_⟩
  have := sl_tup xs
  omega
theorem Fine.k0 {k m : Nat} {x : PyData} (h : Fine 0 m x) : Fine k m x := h.mono (Nat.zero_le _) (Nat.le_refl _)
end L9

namespace L9
open PySem PySem.Spec PyProof.Rows L2 GR
/-! ### expressions by their form (a let only where the sign + is told among the names): names of tables and columns among zs, variables among sc, a key only where b -/
abbrev ops5 : List Str := ["+", "-", "*", "<", "="]
abbrev aggk : List (Str × Nat × Nat) := [("count", 0, 0), ("sum", 1, 0), ("most", 1, 1), ("first", 0, 1)]
/-- the X of a plain aggregate -/
def rowX (t : Str) : PyData := .tuple [.str "cell", .str t, .tuple [.str "key"], .str "in"]
inductive Cx (zs sc : List Str) : Bool → Nat → PyData → Prop
  | int (b : Bool) (n : Nat) (i : Int) : -(10 ^ 18) ≤ i → i ≤ 10 ^ 18 → Cx zs sc b (n + 1) (.tuple [.str "int", .int i])
  | let_ (b : Bool) (n : Nat) (i : Int) : ("+" : Str) ∈ zs → 0 ≤ i → i ≤ 10000 → Cx zs sc b (n + 1) (.tuple [.str "let", .int i])
  | key (n : Nat) : Cx zs sc true (n + 1) (.tuple [.str "key"])
  | var (b : Bool) (n : Nat) (z : Str) : z ∈ sc → Cx zs sc b (n + 1) (.tuple [.str "var", .str z])
  | cell (b : Bool) (n : Nat) (t v : Str) (x : PyData) : (t ∈ zs ∧ t ≠ "#") → (v ∈ zs ∧ v ≠ "#") → Cx zs sc b n x → Cx zs sc b (n + 1) (.tuple [.str "cell", .str t, x, .str v])
  | op (b : Bool) (n : Nat) (o : Str) (x y : PyData) : o ∈ ops5 → Cx zs sc b n x → Cx zs sc b n y → Cx zs sc b (n + 1) (.tuple [.str o, x, y])
  | at_ (b : Bool) (n : Nat) (x y : PyData) : Cx zs sc b n x → Cx zs sc true n y → Cx zs sc b (n + 1) (.tuple [.str "at", x, y])
  | iff (b : Bool) (n : Nat) (x y z : PyData) : Cx zs sc b n x → Cx zs sc b n y → Cx zs sc b n z → Cx zs sc b (n + 1) (.tuple [.str "if", x, y, z])
  | agg (b : Bool) (n : Nat) (o t : Str) (p : PyData) (xs vs ds : List PyData) : ("#" : Str) ∈ zs → 2 ≤ n → (o, vs.length, ds.length) ∈ aggk → (t ∈ zs ∧ t ≠ "#") → xs.length ≤ 0 → (∀ x, x ∈ xs → Cx zs sc b 1 x) → Cx zs sc true n p → (∀ x, x ∈ vs → Cx zs sc true n x) → (∀ x, x ∈ ds → Cx zs sc b n x) →
      Cx zs sc b (n + 1) (.tuple (.str o :: .str t :: .tuple xs :: rowX t :: p :: (vs ++ ds)))
theorem Cx.mono {zs sc : List Str} : ∀ {b : Bool} {n m : Nat} {x : PyData}, Cx zs sc b n x → n ≤ m → Cx zs sc b m x := by
  intro b n m x h
  induction h generalizing m with
  | int b n i h1 h2 => intro hm; obtain ⟨k, rfl⟩ : ∃ k, m = k + 1 := ⟨m - 1, by omega⟩; exact .int b k i h1 h2
  | let_ b n i g9 h1 h2 => intro hm; obtain ⟨k, rfl⟩ : ∃ k, m = k + 1 := ⟨m - 1, by omega⟩; exact .let_ b k i g9 h1 h2
  | key n => intro hm; obtain ⟨k, rfl⟩ : ∃ k, m = k + 1 := ⟨m - 1, by omega⟩; exact .key k
  | var b n z h1 => intro hm; obtain ⟨k, rfl⟩ : ∃ k, m = k + 1 := ⟨m - 1, by omega⟩; exact .var b k z h1
  | cell b n t v x h1 h2 _ ih => intro hm; obtain ⟨k, rfl⟩ : ∃ k, m = k + 1 := ⟨m - 1, by omega⟩; exact .cell b k t v x h1 h2 (ih (by omega))
  | op b n o x y h1 _ _ ih1 ih2 => intro hm; obtain ⟨k, rfl⟩ : ∃ k, m = k + 1 := ⟨m - 1, by omega⟩; exact .op b k o x y h1 (ih1 (by omega)) (ih2 (by omega))
  | at_ b n x y _ _ ih1 ih2 => intro hm; obtain ⟨k, rfl⟩ : ∃ k, m = k + 1 := ⟨m - 1, by omega⟩; exact .at_ b k x y (ih1 (by omega)) (ih2 (by omega))
  | iff b n x y z _ _ _ ih1 ih2 ih3 => intro hm; obtain ⟨k, rfl⟩ : ∃ k, m = k + 1 := ⟨m - 1, by omega⟩; exact .iff b k x y z (ih1 (by omega)) (ih2 (by omega)) (ih3 (by omega))
  | agg b n o t p xs vs ds hh h0 h1 h2 h3 h4 _ _ _ _ ih2 ih3 ih4 => intro hm; obtain ⟨k, rfl⟩ : ∃ k, m = k + 1 := ⟨m - 1, by omega⟩; exact .agg b k o t p xs vs ds hh (by omega) h1 h2 h3 h4 (ih2 (by omega)) (fun x hx => ih3 x hx (by omega)) (fun x hx => ih4 x hx (by omega))
/-- a key may be allowed -/
theorem Cx.free {zs sc : List Str} {b : Bool} {n : Nat} {x : PyData} (h : Cx zs sc b n x) : Cx zs sc true n x := by
  induction h with
  | int b n i h1 h2 => exact .int true n i h1 h2
  | let_ b n i g9 h1 h2 => exact .let_ true n i g9 h1 h2
  | key n => exact .key n
  | var b n z h1 => exact .var true n z h1
  | cell b n t v x h1 h2 _ ih => exact .cell true n t v x h1 h2 ih
  | op b n o x y h1 _ _ ih1 ih2 => exact .op true n o x y h1 ih1 ih2
  | at_ b n x y _ h2 ih1 _ => exact .at_ true n x y ih1 h2
  | iff b n x y z _ _ _ ih1 ih2 ih3 => exact .iff true n x y z ih1 ih2 ih3
  | agg b n o t p xs vs ds hh h0 h1 h2 h3 _ h5 h6 _ ih1 _ _ ih4 => exact .agg true n o t p xs vs ds hh h0 h1 h2 h3 ih1 h5 h6 ih4
/-- more names -/
theorem Cx.wide {zs zs' sc sc' : List Str} (hz : ∀ z, z ∈ zs → z ∈ zs') (hs : ∀ z, z ∈ sc → z ∈ sc') {b : Bool} {n : Nat} {x : PyData} (h : Cx zs sc b n x) : Cx zs' sc' b n x := by
  induction h with
  | int b n i h1 h2 => exact .int b n i h1 h2
  | let_ b n i g9 h1 h2 => exact .let_ b n i (hz _ g9) h1 h2
  | key n => exact .key n
  | var b n z h1 => exact .var b n z (hs _ h1)
  | cell b n t v x h1 h2 _ ih => exact .cell b n t v x ⟨hz _ h1.1, h1.2⟩ ⟨hz _ h2.1, h2.2⟩ ih
  | op b n o x y h1 _ _ ih1 ih2 => exact .op b n o x y h1 ih1 ih2
  | at_ b n x y _ _ ih1 ih2 => exact .at_ b n x y ih1 ih2
  | iff b n x y z _ _ _ ih1 ih2 ih3 => exact .iff b n x y z ih1 ih2 ih3
  | agg b n o t p xs vs ds hh h0 h1 h2 h3 _ _ _ _ ih1 ih2 ih3 ih4 => exact .agg b n o t p xs vs ds (hz _ hh) h0 h1 ⟨hz _ h2.1, h2.2⟩ h3 ih1 ih2 ih3 ih4
end L9

/-! == of a tuple, of a list, whatever they hold, with the empty one -/
namespace ZE
open PySem PySem.Spec PyProof.Rows L2 GR
def rT0 (K : PySem.W.Frag) : R2 := fun x y H Q => ∃ (a b : Addr) (xs : List V), x = .ref a ∧ y = .ref b ∧ SqT K H a xs ∧ SqT K H b [] ∧ Q (.bl xs.isEmpty) H
def rL0 (K : PySem.W.Frag) : R2 := fun x y H Q => ∃ (a b : Addr) (xs : List V), x = .ref a ∧ y = .ref b ∧ SqL K H a xs ∧ SqL K H b [] ∧ Q (.bl xs.isEmpty) H
section
variable {X : Cx}
theorem empty_size {its : List Value} {xs : List V} (r : Vals xs its) : (its.toArray.size == 0) = xs.isEmpty := by
  cases r <;> rfl
theorem op_eqT0 (hu : X.A.units < cLine) : OpR X (compareOp .Eq) (rT0 X.K) := by
  intro pins s σ H x y v u Q I rx ry h
  obtain ⟨a, b, xs, rfl, rfl, ha, hb, q⟩ := h
  cases rx
  cases ry
  obtain ⟨its, rv, pt, hz⟩ := I.tuple ha
  obtain ⟨its2, rv2, pt2, hz2⟩ := I.tuple hb
  cases rv2
  refine SeqAt.eq_tupleAt (e := fun _ => true) pt pt2 hu (fun j h1 h2 => absurd h2 (Nat.not_lt_zero _)) ?_
  refine ⟨.bl xs.isEmpty, H, I, ?_, q⟩
  show Value.bool _ = Value.bool _
  rw [← empty_size rv]
  simp
theorem op_eqL0 (hu : X.A.units < cLine) : OpR X (compareOp .Eq) (rL0 X.K) := by
  intro pins s σ H x y v u Q I rx ry h
  obtain ⟨a, b, xs, rfl, rfl, ha, hb, q⟩ := h
  cases rx
  cases ry
  obtain ⟨its, rv, pl, hz⟩ := I.list ha
  obtain ⟨its2, rv2, pl2, hz2⟩ := I.list hb
  cases rv2
  cases rv with
  | nil => exact SeqAt.eq_listAt (e := fun _ => true) pl.isList pl2.isList rfl hu (fun j h1 h2 => absurd h2 (Nat.not_lt_zero _)) ⟨.bl true, H, I, rfl, q⟩
  | cons r t => exact SeqAt.eq_list_lengthsAt pl.isList pl2.isList (by simp) hu ⟨.bl false, H, I, rfl, q⟩
end
end ZE

/-! != of a list, whatever it holds, with the empty one -/
namespace ZE
open PySem PySem.Spec PyProof.Rows L2 GR
def rNL0 (K : PySem.W.Frag) : R2 := fun x y H Q => ∃ (a b : Addr) (xs : List V), x = .ref a ∧ y = .ref b ∧ SqL K H a xs ∧ SqL K H b [] ∧ Q (.bl (!xs.isEmpty)) H
section
variable {X : Cx}
theorem op_neL0 (hu : X.A.units < cLine) : OpR X (compareOp .NotEq) (rNL0 X.K) := by
  intro pins s σ H x y v u Q I rx ry h
  obtain ⟨a, b, xs, rfl, rfl, ha, hb, q⟩ := h
  cases rx
  cases ry
  obtain ⟨its, rv, pl, hz⟩ := I.list ha
  obtain ⟨its2, rv2, pl2, hz2⟩ := I.list hb
  cases rv2
  cases rv with
  | nil => exact SeqAt.RcNeAt.lists (e := fun _ => true) pl.isList pl2.isList rfl hu (fun j h1 h2 => absurd h2 (Nat.not_lt_zero _)) _ _ _ _ ⟨.bl false, H, I, rfl, q⟩
  | cons r t => exact SeqAt.RcNeAt.lists_lengths pl.isList pl2.isList (by simp) hu _ _ _ _ ⟨.bl true, H, I, rfl, q⟩
end
end ZE

namespace L9
open PySem PySem.Spec PyProof.Rows L2 GR
/-- how many draws, how long -/
def dx : Nat → Int
  | 0 => 10
  | n + 1 => 30 + 6 * dx n
theorem dx_pos : ∀ n, 10 ≤ dx n
  | 0 => by simp only [dx]; omega
  | n + 1 => by
    have := dx_pos n
    simp only [dx]
    omega
def em : Nat → Nat
  | 0 => 100
  | n + 1 => 3 * em n + 240
theorem em_pos : ∀ n, 100 ≤ em n
  | 0 => by simp only [em]; omega
  | n + 1 => by
    have := em_pos n
    simp only [em]
    omega
theorem small1000 {n : Nat} (h : n ≤ 1000) : n < sizeLine := by
  have : sizeLine = 16777216 := by decide
  omega
theorem h1000 {n : Nat} (h : n ≤ 1000) : n ≤ sizeLine := small_le h
theorem noSl_str {z : Str} {pos : Pos} {k} : NoSl (.Constant (.str z) k pos) := fun _ _ => rfl
theorem noSl_name {x : Str} {pos : Pos} : NoSl (.Name x pos) := fun _ _ => rfl
theorem iteA {c : Bool} {A B : Prop} (h : A) (h2 : ¬ c = true → B) : if c = true then A else B := by
  split
  · exact h
  · rename_i e
    exact h2 e
def kv4 (a b c e : Addr) : List (Key × V) := [(.inr "count", .ref a), (.inr "sum", .ref b), (.inr "most", .ref c), (.inr "first", .ref e)]
theorem kv4_1 (a b c e : Addr) : valV (mergeK [] (kv4 a b c e)) (.inr "count") = some (.ref a) := valV_pos rfl
theorem kv4_2 (a b c e : Addr) : valV (mergeK [] (kv4 a b c e)) (.inr "sum") = some (.ref b) := (valV_neg (show ¬ ((.inr "count" : Key) = .inr "sum") by decide)).trans (valV_pos rfl)
theorem kv4_3 (a b c e : Addr) : valV (mergeK [] (kv4 a b c e)) (.inr "most") = some (.ref c) := (valV_neg (show ¬ ((.inr "count" : Key) = .inr "most") by decide)).trans ((valV_neg (show ¬ ((.inr "sum" : Key) = .inr "most") by decide)).trans (valV_pos rfl))
theorem kv4_4 (a b c e : Addr) : valV (mergeK [] (kv4 a b c e)) (.inr "first") = some (.ref e) := (valV_neg (show ¬ ((.inr "count" : Key) = .inr "first") by decide)).trans ((valV_neg (show ¬ ((.inr "sum" : Key) = .inr "first") by decide)).trans ((valV_neg (show ¬ ((.inr "most" : Key) = .inr "first") by decide)).trans (valV_pos rfl)))
theorem Fines.append {k m n : Nat} {xs ys : List PyData} (h : Fines k m xs) (g : Fines k n ys) : Fines k (m + n) (xs ++ ys) := by
  induction h with
  | nil => rw [Nat.zero_add]; exact g
  | @cons a b x xs h1 _ ih =>
    rw [Nat.add_assoc]
    exact .cons h1 ih
/-- the names of tables and columns -/
abbrev nms (ts cs : List Str) : List Str := ("in" : Str) :: (ts ++ cs)
/-- a sign where aggregates may be -/
def mark (l : Int) : List Str := if l < 2 then ["#"] else []
abbrev nmx (l : Int) (ts cs : List Str) : List Str := ("in" : Str) :: (ts ++ (cs ++ mark l))
theorem mark_max {l : Int} (h0 : 0 ≤ l) (h2 : l ≤ 2) : mark (if l > 1 then l else 1) = mark l := by
  unfold mark
  split <;> split <;> simp_all <;> omega
theorem mark_one {l : Int} (h : ¬ l = 2) (h2 : l ≤ 2) : mark l = mark 1 := by
  unfold mark
  rw [if_pos (by omega), if_pos (by decide)]
theorem nmx_max {l : Int} {ts cs : List Str} (h0 : 0 ≤ l) (h2 : l ≤ 2) : nmx (if l > 1 then l else 1) ts cs = nmx l ts cs := by
  show ("in" : Str) :: (ts ++ (cs ++ mark (if l > 1 then l else 1))) = ("in" : Str) :: (ts ++ (cs ++ mark l))
  rw [mark_max h0 h2]
theorem nmx_one {l : Int} {ts cs : List Str} (h : ¬ l = 2) (h2 : l ≤ 2) : nmx 1 ts cs = nmx l ts cs := by
  show ("in" : Str) :: (ts ++ (cs ++ mark 1)) = ("in" : Str) :: (ts ++ (cs ++ mark l))
  rw [mark_one h h2]
theorem mark_in : ("#" : Str) ∈ mark 1 := by decide
/-- one that may be picked -/
def GV (K : PySem.W.Frag) (zs sc : List Str) (b : Bool) (H : Hp) (v : V) : Prop := ∃ x, Dp K H v x ∧ Fine 3 100 x ∧ Cx zs sc b 2 x
theorem GV.keep {K : PySem.W.Frag} {zs sc : List Str} {b : Bool} {H H' : Hp} {v : V} (h : GV K zs sc b H v) (k : KeepT H H') : GV K zs sc b H' v := by
  obtain ⟨x, h1, h2, h3⟩ := h
  exact ⟨x, dp_keep k _ _ h2.flat h1, h2, h3⟩
theorem nm_hash {z : Str} (h : Nm z) : z ≠ "#" := fun e => by
  have := (h.2.2.1 35 (by rw [e]; decide)).1
  omega
section
variable {P : Program} {w : World} {K : PySem.W.Frag} {mg : Str → Option Value} {base : Heap}
abbrev s_law_integer : Stmt := topS 44
abbrev s_law_cell : Stmt := topS 45
abbrev s_law_leaf : Stmt := topS 46
abbrev s_law_aggregate : Stmt := topS 47
abbrev s_law_expression : Stmt := topS 48
abbrev ps_in : List Str := ["_law_deck_here", "_law_world_here"]
abbrev N_in : List Str := ["_law_deck_here", "_law_world_here", "_law_way"]
theorem sc_law_integer : FnScope N_in ps_in (defScope s_law_integer) := ⟨rfl, rfl, rfl, by decide +kernel, rfl, by decide +kernel, by decide +kernel⟩
abbrev ps_ce : List Str := ["_law_table", "_law_key", "_law_column"]
theorem sc_law_cell : FnScope ps_ce ps_ce (defScope s_law_cell) := ⟨rfl, rfl, rfl, by decide +kernel, rfl, by decide +kernel, by decide +kernel⟩
abbrev ps_lf : List Str := ["_law_deck_here", "_law_world_here", "_law_scope", "_law_loose"]
abbrev N_lf : List Str := ["_law_deck_here", "_law_world_here", "_law_scope", "_law_loose", "_law_way"]
theorem sc_law_leaf : FnScope N_lf ps_lf (defScope s_law_leaf) := ⟨rfl, rfl, rfl, by decide +kernel, rfl, by decide +kernel, by decide +kernel⟩
abbrev ps_ag : List Str := ["_law_deck_here", "_law_world_here", "_law_deep", "_law_scope"]
abbrev N_ag : List Str := ["_law_deck_here", "_law_world_here", "_law_deep", "_law_scope", "_law_table", "_law_word", "_law_some"]
theorem sc_law_aggregate : FnScope N_ag ps_ag (defScope s_law_aggregate) := ⟨rfl, rfl, rfl, by decide +kernel, rfl, by decide +kernel, by decide +kernel⟩
abbrev ps_ex : List Str := ["_law_deck_here", "_law_world_here", "_law_deep", "_law_scope", "_law_loose"]
abbrev N_ex : List Str := ["_law_deck_here", "_law_world_here", "_law_deep", "_law_scope", "_law_loose", "_law_way", "_law_one", "_law_near", "_law_other"]
theorem sc_law_expression : FnScope N_ex ps_ex (defScope s_law_expression) := ⟨rfl, rfl, rfl, by decide +kernel, rfl, by decide +kernel, by decide +kernel⟩
/-- the list of variables that may be used -/
structure Scp (H : Hp) (d c sc : Addr) (scope : List Str) : Prop where
  at' : H sc = some (.lst (scope.map V.str))
  n0 : sc ≠ d ∧ sc ≠ c
  nm : ∀ z, z ∈ scope → Nm z
  len : scope.length ≤ 10
theorem Scp.keep {H H' : Hp} {d c sc : Addr} {scope : List Str} (S : Scp H d c sc scope) (k : Keep d c H H') : Scp H' d c sc scope := ⟨k _ _ S.n0.1 S.n0.2 S.at', S.n0, S.nm, S.len⟩
/-- tuples of a word and one more -/
theorem tup2 {k m : Nat} {w : Str} {x : PyData} (hw : w ∈ (["int", "key", "var", "cell", "if", "+", "-", "*", "<", "=", "at", "count", "sum", "most", "first", "in", "let", "need", "tell", "put", "each"] : List Str)) (hx : Fine k m x) : Fine (k + 1) (m + 14) (.tuple [.str w, x]) :=
  ((Fines.cons (Fine.word hw).k0 (.cons hx .nil)).tup).mono (Nat.le_refl _) (by omega)
theorem fine_key : Fine 1 14 (.tuple [.str "key"]) := ((Fines.cons (Fine.word (w := "key") (by decide)).k0 .nil).tup).mono (Nat.le_refl _) (by decide)
/-- where a world is -/
def AtW (H : Hp) (d c u : Addr) (ts cs ns : List Str) : Prop := ∃ tl cl nl kl ks, Wd H d c u tl cl nl kl ts cs ns ks
theorem AtW.keep {H H' : Hp} {d c u : Addr} {ts cs ns : List Str} (W : AtW H d c u ts cs ns) (k : Keep d c H H') : AtW H' d c u ts cs ns := by
  obtain ⟨tl, cl, nl, kl, ks, h⟩ := W
  exact ⟨tl, cl, nl, kl, ks, h.keep k⟩
def sp_int : Sp := fun vs H Q _ => ∃ (d c u : Addr) (N : Int) (ts cs ns : List Str), vs = [.ref d, .ref u] ∧ Deck H d c N ∧ N < 2 ^ 55 ∧ AtW H d c u ts cs ns ∧
  ∀ H' i, Keep d c H H' → Deck H' d c (N + 3) → -(10 ^ 18) ≤ i → i ≤ 10 ^ 18 → Q (.int i) H'
theorem ok_integer {f f_law_draw f_law_pick : Addr} {fd fd_law_draw fd_law_pick : FuncData} {k : Nat} (F : Fun K "_law_integer" "_law_integer" s_law_integer f fd) (G_law_draw : FnOk P w K mg base CX0 k f_law_draw fd_law_draw ["_law_deck_here", "_law_most"] sp_draw)
    (g_law_draw : mg "_law_draw" = some (.ref f_law_draw)) (K_law_draw : PySem.W.keepIn K (.ref f_law_draw) = true) (b_law_draw : Binds K fd_law_draw ["_law_deck_here", "_law_most"] [])
    (G_law_pick : FnOk P w K mg base CX0 k f_law_pick fd_law_pick ["_law_deck_here", "_law_some"] (sp_pick K))
    (g_law_pick : mg "_law_pick" = some (.ref f_law_pick)) (K_law_pick : PySem.W.keepIn K (.ref f_law_pick) = true) (b_law_pick : Binds K fd_law_pick ["_law_deck_here", "_law_some"] []) : FnOk P w K mg base CX0 (k + 1) f fd ps_in sp_int := by
  have nd := sc_law_integer.nd
  refine F.ok sc_law_integer (fun vs H Q E h => ?_) (fun cdv A outer s H vs Q E hr h => ?_)
  · obtain ⟨d, c, u, N, ts, cs, ns, rfl, _⟩ := h
    rfl
  obtain ⟨d, c, u, N, ts, cs, ns, rfl, D, hN, W, q⟩ := h
  have hu1 : (A.deeper (envOfC "_law_integer" (defScope s_law_integer) s.heap.objs.size f cdv)).units + 1 < cLine := by
    have := hr.units
    omega
  refine ⟨_, (pss_cons (ps_set (i := 2) nd rfl (.inl rfl) (pe_call G_law_draw hr (by rfl) g_law_draw K_law_draw b_law_draw .nil pass0 (pa_cons (pv 0) (pa_cons pe_int pa_nil))))
      (pss_cons (ps_if (pt_cmpR op_lt (pv 2) pe_int (nomark _))
      (pss_one (ps_ret (pe_call G_law_pick hr (by rfl) g_law_pick K_law_pick b_law_pick .nil pass0 (pa_cons (pv 0) (pa_cons (pe_dget hu1 (pv 1) pe_str noSl_str) pa_nil)))))
      pss_nil)
      (pss_cons (ps_if (pt_cmpR op_eq (pv 2) pe_int (nomark _))
      (pss_one (ps_ret (pe_call G_law_pick hr (by rfl) g_law_pick K_law_pick b_law_pick .nil pass0 (pa_cons (pv 0) (pa_cons (pe_lst (pa_cons (pe_op op_pow pe_int pe_int) (pa_cons (pe_op op_sub pe_int (pe_op op_pow pe_int pe_int)) (pa_cons (pe_op op_pow pe_int pe_int) (pa_cons (pe_op op_sub (pe_op op_pow pe_int pe_int) pe_int) pa_nil))))) pa_nil)))))
      pss_nil)
      (pss_one (ps_ret (pe_op op_sub (pe_call G_law_draw hr (by rfl) g_law_draw K_law_draw b_law_draw .nil pass0 (pa_cons (pv 0) (pa_cons pe_int pa_nil))) pe_int)))))), ?_⟩
  have LIM : (10 : Int) ^ 18 = 1000000000000000000 := by decide
  refine ⟨.ref d, rfl, d, c, N, 8, rfl, D, by omega, by decide, by decide, fun H1 way k1 D1 w0 w1 => ?_⟩
  refine ⟨.int way, rfl, _, _, rfl, rfl, _, rfl, ite2 (fun e => ?_) (fun e => ?_)⟩
  · obtain ⟨tl, cl, nl, kl, ks, W1⟩ := W.keep k1
    refine ⟨.ref d, rfl, .ref u, rfl, u, .ref kl, rfl, ?_, .inl ⟨d, c, kl, _, _, rfl, D1, by omega, .inl (.inl W1.hk), ?_, ?_, W1.k0.1, W1.k0.2, fun H2 v k2 D2 hv => ?_⟩⟩
    · rw [← wD_k tl cl nl kl]
      exact DGet.k (k := .inr "keys") W1.dct
    · intro e
      have := congrArg List.length e
      rw [List.length_map, W1.lk] at this
      cases this
    · rw [List.length_map, W1.lk]
      decide
    obtain ⟨i, hi, rfl⟩ := List.mem_map.mp hv
    have := W1.ak i hi
    exact q _ _ (k1.trans k2) (D2.mono (by omega)) (by omega) (by omega)
  · refine ⟨.int way, rfl, rfl, _, rfl, ite2 (fun e => ?_) (fun e => ?_)⟩
    · refine ⟨.ref d, rfl, _, _, rfl, rfl, ⟨by decide, by decide⟩, ?_⟩
      refine ⟨_, _, rfl, rfl, ⟨by decide, by decide⟩, _, _, rfl, rfl, ?_⟩
      refine ⟨_, _, rfl, rfl, ⟨by decide, by decide⟩, ?_⟩
      refine ⟨_, _, rfl, rfl, ⟨by decide, by decide⟩, _, _, rfl, rfl, h1000 (show 4 ≤ 1000 by decide), fun l nl => ?_⟩
      have sl := same_upd (o := .lst [.int ((10 : Int) ^ (18 : Int).toNat), .int (0 - (10 : Int) ^ (18 : Int).toNat), .int ((10 : Int) ^ (9 : Int).toNat), .int ((10 : Int) ^ (18 : Int).toNat - 1)]) nl
      have hln := D1.new nl
      refine .inl ⟨d, c, l, _, [.int ((10 : Int) ^ (18 : Int).toNat), .int (0 - (10 : Int) ^ (18 : Int).toNat), .int ((10 : Int) ^ (9 : Int).toNat), .int ((10 : Int) ^ (18 : Int).toNat - 1)], rfl, D1.same sl, by omega, .inl (.inl upd_same), List.cons_ne_nil _ _, (show 4 ≤ 1000 by decide), hln.1, hln.2, fun H2 v k2 D2 hv => ?_⟩
      obtain ⟨i, rfl, h1, h2⟩ : ∃ i : Int, v = .int i ∧ -(10 ^ 18) ≤ i ∧ i ≤ 10 ^ 18 := by
        simp only [List.mem_cons, List.not_mem_nil, or_false] at hv
        rcases hv with rfl | rfl | rfl | rfl
        · exact ⟨_, rfl, by decide, by decide⟩
        · exact ⟨_, rfl, by decide, by decide⟩
        · exact ⟨_, rfl, by decide, by decide⟩
        · exact ⟨_, rfl, by decide, by decide⟩
      exact q _ _ ((k1.trans (Keep.of sl)).trans k2) (D2.mono (by omega)) h1 h2
    · refine ⟨.ref d, rfl, d, c, _, 12, rfl, D1, by omega, by decide, by decide, fun H2 r k2 D2 r0 r1 => ⟨_, _, rfl, rfl, ?_⟩⟩
      exact q _ _ (k1.trans k2) (D2.mono (by omega)) (by omega) (by omega)
/-- a tuple of what is given -/
def sp_cell : Sp := fun vs H Q _ => ∃ a b c, vs = [a, b, c] ∧ ∀ p, H p = none → Q (.ref p) (upd H p (.tup [.str "cell", a, b, c]))
theorem ok_cell {f : Addr} {fd : FuncData} {k : Nat} (F : Fun K "_law_cell" "_law_cell" s_law_cell f fd) : FnOk P w K mg base CX0 (k + 1) f fd ps_ce sp_cell := by
  have nd := sc_law_cell.nd
  refine F.ok sc_law_cell (fun vs H Q E h => ?_) (fun cdv A outer s H vs Q E hr h => ?_)
  · obtain ⟨a, b, c, rfl, _⟩ := h
    rfl
  obtain ⟨a, b, c, rfl, q⟩ := h
  refine ⟨_, (pss_one (ps_ret (pe_tup (pa_cons pe_str (pa_cons (pv 0) (pa_cons (pv 1) (pa_cons (pv 2) pa_nil))))))), ?_⟩
  exact ⟨a, rfl, b, rfl, c, rfl, h1000 (show 4 ≤ 1000 by decide), fun p np => q p np⟩
def sp_leaf (K : PySem.W.Frag) : Sp := fun vs H Q _ => ∃ (d c u sc : Addr) (N : Int) (b : Bool) (ts cs ns scope : List Str), vs = [.ref d, .ref u, .ref sc, .bl b] ∧ Deck H d c N ∧ N < 2 ^ 54 ∧ AtW H d c u ts cs ns ∧ Scp H d c sc scope ∧
  ∀ H' v x, Keep d c H H' → Deck H' d c (N + 5) → Fine 3 100 x → (∀ zs, Cx zs scope b 1 x) → Dp K H' v x → Q v H'
theorem ok_leaf {f f_law_draw f_law_pick f_law_integer : Addr} {fd fd_law_draw fd_law_pick fd_law_integer : FuncData} {k : Nat} (F : Fun K "_law_leaf" "_law_leaf" s_law_leaf f fd) (G_law_draw : FnOk P w K mg base CX0 k f_law_draw fd_law_draw ["_law_deck_here", "_law_most"] sp_draw)
    (g_law_draw : mg "_law_draw" = some (.ref f_law_draw)) (K_law_draw : PySem.W.keepIn K (.ref f_law_draw) = true) (b_law_draw : Binds K fd_law_draw ["_law_deck_here", "_law_most"] [])
    (G_law_pick : FnOk P w K mg base CX0 k f_law_pick fd_law_pick ["_law_deck_here", "_law_some"] (sp_pick K))
    (g_law_pick : mg "_law_pick" = some (.ref f_law_pick)) (K_law_pick : PySem.W.keepIn K (.ref f_law_pick) = true) (b_law_pick : Binds K fd_law_pick ["_law_deck_here", "_law_some"] [])
    (G_law_integer : FnOk P w K mg base CX0 k f_law_integer fd_law_integer ps_in sp_int)
    (g_law_integer : mg "_law_integer" = some (.ref f_law_integer)) (K_law_integer : PySem.W.keepIn K (.ref f_law_integer) = true) (b_law_integer : Binds K fd_law_integer ps_in []) : FnOk P w K mg base CX0 (k + 1) f fd ps_lf (sp_leaf K) := by
  have nd := sc_law_leaf.nd
  refine F.ok sc_law_leaf (fun vs H Q E h => ?_) (fun cdv A outer s H vs Q E hr h => ?_)
  · obtain ⟨d, c, u, sc, N, b, ts, cs, ns, scope, rfl, _⟩ := h
    rfl
  obtain ⟨d, c, u, sc, N, b, ts, cs, ns, scope, rfl, D, hN, W, S, q⟩ := h
  have hu1 : (A.deeper (envOfC "_law_leaf" (defScope s_law_leaf) s.heap.objs.size f cdv)).units + 1 < cLine := by
    have := hr.units
    omega
  have hu : (A.deeper (envOfC "_law_leaf" (defScope s_law_leaf) s.heap.objs.size f cdv)).units < cLine := by omega
  refine ⟨_, (pss_cons (ps_set (i := 4) nd rfl (.inl rfl) (pe_call G_law_draw hr (by rfl) g_law_draw K_law_draw b_law_draw .nil pass0 (pa_cons (pv 0) (pa_cons pe_int pa_nil))))
      (Evl.pss_cut (ps_if (PW.pt (pw_and (pt_cmpR op_lt (pv 4) pe_int (nomark _)) (pw_and1 (pt_cmpR (ZE.op_neL0 hu) (pv 2) (pe_lst pa_nil) (nomark _)))))
      (pss_one (ps_ret (pe_tup (pa_cons pe_str (pa_cons (pe_call G_law_pick hr (by rfl) g_law_pick K_law_pick b_law_pick .nil pass0 (pa_cons (pv 0) (pa_cons (pv 2) pa_nil))) pa_nil)))))
      pss_nil)
      (Evl.pss_cut (ps_if (PW.pt (pw_and (pt_cmpR op_eq (pv 4) pe_int (nomark _)) (pw_and1 (pt_val (pv 3)))))
      (pss_one (ps_ret (pe_tup (pa_cons pe_str pa_nil))))
      pss_nil)
      (pss_one (ps_ret (pe_tup (pa_cons pe_str (pa_cons (pe_call G_law_integer hr (by rfl) g_law_integer K_law_integer b_law_integer .nil pass0 (pa_cons (pv 0) (pa_cons (pv 1) pa_nil))) pa_nil)))))))), ?_⟩
  have LIM : (10 : Int) ^ 18 = 1000000000000000000 := by decide
  refine ⟨.ref d, rfl, d, c, N, 5, rfl, D, by omega, by decide, by decide, fun H1 way k1 D1 w0 w1 => ?_⟩
  refine ⟨fun σ' H' => σ' = [some (.ref d), some (.ref u), some (.ref sc), some (.bl b), some (.int way)] ∧ Keep d c H H' ∧ Deck H' d c (N + 1), ?_, ?_⟩
  · refine ⟨.int way, rfl, _, _, rfl, rfl, _, rfl, ite2 (fun e => ?_) (fun e => ⟨rfl, k1, D1⟩)⟩
    refine ⟨.ref sc, rfl, Nat.zero_le _, fun l nl => ?_⟩
    have sl := same_upd (o := .lst []) nl
    have S2 := (S.keep k1).keep (Keep.of sl)
    have D2 := D1.same sl
    have k2 := k1.trans (Keep.of sl)
    have hl : upd H1 l (.lst []) l = some (.lst []) := upd_same
    revert hl S2 D2 k2
    clear sl
    generalize upd H1 l (.lst []) = H2
    intro S2 D2 k2 hl
    refine ⟨sc, l, _, rfl, rfl, .inl (.inl S2.at'), .inl (.inl hl), _, rfl, ite2 (fun e => ?_) (fun e => ⟨rfl, k2, D2⟩)⟩
    have hne : scope.map V.str ≠ [] := fun h => by
      rw [h] at e
      cases e
    have hsl := S.len
    refine ⟨.ref d, rfl, .ref sc, rfl, .inl ⟨d, c, sc, _, _, rfl, D2, by omega, .inl (.inl S2.at'), hne, by rw [List.length_map]; omega, S2.n0.1, S2.n0.2, fun H3 v k3 D3 hv => ⟨h1000 (show 2 ≤ 1000 by decide), fun p np => ?_⟩⟩⟩
    obtain ⟨z, hz, rfl⟩ := List.mem_map.mp hv
    have sp := same_upd (o := .tup [.str "var", .str z]) np
    exact q _ _ _ ((k2.trans k3).trans (Keep.of sp)) ((D3.same sp).mono (by omega)) ((tup2 (by decide) (Fine.str (S.nm z hz))).mono (by decide) (by decide)) (fun zs => .var _ _ _ hz) (new_tup (.cons (.str "var") (.cons (.str z) .nil)) rfl np)
  clear k1 D1 w0 w1
  rintro σ' H1 ⟨rfl, k1, D1⟩
  refine ⟨fun σ' H' => σ' = [some (.ref d), some (.ref u), some (.ref sc), some (.bl b), some (.int way)] ∧ Keep d c H H' ∧ Deck H' d c (N + 1), ?_, ?_⟩
  · refine ⟨.int way, rfl, rfl, _, rfl, ite2 (fun e => ?_) (fun e => ⟨rfl, k1, D1⟩)⟩
    refine ⟨.bl b, rfl, b, rfl, ite2 (fun e => ?_) (fun e => ⟨rfl, k1, D1⟩)⟩
    refine ⟨h1000 (show 1 ≤ 1000 by decide), fun p np => ?_⟩
    have sp := same_upd (o := .tup [.str "key"]) np
    subst e
    exact q _ _ _ (k1.trans (Keep.of sp)) ((D1.same sp).mono (by omega)) (fine_key.mono (by decide) (by decide)) (fun zs => .key 0) (new_tup (.cons (.str "key") .nil) rfl np)
  clear k1 D1
  rintro σ' H1 ⟨rfl, k1, D1⟩
  refine ⟨.ref d, rfl, .ref u, rfl, d, c, u, _, ts, cs, ns, rfl, D1, by omega, W.keep k1, fun H2 i k2 D2 h1 h2 => ⟨h1000 (show 2 ≤ 1000 by decide), fun p np => ?_⟩⟩
  have sp := same_upd (o := .tup [.str "int", .int i]) np
  exact q _ _ _ ((k1.trans k2).trans (Keep.of sp)) ((D2.same sp).mono (by omega)) ((tup2 (by decide) (Fine.int h1 h2)).mono (by decide) (by decide)) (fun zs => .int _ _ _ h1 h2) (new_tup (.cons (.str "int") (.cons (.int i) .nil)) rfl np)
end
end L9

namespace L9
open PySem PySem.Spec PyProof.Rows L2 GR
abbrev wdsA : List Str := ["int", "key", "var", "cell", "if", "+", "-", "*", "<", "=", "at", "count", "sum", "most", "first", "in", "let", "need", "tell", "put", "each"]
section
variable {P : Program} {w : World} {K : PySem.W.Frag} {mg : Str → Option Value} {base : Heap}
def sp_expr (K : PySem.W.Frag) (n : Nat) : Sp := fun vs H Q _ => ∃ (d c u sc : Addr) (N deep loose : Int) (ts cs ns scope : List Str), vs = [.ref d, .ref u, .int deep, .ref sc, .int loose] ∧ Deck H d c N ∧ N + dx n < 2 ^ 54 ∧ AtW H d c u ts cs ns ∧ Scp H d c sc scope ∧
  deep ≤ (n : Int) ∧ 0 ≤ loose ∧ loose ≤ 2 ∧ ∀ H' v x, Keep d c H H' → Deck H' d c (N + dx n) → Fine (n + 3) (em n) x → Cx (nmx loose ts cs) scope (decide (0 < loose)) (n + 2) x → Dp K H' v x → Q v H'
def sp_agg (K : PySem.W.Frag) (n : Nat) : Sp := fun vs H Q _ => ∃ (d c u sc : Addr) (N deep : Int) (ts cs ns scope : List Str), vs = [.ref d, .ref u, .int deep, .ref sc] ∧ Deck H d c N ∧ N + 2 + 3 * dx n < 2 ^ 54 ∧ AtW H d c u ts cs ns ∧ Scp H d c sc scope ∧
  deep - 1 ≤ (n : Int) ∧ ∀ H' v x, Keep d c H H' → Deck H' d c (N + 2 + 3 * dx n) → Fine (n + 4) (em (n + 1)) x → Cx (nmx 1 ts cs) scope false (n + 3) x → Dp K H' v x → Q v H'
/-- an aggregate under way: its word, its table, what it holds so far -/
structure Ag (K : PySem.W.Frag) (H : Hp) (n : Nat) (zs sc : List Str) (o t : Str) (v : V) (va da : List PyData) (x5 : PyData) : Prop where
  tup : ∃ (z3 z0 z2 : Addr) (v5 : V) (us : List V), v = .ref z3 ∧ H z3 = some (.tup ([.str o, .str t, .ref z0, .ref z2, v5] ++ us)) ∧ DpAll K H ([.str o, .str t, .ref z0, .ref z2, v5] ++ us) (([.str o, .str t, .tuple [], rowX t, x5] : List PyData) ++ (va ++ da)) ∧ us.length = va.length + da.length
  fin : ∃ L, L ≤ em n * (va.length + da.length) ∧ Fines (n + 3) L (va ++ da)
  f5 : Fine (n + 3) (em n) x5
  c5 : Cx zs sc true (n + 2) x5
  cv : ∀ x, x ∈ va → Cx zs sc true (n + 2) x
  cd : ∀ x, x ∈ da → Cx zs sc false (n + 2) x
  le : va.length + da.length ≤ 2
theorem rowX_fine {t : Str} (h : Nm t) : Fine 2 121 (rowX t) := ((Fines.cons (Fine.word (w := "cell") (by decide)).k0 (.cons (Fine.str h).k0 (.cons fine_key (.cons (Fine.word (w := "in") (by decide)).k0 .nil)))).tup).mono (Nat.le_refl _) (by decide)
theorem Ag.fines {K : PySem.W.Frag} {H : Hp} {n : Nat} {zs sc : List Str} {o t : Str} {v : V} {va da : List PyData} {x5 : PyData} (A : Ag K H n zs sc o t v va da x5) (ho : o ∈ wdsA) (ht : Nm t) :
    ∃ L, L ≤ 219 + em n + em n * (va.length + da.length) ∧ Fines (n + 3) L (([.str o, .str t, .tuple [], rowX t, x5] : List PyData) ++ (va ++ da)) := by
  obtain ⟨L, hL, hf⟩ := A.fin
  have fE : Fine 1 5 (.tuple []) := (Fines.nil (k := 0)).tup
  have FS : Fines (n + 3) (9 + (84 + (5 + (121 + (em n + 0))))) [.str o, .str t, .tuple [], rowX t, x5] := .cons (Fine.word ho).k0 (.cons (Fine.str ht).k0 (.cons (fE.mono (by omega) (Nat.le_refl _)) (.cons ((rowX_fine ht).mono (by omega) (Nat.le_refl _)) (.cons A.f5 .nil))))
  exact ⟨_, by omega, FS.append hf⟩
theorem Ag.keep {K : PySem.W.Frag} {H H' : Hp} {n : Nat} {zs sc : List Str} {o t : Str} {v : V} {va da : List PyData} {x5 : PyData} (A : Ag K H n zs sc o t v va da x5) (ho : o ∈ wdsA) (ht : Nm t) (k : KeepT H H') : Ag K H' n zs sc o t v va da x5 := by
  obtain ⟨z3, z0, z2, v5, us, rfl, h1, h2, h3⟩ := A.tup
  obtain ⟨L, _, hf⟩ := A.fines ho ht
  exact ⟨⟨z3, z0, z2, v5, us, rfl, k.1 _ _ h1, dp_keepAll k _ _ hf.all.1 h2, h3⟩, A.fin, A.f5, A.c5, A.cv, A.cd, A.le⟩
/-- one more part -/
theorem Ag.more {K : PySem.W.Frag} {H H' : Hp} {n : Nat} {zs sc : List Str} {o t : Str} {v v6 : V} {va da va' da' : List PyData} {x5 x6 : PyData} {q : Addr} {us0 : List V} (A : Ag K H n zs sc o t v va da x5) (ho : o ∈ wdsA) (ht : Nm t) (k : KeepT H H')
    (hv : ∃ z3, v = .ref z3 ∧ H z3 = some (.tup us0)) (hq : H' q = some (.tup (us0 ++ [v6]))) (p6 : Dp K H' v6 x6) (f6 : Fine (n + 3) (em n) x6) (e : va' ++ da' = (va ++ da) ++ [x6]) (el : va'.length + da'.length = va.length + da.length + 1) (hl : va.length + da.length ≤ 1)
    (cv : ∀ x, x ∈ va' → Cx zs sc true (n + 2) x) (cd : ∀ x, x ∈ da' → Cx zs sc false (n + 2) x) : Ag K H' n zs sc o t (.ref q) va' da' x5 := by
  obtain ⟨z3, z0, z2, v5, us, rfl, h1, h2, h3⟩ := A.tup
  obtain ⟨z3', e3, h1'⟩ := hv
  cases e3
  rw [h1] at h1'
  cases h1'
  obtain ⟨L, _, hf⟩ := A.fines ho ht
  obtain ⟨L2, hL2, hf2⟩ := A.fin
  have h2' := dp_keepAll k _ _ hf.all.1 h2
  refine ⟨⟨q, z0, z2, v5, us ++ [v6], rfl, by rw [← List.append_assoc]; exact hq, ?_, by rw [List.length_append, h3, el]; rfl⟩, ⟨L2 + (em n + 0), ?_, ?_⟩, A.f5, A.c5, cv, cd, by omega⟩
  · rw [e, ← List.append_assoc, ← List.append_assoc]
    exact dpAll_append h2' (.cons p6 .nil)
  · rw [el, Nat.mul_add]
    omega
  · rw [e]
    exact hf2.append (.cons f6 .nil)
theorem ok_agg {n : Nat} {f f_ex f_law_pick f_cell : Addr} {fd d_ex fd_law_pick fd_cell : FuncData} {k : Nat} (F : Fun K "_law_aggregate" "_law_aggregate" s_law_aggregate f fd)
    (G_law_pick : FnOk P w K mg base CX0 k f_law_pick fd_law_pick ["_law_deck_here", "_law_some"] (sp_pick K))
    (g_law_pick : mg "_law_pick" = some (.ref f_law_pick)) (K_law_pick : PySem.W.keepIn K (.ref f_law_pick) = true) (b_law_pick : Binds K fd_law_pick ["_law_deck_here", "_law_some"] [])
    (G_cell : FnOk P w K mg base CX0 k f_cell fd_cell ps_ce sp_cell) (g_cell : mg "_law_cell" = some (.ref f_cell)) (K_cell : PySem.W.keepIn K (.ref f_cell) = true) (b_cell : Binds K fd_cell ps_ce [])
    (G : FnOk P w K mg base CX0 k f_ex d_ex ps_ex (sp_expr K n)) (g : mg "_law_expression" = some (.ref f_ex)) (Kf : PySem.W.keepIn K (.ref f_ex) = true) (b : Binds K d_ex ps_ex []) : FnOk P w K mg base CX0 (k + 1) f fd ps_ag (sp_agg K n) := by
  have nd := sc_law_aggregate.nd
  refine F.ok sc_law_aggregate (fun vs H Q E h => ?_) (fun cdv A outer s H vs Q E hr h => ?_)
  · obtain ⟨d, c, u, sc, N, deep, ts, cs, ns, scope, rfl, _⟩ := h
    rfl
  obtain ⟨d, c, u, sc, N, deep, ts, cs, ns, scope, rfl, D, hN, W, S, hdeep, q⟩ := h
  have hp := dx_pos n
  have hu1 : (A.deeper (envOfC "_law_aggregate" (defScope s_law_aggregate) s.heap.objs.size f cdv)).units + 1 < cLine := by
    have := hr.units
    omega
  refine ⟨_, (pss_cons (ps_set (i := 4) nd rfl (.inl rfl) (pe_call G_law_pick hr (by rfl) g_law_pick K_law_pick b_law_pick .nil pass0 (pa_cons (pv 0) (pa_cons (pe_dget hu1 (pv 1) pe_str noSl_str) pa_nil))))
      (pss_cons (ps_set (i := 5) nd rfl (.inl rfl) (pe_call G_law_pick hr (by rfl) g_law_pick K_law_pick b_law_pick .nil pass0 (pa_cons (pv 0) (pa_cons (pe_lst (pa_cons pe_str (pa_cons pe_str (pa_cons pe_str (pa_cons pe_str pa_nil))))) pa_nil))))
      (Evl.pss_cut (ps_set (i := 6) nd rfl (.inl rfl) (pe_tup (pa_cons (pv 5) (pa_cons (pv 4) (pa_cons (pe_tup pa_nil) (pa_cons (pe_call G_cell hr (by rfl) g_cell K_cell b_cell .nil pass0 (pa_cons (pv 4) (pa_cons (pe_tup (pa_cons pe_str pa_nil)) (pa_cons pe_str pa_nil)))) (pa_cons (pe_call G hr (by rfl) g Kf b .nil pass0 (pa_cons (pv 0) (pa_cons (pv 1) (pa_cons (pe_op op_sub (pv 2) pe_int) (pa_cons (pv 3) (pa_cons pe_int pa_nil)))))) pa_nil)))))))
      (Evl.pss_cut (ps_if (pt_cmpR op_in_seq (pv 5) (pe_tup (pa_cons pe_str (pa_cons pe_str pa_nil))) (by rfl))
      (pss_one (ps_set (i := 6) nd rfl (.inl rfl) (pe_op op_catT (pv 6) (pe_tup (pa_cons (pe_call G hr (by rfl) g Kf b .nil pass0 (pa_cons (pv 0) (pa_cons (pv 1) (pa_cons (pe_op op_sub (pv 2) pe_int) (pa_cons (pv 3) (pa_cons pe_int pa_nil)))))) pa_nil)))))
      pss_nil)
      (Evl.pss_cut (ps_if (pt_cmpR op_in_seq (pv 5) (pe_tup (pa_cons pe_str (pa_cons pe_str pa_nil))) (by rfl))
      (pss_one (ps_set (i := 6) nd rfl (.inl rfl) (pe_op op_catT (pv 6) (pe_tup (pa_cons (pe_call G hr (by rfl) g Kf b .nil pass0 (pa_cons (pv 0) (pa_cons (pv 1) (pa_cons (pe_op op_sub (pv 2) pe_int) (pa_cons (pv 3) (pa_cons pe_int pa_nil)))))) pa_nil)))))
      pss_nil)
      (pss_one (ps_ret (pv 6)))))))), ?_⟩
  obtain ⟨tl, cl, nl, kl, ks, W0⟩ := W
  refine ⟨.ref d, rfl, .ref u, rfl, u, .ref tl, rfl, ?_, .inl ⟨d, c, tl, _, _, rfl, D, by omega, .inl (.inl W0.ht), ?_, ?_, W0.t0.1, W0.t0.2, fun H2 vt k2 D2 hvt => ?_⟩⟩
  · rw [← wD_t tl cl nl kl]
    exact DGet.k (k := .inr "tables") W0.dct
  · intro e
    have := congrArg List.length e
    rw [List.length_map, W0.lt] at this
    cases this
  · rw [List.length_map, W0.lt]
    decide
  obtain ⟨t, ht, rfl⟩ := List.mem_map.mp hvt
  have nt := W0.at' t ht
  have W : AtW H d c u ts cs ns := ⟨tl, cl, nl, kl, ks, W0⟩
  clear W0
  refine ⟨.ref d, rfl, h1000 (show 4 ≤ 1000 by decide), fun l nl => ?_⟩
  have sl := same_upd (o := .lst [.str "count", .str "sum", .str "most", .str "first"]) nl
  have hln := D2.new nl
  refine .inl ⟨d, c, l, _, [.str "count", .str "sum", .str "most", .str "first"], rfl, D2.same sl, by omega, .inl (.inl upd_same), List.cons_ne_nil _ _, (show 4 ≤ 1000 by decide), hln.1, hln.2, fun H3 vo k3 D3 hvo => ?_⟩
  obtain ⟨o, ho4, rfl⟩ : ∃ o : Str, (o = "count" ∨ o = "sum" ∨ o = "most" ∨ o = "first") ∧ vo = .str o := by
    simp only [List.mem_cons, List.not_mem_nil, or_false] at hvo
    rcases hvo with rfl | rfl | rfl | rfl
    · exact ⟨_, .inl rfl, rfl⟩
    · exact ⟨_, .inr (.inl rfl), rfl⟩
    · exact ⟨_, .inr (.inr (.inl rfl)), rfl⟩
    · exact ⟨_, .inr (.inr (.inr rfl)), rfl⟩
  have ho : o ∈ wdsA := by
    rcases ho4 with rfl | rfl | rfl | rfl <;> decide
  have k03 : Keep d c H H3 := (k2.trans (Keep.of sl)).trans k3
  clear k2 D2 sl hln k3 nl
  refine ⟨fun σ' H' => ∃ v x5, σ' = [some (.ref d), some (.ref u), some (.int deep), some (.ref sc), some (.str t), some (.str o), some v] ∧ Keep d c H H' ∧ Deck H' d c (N + 2 + dx n) ∧ Ag K H' n (nmx 1 ts cs) scope o t v [] [] x5, ?_, ?_⟩
  · refine ⟨.str o, rfl, .str t, rfl, Nat.zero_le _, fun z0 m0 => ⟨.str t, rfl, h1000 (show 1 ≤ 1000 by decide), fun z1 m1 => ⟨.str t, .ref z1, .str "in", rfl, fun z2 m2 => ?_⟩⟩⟩
    have t0 := same_upd (o := .tup []) m0
    have t1 := same_upd (o := .tup [.str "key"]) m1
    have t2 := same_upd (o := .tup [.str "cell", .str t, .ref z1, .str "in"]) m2
    have b0 : Dp K (upd H3 z0 (.tup [])) (.ref z0) (.tuple []) := .tup (.inl (.inl upd_same)) .nil
    have b1 := new_tup (K := K) (.cons (.str "key") .nil) rfl m1
    have b2 : Dp K _ (.ref z2) (rowX t) := new_tup (K := K) (.cons (.str "cell") (.cons (.str t) (.cons b1 (.cons (.str "in") .nil)))) rfl m2
    have b0' := dp_keep (KeepT.of (t1.trans t2)) _ _ rfl b0
    have t02 := (t0.trans t1).trans t2
    clear t0 t1 t2 b0 b1 m0 m1 m2
    revert b0' b2 t02
    generalize upd (upd (upd H3 z0 (.tup [])) z1 (.tup [.str "key"])) z2 (.tup [.str "cell", .str t, .ref z1, .str "in"]) = H4
    intro b2 b0' t02
    have k04 := k03.trans (Keep.of t02)
    have D4 := D3.same t02
    refine ⟨.ref d, rfl, .ref u, rfl, .int deep, rfl, deep, 1, rfl, rfl, .ref sc, rfl, d, c, u, sc, _, deep - 1, 1, ts, cs, ns, scope, rfl, D4, by omega, W.keep k04, S.keep k04, by omega, by decide, by decide, fun H5 v5 x5 k5 D5 f5 c5 p5 => ⟨h1000 (show 5 ≤ 1000 by decide), fun z3 m3 => ?_⟩⟩
    have t3 := same_upd (o := .tup [.str o, .str t, .ref z0, .ref z2, v5]) m3
    have kt5 := (k5.t D4).trans (KeepT.of t3)
    refine ⟨_, x5, rfl, (k04.trans k5).trans (Keep.of t3), (D5.same t3).mono (by omega), ⟨⟨z3, z0, z2, v5, [], rfl, upd_same, ?_, rfl⟩, ⟨0, Nat.zero_le _, .nil⟩, f5, c5, (fun x hx => (nomatch hx)), (fun x hx => (nomatch hx)), (by decide)⟩⟩
    exact .cons (.str _) (.cons (.str _) (.cons (dp_keep kt5 _ _ rfl b0') (.cons (dp_keep kt5 _ _ (rowX_fine nt).flat b2) (.cons (dp_keep (KeepT.of t3) _ _ f5.flat p5) .nil))))
  clear k03 D3
  rintro σ' H3 ⟨v, x5, rfl, k03, D3, A0⟩
  -- the values
  refine ⟨fun σ' H' => ∃ v va, σ' = [some (.ref d), some (.ref u), some (.int deep), some (.ref sc), some (.str t), some (.str o), some v] ∧ Keep d c H H' ∧ Deck H' d c (N + 2 + 2 * dx n) ∧ Ag K H' n (nmx 1 ts cs) scope o t v va [] x5 ∧ va.length = (if o = "sum" ∨ o = "most" then 1 else 0), ?_, ?_⟩
  · refine ⟨.str o, rfl, h1000 (show 2 ≤ 1000 by decide), fun l nl => ⟨l, _, rfl, .inr (.inl (.inl upd_same)), rfl, rfl, ?_⟩⟩
    have sl := same_upd (o := .tup [.str "sum", .str "most"]) nl
    have A1 := A0.keep ho nt (KeepT.of sl)
    have D4 := D3.same sl
    have k04 := k03.trans (Keep.of sl)
    revert A1 D4 k04
    clear sl
    generalize upd H3 l (.tup [.str "sum", .str "most"]) = H4
    intro A1 D4 k04
    have e0 : inV (.str o) [.str "sum", .str "most"] = decide (o = "sum" ∨ o = "most") := by
      rcases ho4 with rfl | rfl | rfl | rfl <;> rfl
    refine ⟨_, rfl, ite2 (fun e1 => ?_) (fun e1 => ?_)⟩
    · have e2 : o = "sum" ∨ o = "most" := of_decide_eq_true (e0.symm.trans e1)
      refine ⟨v, rfl, .ref d, rfl, .ref u, rfl, .int deep, rfl, deep, 1, rfl, rfl, .ref sc, rfl, d, c, u, sc, _, deep - 1, 1, ts, cs, ns, scope, rfl, D4, by omega, W.keep k04, S.keep k04, by omega, by decide, by decide, fun H5 v6 x6 k5 D5 f6 c6 p6 => ⟨h1000 (show 1 ≤ 1000 by decide), fun y0 j0 => ?_⟩⟩
      have s5 := same_upd (o := .tup [v6]) j0
      obtain ⟨z3, z0, z2, v5, us, rfl, h1, h2, h3⟩ := (A1.keep ho nt ((k5.t D4).trans (KeepT.of s5))).tup
      have lus : us.length = 0 := h3
      refine ⟨z3, y0, _, _, rfl, rfl, .inl (.inl h1), .inl (.inl upd_same), List.cons_ne_nil _ _, h1000 (by rw [List.length_append]; show 5 + us.length + 1 ≤ 1000; omega), fun e => absurd e (List.cons_ne_nil _ _), fun _ pp np => ?_⟩
      have s6 := same_upd (o := .tup (([.str o, .str t, .ref z0, .ref z2, v5] ++ us) ++ [v6])) np
      have A5 := A1.keep ho nt ((k5.t D4).trans (KeepT.of s5))
      exact ⟨_, [x6], rfl, ((k04.trans k5).trans (Keep.of s5)).trans (Keep.of s6), ((D5.same s5).same s6).mono (by omega), A5.more ho nt (KeepT.of s6) ⟨z3, rfl, h1⟩ upd_same (dp_keep ((KeepT.of s5).trans (KeepT.of s6)) _ _ f6.flat p6) f6 rfl rfl (by decide) (fun x hx => by rw [List.mem_singleton.mp hx]; exact c6) (fun x hx => (nomatch hx)), (if_pos e2).symm⟩
    · have e2 : ¬ (o = "sum" ∨ o = "most") := fun h => e1 (e0.trans (decide_eq_true h))
      exact ⟨v, [], rfl, k04, D4.mono (by omega), A1, (if_neg e2).symm⟩
  clear A0 k03 D3
  rintro σ' H3 ⟨v, va, rfl, k03, D3, A0, hva⟩
  have lva : va.length ≤ 1 := by
    rw [hva]
    split <;> omega
  -- the default
  refine ⟨fun σ' H' => ∃ v da, σ' = [some (.ref d), some (.ref u), some (.int deep), some (.ref sc), some (.str t), some (.str o), some v] ∧ Keep d c H H' ∧ Deck H' d c (N + 2 + 3 * dx n) ∧ Ag K H' n (nmx 1 ts cs) scope o t v va da x5 ∧ da.length = (if o = "most" ∨ o = "first" then 1 else 0), ?_, ?_⟩
  · refine ⟨.str o, rfl, h1000 (show 2 ≤ 1000 by decide), fun l nl => ⟨l, _, rfl, .inr (.inl (.inl upd_same)), rfl, rfl, ?_⟩⟩
    have sl := same_upd (o := .tup [.str "most", .str "first"]) nl
    have A1 := A0.keep ho nt (KeepT.of sl)
    have D4 := D3.same sl
    have k04 := k03.trans (Keep.of sl)
    revert A1 D4 k04
    clear sl
    generalize upd H3 l (.tup [.str "most", .str "first"]) = H4
    intro A1 D4 k04
    have e0 : inV (.str o) [.str "most", .str "first"] = decide (o = "most" ∨ o = "first") := by
      rcases ho4 with rfl | rfl | rfl | rfl <;> rfl
    refine ⟨_, rfl, ite2 (fun e1 => ?_) (fun e1 => ?_)⟩
    · have e2 : o = "most" ∨ o = "first" := of_decide_eq_true (e0.symm.trans e1)
      refine ⟨v, rfl, .ref d, rfl, .ref u, rfl, .int deep, rfl, deep, 1, rfl, rfl, .ref sc, rfl, d, c, u, sc, _, deep - 1, 0, ts, cs, ns, scope, rfl, D4, by omega, W.keep k04, S.keep k04, by omega, by decide, by decide, fun H5 v6 x6 k5 D5 f6 c6 p6 => ⟨h1000 (show 1 ≤ 1000 by decide), fun y0 j0 => ?_⟩⟩
      have s5 := same_upd (o := .tup [v6]) j0
      obtain ⟨z3, z0, z2, v5, us, rfl, h1, h2, h3⟩ := (A1.keep ho nt ((k5.t D4).trans (KeepT.of s5))).tup
      have lus : us.length ≤ 1 := by rw [h3]; exact lva
      refine ⟨z3, y0, _, _, rfl, rfl, .inl (.inl h1), .inl (.inl upd_same), List.cons_ne_nil _ _, h1000 (by rw [List.length_append]; show 5 + us.length + 1 ≤ 1000; omega), fun e => absurd e (List.cons_ne_nil _ _), fun _ pp np => ?_⟩
      have s6 := same_upd (o := .tup (([.str o, .str t, .ref z0, .ref z2, v5] ++ us) ++ [v6])) np
      have A5 := A1.keep ho nt ((k5.t D4).trans (KeepT.of s5))
      exact ⟨_, [x6], rfl, ((k04.trans k5).trans (Keep.of s5)).trans (Keep.of s6), ((D5.same s5).same s6).mono (by omega), A5.more ho nt (KeepT.of s6) ⟨z3, rfl, h1⟩ upd_same (dp_keep ((KeepT.of s5).trans (KeepT.of s6)) _ _ f6.flat p6) f6 (by rw [List.append_nil]) rfl lva A1.cv (fun x hx => by rw [List.mem_singleton.mp hx]; exact c6), (if_pos e2).symm⟩
    · have e2 : ¬ (o = "most" ∨ o = "first") := fun h => e1 (e0.trans (decide_eq_true h))
      exact ⟨v, [], rfl, k04, D4.mono (by omega), A1, (if_neg e2).symm⟩
  clear A0 k03 D3
  rintro σ' H3 ⟨v, da, rfl, k03, D3, A0, hda⟩
  have hak : (o, va.length, da.length) ∈ aggk := by
    rw [hva, hda]
    rcases ho4 with rfl | rfl | rfl | rfl <;> decide
  obtain ⟨L, hL, hf⟩ := A0.fines ho nt
  have hll := A0.le
  have hem : em (n + 1) = 3 * em n + 240 := rfl
  have hmul : em n * (va.length + da.length) ≤ em n * 2 := Nat.mul_le_mul_left _ hll
  obtain ⟨z3, z0, z2, v5, us, rfl, h1, h2, h3⟩ := A0.tup
  have hin : ("#" : Str) ∈ nmx 1 ts cs := List.mem_cons_of_mem _ (List.mem_append_right _ (List.mem_append_right _ mark_in))
  have CA := Cx.agg (zs := nmx 1 ts cs) (sc := scope) false (n + 2) o t x5 [] va da hin (by omega) hak ⟨List.mem_cons_of_mem _ (List.mem_append_left _ ht), nm_hash nt⟩ (Nat.zero_le _) (fun x hx => (nomatch hx)) A0.c5 A0.cv A0.cd
  exact ⟨.ref z3, rfl, q _ _ _ k03 D3 (hf.tup.mono (by omega) (by omega)) CA (.tup (.inl (.inl h1)) h2)⟩
end
end L9

namespace L9
open PySem PySem.Spec PyProof.Rows L2 GR
section
variable {P : Program} {w : World} {K : PySem.W.Frag} {mg : Str → Option Value} {base : Heap}
theorem ok_expr_step {n : Nat} {f f_law_draw f_law_pick f_leaf f_cell f_agg : Addr} {fd fd_law_draw fd_law_pick d_leaf d_cell d_agg : FuncData} {k : Nat} (F : Fun K "_law_expression" "_law_expression" s_law_expression f fd) (G_law_draw : FnOk P w K mg base CX0 k f_law_draw fd_law_draw ["_law_deck_here", "_law_most"] sp_draw)
    (g_law_draw : mg "_law_draw" = some (.ref f_law_draw)) (K_law_draw : PySem.W.keepIn K (.ref f_law_draw) = true) (b_law_draw : Binds K fd_law_draw ["_law_deck_here", "_law_most"] [])
    (G_law_pick : FnOk P w K mg base CX0 k f_law_pick fd_law_pick ["_law_deck_here", "_law_some"] (sp_pick K))
    (g_law_pick : mg "_law_pick" = some (.ref f_law_pick)) (K_law_pick : PySem.W.keepIn K (.ref f_law_pick) = true) (b_law_pick : Binds K fd_law_pick ["_law_deck_here", "_law_some"] [])
    (G_leaf : FnOk P w K mg base CX0 k f_leaf d_leaf ps_lf (sp_leaf K)) (g_leaf : mg "_law_leaf" = some (.ref f_leaf)) (K_leaf : PySem.W.keepIn K (.ref f_leaf) = true) (b_leaf : Binds K d_leaf ps_lf [])
    (G_cell : FnOk P w K mg base CX0 k f_cell d_cell ps_ce sp_cell) (g_cell : mg "_law_cell" = some (.ref f_cell)) (K_cell : PySem.W.keepIn K (.ref f_cell) = true) (b_cell : Binds K d_cell ps_ce [])
    (G_agg : FnOk P w K mg base CX0 k f_agg d_agg ps_ag (fun vs H Q E => ∃ m, n = m + 1 ∧ sp_agg K m vs H Q E)) (g_agg : mg "_law_aggregate" = some (.ref f_agg)) (K_agg : PySem.W.keepIn K (.ref f_agg) = true) (b_agg : Binds K d_agg ps_ag [])
    (G : FnOk P w K mg base CX0 k f fd ps_ex (fun vs H Q E => ∃ m, n = m + 1 ∧ sp_expr K m vs H Q E)) (g : mg "_law_expression" = some (.ref f)) (Kf : PySem.W.keepIn K (.ref f) = true) (b : Binds K fd ps_ex [])
    (mmax : mg "max" = none) : FnOk P w K mg base CX0 (k + 1) f fd ps_ex (sp_expr K n) := by
  have nd := sc_law_expression.nd
  refine F.ok sc_law_expression (fun vs H Q E h => ?_) (fun cdv A outer s H vs Q E hr h => ?_)
  · obtain ⟨d, c, u, sc, N, deep, loose, ts, cs, ns, scope, rfl, _⟩ := h
    rfl
  obtain ⟨d, c, u, sc, N, deep, loose, ts, cs, ns, scope, rfl, D, hN, W, S, hdeep, hl0, hl2, q⟩ := h
  have hp := dx_pos n
  have hu1 : (A.deeper (envOfC "_law_expression" (defScope s_law_expression) s.heap.objs.size f cdv)).units + 1 < cLine := by
    have := hr.units
    omega
  refine ⟨_, (pss_cons (ps_set (i := 5) nd rfl (.inl rfl) (pe_call G_law_draw hr (by rfl) g_law_draw K_law_draw b_law_draw .nil pass0 (pa_cons (pv 0) (pa_cons pe_int pa_nil))))
      (Evl.pss_cut (ps_if (PW.pt (pw_or (pt_cmpR op_lt (pv 2) pe_int (nomark _)) (pw_or1 (pt_cmpR op_lt (pv 5) pe_int (nomark _)))))
      (pss_one (ps_ret (pe_call G_leaf hr (by rfl) g_leaf K_leaf b_leaf .nil pass0 (pa_cons (pv 0) (pa_cons (pv 1) (pa_cons (pv 3) (pa_cons (pe_cmpR op_gt (pv 4) pe_int (nomark _)) pa_nil)))))))
      pss_nil)
      (pss_cons (ps_set (i := 6) nd rfl (.inl rfl) (pe_call G hr (by rfl) g Kf b .nil pass0 (pa_cons (pv 0) (pa_cons (pv 1) (pa_cons (pe_op op_sub (pv 2) pe_int) (pa_cons (pv 3) (pa_cons (pv 4) pa_nil)))))))
      (Evl.pss_cut (ps_set (i := 7) nd rfl (.inl rfl) (pe_ifExp (pt_cmpR op_eq (pv 4) pe_int (nomark _)) (pe_call G_leaf hr (by rfl) g_leaf K_leaf b_leaf .nil pass0 (pa_cons (pv 0) (pa_cons (pv 1) (pa_cons (pv 3) (pa_cons pe_bl pa_nil))))) (pv 6)))
      (pss_cons (ps_if (pt_cmpR op_lt (pv 5) pe_int (nomark _))
      (pss_one (ps_ret (pe_call G_cell hr (by rfl) g_cell K_cell b_cell .nil pass0 (pa_cons (pe_call G_law_pick hr (by rfl) g_law_pick K_law_pick b_law_pick .nil pass0 (pa_cons (pv 0) (pa_cons (pe_dget hu1 (pv 1) pe_str noSl_str) pa_nil))) (pa_cons (pv 7) (pa_cons (pe_call G_law_pick hr (by rfl) g_law_pick K_law_pick b_law_pick .nil pass0 (pa_cons (pv 0) (pa_cons (pe_dget hu1 (pv 1) pe_str noSl_str) pa_nil))) pa_nil))))))
      pss_nil)
      (Evl.pss_cut (ps_if (PW.pt (pw_and (pt_cmpR op_eq (pv 5) pe_int (nomark _)) (pw_and1 (pt_cmpR op_lt (pv 4) pe_int (nomark _)))))
      (pss_one (ps_ret (pe_call G_agg hr (by rfl) g_agg K_agg b_agg .nil pass0 (pa_cons (pv 0) (pa_cons (pv 1) (pa_cons (pv 2) (pa_cons (pv 3) pa_nil)))))))
      pss_nil)
      (pss_cons (ps_set (i := 8) nd rfl (.inl rfl) (pe_call G hr (by rfl) g Kf b .nil pass0 (pa_cons (pv 0) (pa_cons (pv 1) (pa_cons (pe_op op_sub (pv 2) pe_int) (pa_cons (pv 3) (pa_cons (pv 4) pa_nil)))))))
      (pss_cons (ps_if (pt_cmpR op_lt (pv 5) pe_int (nomark _))
      (pss_one (ps_ret (pe_tup (pa_cons (pe_call G_law_pick hr (by rfl) g_law_pick K_law_pick b_law_pick .nil pass0 (pa_cons (pv 0) (pa_cons (pe_lst (pa_cons pe_str (pa_cons pe_str (pa_cons pe_str (pa_cons pe_str (pa_cons pe_str (pa_cons pe_str pa_nil))))))) pa_nil))) (pa_cons (pv 6) (pa_cons (pv 8) pa_nil))))))
      pss_nil)
      (pss_cons (ps_if (pt_cmpR op_eq (pv 5) pe_int (nomark _))
      (pss_one (ps_ret (pe_tup (pa_cons pe_str (pa_cons (pv 7) (pa_cons (pe_call G hr (by rfl) g Kf b .nil pass0 (pa_cons (pv 0) (pa_cons (pv 1) (pa_cons (pe_op op_sub (pv 2) pe_int) (pa_cons (pv 3) (pa_cons (pe_callB (call_max2 rfl) (by rfl) mmax boot_max (pa_cons pe_int (pa_cons (pv 4) pa_nil))) pa_nil)))))) pa_nil))))))
      pss_nil)
      (pss_one (ps_ret (pe_tup (pa_cons pe_str (pa_cons (pv 6) (pa_cons (pv 8) (pa_cons (pe_call G hr (by rfl) g Kf b .nil pass0 (pa_cons (pv 0) (pa_cons (pv 1) (pa_cons (pe_op op_sub (pv 2) pe_int) (pa_cons (pv 3) (pa_cons (pv 4) pa_nil)))))) pa_nil)))))))))))))))), ?_⟩
  have LIM : (10 : Int) ^ 18 = 1000000000000000000 := by decide
  refine ⟨.ref d, rfl, d, c, N, 12, rfl, D, by omega, by decide, by decide, fun H1 way k1 D1 w0 w1 => ?_⟩
  refine ⟨fun σ' H' => σ' = [some (.ref d), some (.ref u), some (.int deep), some (.ref sc), some (.int loose), some (.int way), none, none, none] ∧ H' = H1 ∧ ¬ deep < 1, ?_, ?_⟩
  · have leaf : ∀ H' v x, Keep d c H1 H' → Deck H' d c (N + 1 + 5) → Fine 3 100 x → (∀ zs, Cx zs scope (decide (loose > 0)) 1 x) → Dp K H' v x → Q v H' := fun H' v x k' D' f' c' p' =>
      q H' v x (k1.trans k') (D'.mono (by omega)) (f'.mono (by omega) (em_pos n)) ((c' _).mono (by omega)) p'
    refine ⟨.int deep, rfl, _, _, rfl, rfl, _, rfl, iteA ?leaf (fun e => ⟨.int way, rfl, _, _, rfl, rfl, _, rfl, ite2 (fun _ => ?leaf) (fun e2 => ⟨rfl, rfl, by simpa using e⟩)⟩)⟩
    exact ⟨.ref d, rfl, .ref u, rfl, .ref sc, rfl, .int loose, rfl, _, _, rfl, rfl, d, c, u, sc, _, _, ts, cs, ns, scope, rfl, D1, by omega, W.keep k1, S.keep k1, leaf⟩
  rintro σ' _ ⟨rfl, rfl, e⟩
  obtain ⟨m, rfl⟩ : ∃ m, n = m + 1 := ⟨n - 1, by omega⟩
  have hdx : dx (m + 1) = 30 + 6 * dx m := rfl
  have hem : em (m + 1) = 3 * em m + 240 := rfl
  have hpm := dx_pos m
  have hme := em_pos m
  -- one
  refine ⟨.ref d, rfl, .ref u, rfl, .int deep, rfl, deep, 1, rfl, rfl, .ref sc, rfl, .int loose, rfl, m, rfl, d, c, u, sc, _, deep - 1, loose, ts, cs, ns, scope, rfl, D1, by omega, W.keep k1, S.keep k1, by omega, hl0, hl2, fun H3 v1 x1 k3 D3x f1 c1 p1 => ?_⟩
  have k03 := k1.trans k3
  -- near
  refine ⟨fun σ' H' => ∃ vn xn, σ' = [some (.ref d), some (.ref u), some (.int deep), some (.ref sc), some (.int loose), some (.int way), some v1, some vn, none] ∧ Keep d c H H' ∧ Deck H' d c (N + 6 + dx m) ∧ Dp K H' v1 x1 ∧ Dp K H' vn xn ∧ Fine (m + 3) (em m) xn ∧ Cx (nmx loose ts cs) scope (decide (0 < loose)) (m + 2) xn, ?_, ?_⟩
  · refine ⟨.int loose, rfl, rfl, _, rfl, ite2 (fun e3 => ?_) (fun e3 => ?_)⟩
    · refine ⟨.ref d, rfl, .ref u, rfl, .ref sc, rfl, d, c, u, sc, _, true, ts, cs, ns, scope, rfl, D3x, by omega, W.keep k03, S.keep k03, fun H4 vn xn k4 D4 fn cn pn => ?_⟩
      have hl : 0 < loose := by
        have := of_decide_eq_true e3
        injection this with this
        omega
      exact ⟨vn, xn, rfl, k03.trans k4, D4.mono (by omega), dp_keep (k4.t D3x) _ _ f1.flat p1, pn, fn.mono (by omega) (em_pos m), by rw [decide_eq_true hl]; exact (cn _).mono (by omega)⟩
    · exact ⟨v1, rfl, v1, x1, rfl, k03, D3x.mono (by omega), p1, p1, f1, c1⟩
  clear k03 D3x p1 k3
  rintro σ' H4 ⟨vn, xn, rfl, k04, D4, p14, pn4, fn, cn⟩
  have W4 := W.keep k04
  have S4 := S.keep k04
  refine ⟨.int way, rfl, _, _, rfl, rfl, _, rfl, ite2 (fun e4 => ?_) (fun e4 => ?_)⟩
  · obtain ⟨tl, cl, nl, kl, ks, W4⟩ := W4
    refine ⟨.ref d, rfl, .ref u, rfl, u, .ref tl, rfl, ?_, .inl ⟨d, c, tl, _, _, rfl, D4, by omega, .inl (.inl W4.ht), ?_, ?_, W4.t0.1, W4.t0.2, fun H5 vt k5 D5 hvt => ?_⟩⟩
    · rw [← wD_t tl cl nl kl]
      exact DGet.k (k := .inr "tables") W4.dct
    · intro e
      have := congrArg List.length e
      rw [List.length_map, W4.lt] at this
      cases this
    · rw [List.length_map, W4.lt]
      decide
    obtain ⟨t, ht, rfl⟩ := List.mem_map.mp hvt
    have ft := Fine.str (W4.at' t ht)
    have W5 := W4.keep k5
    have nt := W4.at' t ht
    refine ⟨vn, rfl, .ref d, rfl, .ref u, rfl, u, .ref cl, rfl, ?_, .inl ⟨d, c, cl, _, _, rfl, D5, by omega, .inl (.inl W5.hc), ?_, ?_, W5.c0.1, W5.c0.2, fun H6 vc k6 D6 hvc => ?_⟩⟩
    · rw [← wD_c tl cl nl kl]
      exact DGet.k (k := .inr "columns") W5.dct
    · intro e
      have := congrArg List.length e
      rw [List.length_map, W5.lc] at this
      cases this
    · rw [List.length_map, W5.lc]
      decide
    obtain ⟨z, hz, rfl⟩ := List.mem_map.mp hvc
    have fz := Fine.str (W5.ac z hz)
    refine ⟨_, _, _, rfl, fun p np => ?_⟩
    have s6 := same_upd (o := .tup [.str "cell", .str t, vn, .str z]) np
    have pn5 := dp_keep ((k5.t D4).trans (k6.t D5)) _ _ fn.flat pn4
    have F := (Fines.cons (Fine.word (w := "cell") (by decide)).k0 (.cons ft.k0 (.cons fn (.cons fz.k0 .nil)))).tup
    exact q _ _ _ (((k04.trans k5).trans k6).trans (Keep.of s6)) ((D6.same s6).mono (by omega)) (F.mono (by omega) (by omega)) (.cell _ _ _ _ _ ⟨List.mem_cons_of_mem _ (List.mem_append_left _ ht), nm_hash nt⟩ ⟨List.mem_cons_of_mem _ (List.mem_append_right _ (List.mem_append_left _ hz)), nm_hash (W5.ac z hz)⟩ cn) (new_tup (.cons (.str _) (.cons (.str _) (.cons pn5 (.cons (.str _) .nil)))) (by simp only [flatDs, flatD, fn.flat, Bool.and_self]) np)
  -- an aggregate
  refine ⟨fun σ' H' => σ' = [some (.ref d), some (.ref u), some (.int deep), some (.ref sc), some (.int loose), some (.int way), some v1, some vn, none] ∧ H' = H4, ?_, ?_⟩
  · refine ⟨.int way, rfl, rfl, _, rfl, ite2 (fun e5 => ⟨.int loose, rfl, _, _, rfl, rfl, _, rfl, ite2 (fun e6 => ?_) (fun e6 => ⟨rfl, rfl⟩)⟩) (fun e5 => ⟨rfl, rfl⟩)⟩
    have hl : loose < 2 := of_decide_eq_true e6
    refine ⟨.ref d, rfl, .ref u, rfl, .int deep, rfl, .ref sc, rfl, m, rfl, d, c, u, sc, _, deep, ts, cs, ns, scope, rfl, D4, by omega, W4, S4, by omega, fun H5 v x k5 D5 f5 c5 p5 => ?_⟩
    refine q _ _ _ (k04.trans k5) (D5.mono (by omega)) f5 ?_ p5
    rw [← nmx_one (l := loose) (by omega) hl2]
    rcases Bool.eq_false_or_eq_true (decide (0 < loose)) with e | e
    · rw [e]; exact c5.free
    · rw [e]; exact c5
  rintro σ' _ ⟨rfl, rfl⟩
  -- the other
  refine ⟨.ref d, rfl, .ref u, rfl, .int deep, rfl, deep, 1, rfl, rfl, .ref sc, rfl, .int loose, rfl, m, rfl, d, c, u, sc, _, deep - 1, loose, ts, cs, ns, scope, rfl, D4, by omega, W4, S4, by omega, hl0, hl2, fun H5 v2 x2 k5 D5 f2 c2 p2 => ?_⟩
  have k05 := k04.trans k5
  have p15 := dp_keep (k5.t D4) _ _ f1.flat p14
  have pn5 := dp_keep (k5.t D4) _ _ fn.flat pn4
  refine ⟨.int way, rfl, _, _, rfl, rfl, _, rfl, ite2 (fun e5 => ?_) (fun e5 => ?_)⟩
  · refine ⟨.ref d, rfl, h1000 (show 6 ≤ 1000 by decide), fun l nl => ?_⟩
    have sl := same_upd (o := .lst [.str "+", .str "-", .str "*", .str "<", .str "=", .str "+"]) nl
    have hln := D5.new nl
    refine .inl ⟨d, c, l, _, [.str "+", .str "-", .str "*", .str "<", .str "=", .str "+"], rfl, D5.same sl, by omega, .inl (.inl upd_same), List.cons_ne_nil _ _, (show 6 ≤ 1000 by decide), hln.1, hln.2, fun H6 vo k6 D6 hvo => ?_⟩
    obtain ⟨o, ho, ho5, rfl⟩ : ∃ o : Str, o ∈ (["int", "key", "var", "cell", "if", "+", "-", "*", "<", "=", "at", "count", "sum", "most", "first", "in", "let", "need", "tell", "put", "each"] : List Str) ∧ o ∈ ops5 ∧ vo = .str o := by
      simp only [List.mem_cons, List.not_mem_nil, or_false] at hvo
      rcases hvo with rfl | rfl | rfl | rfl | rfl | rfl
      · exact ⟨_, by decide, by decide, rfl⟩
      · exact ⟨_, by decide, by decide, rfl⟩
      · exact ⟨_, by decide, by decide, rfl⟩
      · exact ⟨_, by decide, by decide, rfl⟩
      · exact ⟨_, by decide, by decide, rfl⟩
      · exact ⟨_, by decide, by decide, rfl⟩
    have kt6 := (KeepT.of sl).trans (k6.t (D5.same sl))
    refine ⟨v1, rfl, v2, rfl, h1000 (show 3 ≤ 1000 by decide), fun p np => ?_⟩
    have s7 := same_upd (o := .tup [.str o, v1, v2]) np
    have F := (Fines.cons (Fine.word ho).k0 (.cons f1 (.cons f2 .nil))).tup
    exact q _ _ _ ((k05.trans (Keep.of sl)).trans (k6.trans (Keep.of s7))) ((D6.same s7).mono (by omega)) (F.mono (by omega) (by omega)) (.op _ _ _ _ _ ho5 c1 c2) (new_tup (.cons (.str _) (.cons (dp_keep kt6 _ _ f1.flat p15) (.cons (dp_keep kt6 _ _ f2.flat p2) .nil))) (by simp only [flatDs, flatD, f1.flat, f2.flat, Bool.and_self]) np)
  have W5 := W.keep k05
  have S5 := S.keep k05
  refine ⟨.int way, rfl, rfl, _, rfl, ite2 (fun e6 => ?_) (fun e6 => ?_)⟩
  · refine ⟨vn, rfl, .ref d, rfl, .ref u, rfl, .int deep, rfl, deep, 1, rfl, rfl, .ref sc, rfl, .int loose, rfl, _, _, rfl, m, rfl, d, c, u, sc, _, deep - 1, _, ts, cs, ns, scope, rfl, D5, by omega, W5, S5, by omega, ?_, ?_, fun H6 v3 x3 k6 D6 f3 c3 p3 => ⟨h1000 (show 3 ≤ 1000 by decide), fun p np => ?_⟩⟩
    · split <;> omega
    · split <;> omega
    have c3t : Cx (nmx loose ts cs) scope true (m + 2) x3 := by
      have := c3.free
      rw [nmx_max hl0 hl2] at this
      exact this
    have s7 := same_upd (o := .tup [.str "at", vn, v3]) np
    have F := (Fines.cons (Fine.word (w := "at") (by decide)).k0 (.cons fn (.cons f3 .nil))).tup
    exact q _ _ _ ((k05.trans k6).trans (Keep.of s7)) ((D6.same s7).mono (by omega)) (F.mono (by omega) (by omega)) (.at_ _ _ _ _ cn c3t) (new_tup (.cons (.str _) (.cons (dp_keep (k6.t D5) _ _ fn.flat pn5) (.cons p3 .nil))) (by simp only [flatDs, flatD, fn.flat, f3.flat, Bool.and_self]) np)
  · refine ⟨v1, rfl, v2, rfl, .ref d, rfl, .ref u, rfl, .int deep, rfl, deep, 1, rfl, rfl, .ref sc, rfl, .int loose, rfl, m, rfl, d, c, u, sc, _, deep - 1, loose, ts, cs, ns, scope, rfl, D5, by omega, W5, S5, by omega, hl0, hl2, fun H7 v4 x4 k7 D7 f4 c4 p4 => ⟨h1000 (show 4 ≤ 1000 by decide), fun p np => ?_⟩⟩
    have s8 := same_upd (o := .tup [.str "if", v1, v2, v4]) np
    have F := (Fines.cons (Fine.word (w := "if") (by decide)).k0 (.cons f1 (.cons f2 (.cons f4 .nil)))).tup
    exact q _ _ _ ((k05.trans k7).trans (Keep.of s8)) ((D7.same s8).mono (by omega)) (F.mono (by omega) (by omega)) (.iff _ _ _ _ _ c1 c2 c4) (new_tup (.cons (.str _) (.cons (dp_keep (k7.t D5) _ _ f1.flat p15) (.cons (dp_keep (k7.t D5) _ _ f2.flat p2) (.cons p4 .nil)))) (by simp only [flatDs, flatD, f1.flat, f2.flat, f4.flat, Bool.and_self]) np)
end
end L9

namespace L9
open PySem PySem.Spec PyProof.Rows L2 GR
section
variable {P : Program} {w : World} {K : PySem.W.Frag} {mg : Str → Option Value} {base : Heap}
theorem ok_none {k : Nat} {f : Addr} {fd : FuncData} {ps : List Str} {sp : Sp} (h : ∀ vs H Q E, ¬ sp vs H Q E) : FnOk P w K mg base CX0 k f fd ps sp :=
  ⟨fun vs H Q E q => absurd q (h vs H Q E), fun A outer s H args us vs Q E hr he hb hv hs => absurd hs (h vs H Q E)⟩
theorem ok_exprs {f f_law_draw f_law_pick f_leaf f_cell f_agg : Addr} {fd fd_law_draw fd_law_pick d_leaf d_cell d_agg : FuncData} {k : Nat} (F : Fun K "_law_expression" "_law_expression" s_law_expression f fd) (FA : Fun K "_law_aggregate" "_law_aggregate" s_law_aggregate f_agg d_agg) (G_law_draw : FnOk P w K mg base CX0 k f_law_draw fd_law_draw ["_law_deck_here", "_law_most"] sp_draw)
    (g_law_draw : mg "_law_draw" = some (.ref f_law_draw)) (K_law_draw : PySem.W.keepIn K (.ref f_law_draw) = true) (b_law_draw : Binds K fd_law_draw ["_law_deck_here", "_law_most"] [])
    (G_law_pick : FnOk P w K mg base CX0 k f_law_pick fd_law_pick ["_law_deck_here", "_law_some"] (sp_pick K))
    (g_law_pick : mg "_law_pick" = some (.ref f_law_pick)) (K_law_pick : PySem.W.keepIn K (.ref f_law_pick) = true) (b_law_pick : Binds K fd_law_pick ["_law_deck_here", "_law_some"] [])
    (G_leaf : FnOk P w K mg base CX0 k f_leaf d_leaf ps_lf (sp_leaf K)) (g_leaf : mg "_law_leaf" = some (.ref f_leaf)) (K_leaf : PySem.W.keepIn K (.ref f_leaf) = true) (b_leaf : Binds K d_leaf ps_lf [])
    (G_cell : FnOk P w K mg base CX0 k f_cell d_cell ps_ce sp_cell) (g_cell : mg "_law_cell" = some (.ref f_cell)) (K_cell : PySem.W.keepIn K (.ref f_cell) = true) (b_cell : Binds K d_cell ps_ce [])
    (g_agg : mg "_law_aggregate" = some (.ref f_agg)) (K_agg : PySem.W.keepIn K (.ref f_agg) = true) (b_agg : Binds K d_agg ps_ag [])
    (g : mg "_law_expression" = some (.ref f)) (Kf : PySem.W.keepIn K (.ref f) = true) (b : Binds K fd ps_ex [])
    (mmax : mg "max" = none) : ∀ n : Nat, FnOk P w K mg base CX0 (k + 2 * n + 1) f fd ps_ex (sp_expr K n)
  | 0 => ok_expr_step (k := k) F G_law_draw g_law_draw K_law_draw b_law_draw G_law_pick g_law_pick K_law_pick b_law_pick G_leaf g_leaf K_leaf b_leaf G_cell g_cell K_cell b_cell (ok_none fun vs H Q E ⟨m, h, _⟩ => by omega) g_agg K_agg b_agg (ok_none fun vs H Q E ⟨m, h, _⟩ => by omega) g Kf b mmax
  | n + 1 => by
    have ih := ok_exprs F FA G_law_draw g_law_draw K_law_draw b_law_draw G_law_pick g_law_pick K_law_pick b_law_pick G_leaf g_leaf K_leaf b_leaf G_cell g_cell K_cell b_cell g_agg K_agg b_agg g Kf b mmax n
    have ia := ok_agg (k := k + 2 * n + 1) FA (G_law_pick.mono (by omega)) g_law_pick K_law_pick b_law_pick (G_cell.mono (by omega)) g_cell K_cell b_cell ih g Kf b
    refine ok_expr_step (k := k + 2 * n + 2) F (G_law_draw.mono (by omega)) g_law_draw K_law_draw b_law_draw (G_law_pick.mono (by omega)) g_law_pick K_law_pick b_law_pick (G_leaf.mono (by omega)) g_leaf K_leaf b_leaf (G_cell.mono (by omega)) g_cell K_cell b_cell (ia.imp ?_) g_agg K_agg b_agg ((ih.mono (by omega)).imp ?_) g Kf b mmax
    · rintro vs H Q E ⟨m, hm, h⟩
      obtain rfl : n = m := by omega
      exact h
    · rintro vs H Q E ⟨m, hm, h⟩
      obtain rfl : n = m := by omega
      exact h
/-! ### statements -/
/-- the table and column that a statement writes to; whether it is a let -/
def colD : PyData → Option (Str × Str)
  | .tuple [.str w, .str t, _, .str z, _] => if w = "put" ∨ w = "each" then some (t, z) else none
  | _ => none
def isLet : PyData → Bool
  | .tuple (.str w :: _) => decide (w = "let")
  | _ => false
/-- the form of a statement: its word, the next thing, the others -/
def SF (w : Str) (v1 : V) (vs : List V) (x : PyData) : Prop := (w = "let" ∧ isLet x = true ∧ colD x = none ∧ ∃ z e, v1 = .str z ∧ Nm z ∧ vs = [e]) ∨ ((w = "need" ∨ w = "tell") ∧ isLet x = false ∧ colD x = none ∧ vs = []) ∨
  ((w = "put" ∨ w = "each") ∧ isLet x = false ∧ ∃ t e z f, v1 = .str t ∧ vs = [e, .str z, f] ∧ colD x = some (t, z) ∧ Nm t ∧ Nm z)
theorem isLet_t {w : Str} {ds : List PyData} (h : w = "let") : isLet (.tuple (.str w :: ds)) = true := decide_eq_true h
theorem isLet_f {w : Str} {ds : List PyData} (h : w ≠ "let") : isLet (.tuple (.str w :: ds)) = false := decide_eq_false h
theorem colD_p {w t z : Str} {x y : PyData} (h : w = "put" ∨ w = "each") : colD (.tuple [.str w, .str t, x, .str z, y]) = some (t, z) := if_pos h
theorem colD_2 {w : Str} : ∀ x : PyData, colD (.tuple [.str w, x]) = none := fun x => by cases x <;> rfl
theorem SF.let' {w : Str} {v1 : V} {vs : List V} {x : PyData} (h : SF w v1 vs x) (e : w = "let") : ∃ z, v1 = .str z ∧ Nm z := by
  subst e
  rcases h with ⟨_, _, _, z, _, h1, h2, _⟩ | ⟨h, _⟩ | ⟨h, _⟩
  · exact ⟨z, h1, h2⟩
  · rcases h with h | h <;> exact absurd h (by decide)
  · rcases h with h | h <;> exact absurd h (by decide)
/-- a statement by its expressions; sc: the variables that are let ahead of it -/
inductive StX (ts cs sc : List Str) : PyData → Prop
  | let_ (z : Str) (x : PyData) : Nm z → z ∉ sc → Cx (nmx 0 ts cs) sc false 5 x → StX ts cs sc (.tuple [.str "let", .str z, x])
  | need (x : PyData) : Cx (nmx 0 ts cs) sc false 5 x → StX ts cs sc (.tuple [.str "need", .tuple [.str "<", .tuple [.str "int", .int (0 - 3)], x]])
  | tell (x : PyData) : Cx (nmx 0 ts cs) sc false 5 x → StX ts cs sc (.tuple [.str "tell", x])
  | each (t z : Str) (x y : PyData) : t ∈ ts → z ∈ cs → Cx (nmx 2 ts cs) sc true 5 x → Cx (nmx 2 ts cs) sc true 5 y → StX ts cs sc (.tuple [.str "each", .str t, x, .str z, y])
  | put (t z : Str) (x y : PyData) : t ∈ ts → (z ∈ cs ∨ z = "in") → Cx (nmx 0 ts cs) sc false 5 x → Cx (nmx 0 ts cs) sc false 5 y → StX ts cs sc (.tuple [.str "put", .str t, x, .str z, y])
/-- the variable that a statement lets -/
def letNm : PyData → Option Str
  | .tuple (.str w :: .str z :: _) => if w = "let" then some z else none
  | _ => none
theorem letNm_no {w : Str} {r : List PyData} (h : w ≠ "let") : letNm (.tuple (.str w :: r)) = none := by
  cases r with
  | nil => rfl
  | cons a r => cases a <;> first | rfl | exact if_neg h
/-- the object of a let -/
def LetH (H : Hp) (v : V) (x : PyData) : Prop := ∀ z, letNm x = some z → ∃ (p : Addr) (e : V), v = .ref p ∧ H p = some (.tup [.str "let", .str z, e])
theorem LetH.no {H : Hp} {v : V} {x : PyData} (h : letNm x = none) : LetH H v x := fun z e => by rw [h] at e; cases e
theorem LetH.keep {H H' : Hp} {v : V} {x : PyData} (h : LetH H v x) (k : KeepT H H') : LetH H' v x := fun z e => by
  obtain ⟨p, u, h1, h2⟩ := h z e
  exact ⟨p, u, h1, k.1 _ _ h2⟩
theorem in_strs (z : Str) (W : List Str) : inV (.str z) (W.map V.str) = decide (z ∈ W) := by
  unfold inV
  rw [List.any_map, Bool.eq_iff_iff, List.any_eq_true, decide_eq_true_eq]
  constructor
  · rintro ⟨f, hf, e⟩
    have : z = f := by
      have e' : eqV (.str f) (.str z) = true := e
      simp [eqV] at e'
      exact e'.symm
    rw [this]
    exact hf
  · intro h
    exact ⟨z, h, by show eqV (.str z) (.str z) = true; simp [eqV]⟩
/-- a statement: a tuple of one of these forms -/
def SV (K : PySem.W.Frag) (H : Hp) (v : V) (x : PyData) : Prop := ∃ (p : Addr) (w : Str) (v1 : V) (vs : List V), v = .ref p ∧ H p = some (.tup (.str w :: v1 :: vs)) ∧ SF w v1 vs x ∧ Dp K H v x ∧ Fine 8 12000 x
theorem SV.keep {K : PySem.W.Frag} {H H' : Hp} {v : V} {x : PyData} (h : SV K H v x) (k : KeepT H H') : SV K H' v x := by
  obtain ⟨p, w, v1, vs, rfl, h1, h2, h3, h4⟩ := h
  exact ⟨p, w, v1, vs, rfl, k.1 _ _ h1, h2, dp_keep k _ _ h4.flat h3, h4⟩
abbrev s_law_statement : Stmt := topS 49
abbrev N_st : List Str := ["_law_deck_here", "_law_world_here", "_law_scope", "_law_deep", "_law_way", "_law_table", "_law_column", "_law_left", "_law_guard", "_law_key", "_law_name"]
abbrev ps_st : List Str := ["_law_deck_here", "_law_world_here", "_law_scope", "_law_deep"]
theorem sc_law_statement : FnScope N_st ps_st (defScope s_law_statement) := ⟨rfl, rfl, rfl, by decide +kernel, rfl, by decide +kernel, by decide +kernel⟩
def sp_stmt (K : PySem.W.Frag) : Sp := fun vs H Q _ => ∃ (d c u sc : Addr) (N deep : Int) (ts cs ns scope : List Str), vs = [.ref d, .ref u, .ref sc, .int deep] ∧ deep ≤ 3 ∧ Deck H d c N ∧ N < 2 ^ 53 ∧ AtW H d c u ts cs ns ∧ Scp H d c sc scope ∧
  ∀ H' v x, Keep d c H H' → Deck H' d c (N + 20000) → SV K H' v x → StX ts cs scope x → LetH H' v x → Q v H'
theorem flat_map_str (zs : List Str) : (zs.map V.str).all flatV = true := by
  rw [List.all_eq_true]
  intro v hv
  obtain ⟨z, _, rfl⟩ := List.mem_map.mp hv
  rfl
theorem ok_stmt {f f_law_draw f_law_pick f_ex f_leaf : Addr} {fd fd_law_draw fd_law_pick d_ex d_leaf : FuncData} {k : Nat} (F : Fun K "_law_statement" "_law_statement" s_law_statement f fd) (G_law_draw : FnOk P w K mg base CX0 k f_law_draw fd_law_draw ["_law_deck_here", "_law_most"] sp_draw)
    (g_law_draw : mg "_law_draw" = some (.ref f_law_draw)) (K_law_draw : PySem.W.keepIn K (.ref f_law_draw) = true) (b_law_draw : Binds K fd_law_draw ["_law_deck_here", "_law_most"] [])
    (G_law_pick : FnOk P w K mg base CX0 k f_law_pick fd_law_pick ["_law_deck_here", "_law_some"] (sp_pick K))
    (g_law_pick : mg "_law_pick" = some (.ref f_law_pick)) (K_law_pick : PySem.W.keepIn K (.ref f_law_pick) = true) (b_law_pick : Binds K fd_law_pick ["_law_deck_here", "_law_some"] [])
    (G_leaf : FnOk P w K mg base CX0 k f_leaf d_leaf ps_lf (sp_leaf K)) (g_leaf : mg "_law_leaf" = some (.ref f_leaf)) (K_leaf : PySem.W.keepIn K (.ref f_leaf) = true) (b_leaf : Binds K d_leaf ps_lf [])
    (G : FnOk P w K mg base CX0 k f_ex d_ex ps_ex (sp_expr K 3)) (g : mg "_law_expression" = some (.ref f_ex)) (Kf : PySem.W.keepIn K (.ref f_ex) = true) (b : Binds K d_ex ps_ex []) : FnOk P w K mg base CX0 (k + 1) f fd ps_st (sp_stmt K) := by
  have nd := sc_law_statement.nd
  refine F.ok sc_law_statement (fun vs H Q E h => ?_) (fun cdv A outer s H vs Q E hr h => ?_)
  · obtain ⟨d, c, u, sc, N, deep, ts, cs, ns, scope, rfl, _⟩ := h
    rfl
  obtain ⟨d, c, u, sc, N, deep, ts, cs, ns, scope, rfl, hdeep, D, hN, W, S, q⟩ := h
  have hu1 : (A.deeper (envOfC "_law_statement" (defScope s_law_statement) s.heap.objs.size f cdv)).units + 1 < cLine := by
    have := hr.units
    omega
  have hu : (A.deeper (envOfC "_law_statement" (defScope s_law_statement) s.heap.objs.size f cdv)).units < cLine := by omega
  refine ⟨_, (pss_cons (ps_set (i := 4) nd rfl (.inl rfl) (pe_call G_law_draw hr (by rfl) g_law_draw K_law_draw b_law_draw .nil pass0 (pa_cons (pv 0) (pa_cons pe_int pa_nil))))
      (pss_cons (ps_set (i := 5) nd rfl (.inl rfl) (pe_call G_law_pick hr (by rfl) g_law_pick K_law_pick b_law_pick .nil pass0 (pa_cons (pv 0) (pa_cons (pe_dget hu1 (pv 1) pe_str noSl_str) pa_nil))))
      (pss_cons (ps_set (i := 6) nd rfl (.inl rfl) (pe_call G_law_pick hr (by rfl) g_law_pick K_law_pick b_law_pick .nil pass0 (pa_cons (pv 0) (pa_cons (pe_dget hu1 (pv 1) pe_str noSl_str) pa_nil))))
      (Evl.pss_cut (ps_setLc (i := 7) (own := [("_law_name", 10)]) (tt := tTest (tOp (rIn K true) (tVar 10) (tVar 2))) (te := tVar 10) rfl nd rfl rfl (sw_true rfl rfl rfl (by decide +kernel)) (pi_list (pe_dget hu1 (pv 1) pe_str noSl_str)) (blkOk_by (N := N_st) (sc := defScope s_law_statement) (by decide +kernel)) (fun _ _ _ _ _ => (pg_name (i := 10) nd rfl (Or.inl rfl))) (fun _ _ _ _ _ => (pts_one (pt_cmpR op_notIn_seq (pv 10) (pv 2) (by rfl)))) (fun _ _ _ _ _ => (pv 10)))
      (Evl.pss_cut (ps_if (PW.pt (pw_and (pt_cmpR op_lt (pv 4) pe_int (nomark _)) (pw_and1 (pt_cmpR (ZE.op_neL0 hu) (pv 7) (pe_lst pa_nil) (nomark _)))))
      (pss_one (ps_ret (pe_tup (pa_cons pe_str (pa_cons (pe_ix ix_list (pv 7) pe_int (fun _ _ => rfl)) (pa_cons (pe_call G hr (by rfl) g Kf b .nil pass0 (pa_cons (pv 0) (pa_cons (pv 1) (pa_cons (pv 3) (pa_cons (pv 2) (pa_cons pe_int pa_nil)))))) pa_nil))))))
      pss_nil)
      (pss_cons (ps_if (pt_cmpR op_eq (pv 4) pe_int (nomark _))
      (pss_one (ps_ret (pe_tup (pa_cons pe_str (pa_cons (pe_tup (pa_cons pe_str (pa_cons (pe_tup (pa_cons pe_str (pa_cons (pe_op op_sub pe_int pe_int) pa_nil))) (pa_cons (pe_call G hr (by rfl) g Kf b .nil pass0 (pa_cons (pv 0) (pa_cons (pv 1) (pa_cons (pv 3) (pa_cons (pv 2) (pa_cons pe_int pa_nil)))))) pa_nil)))) pa_nil)))))
      pss_nil)
      (pss_cons (ps_if (pt_cmpR op_eq (pv 4) pe_int (nomark _))
      (pss_one (ps_ret (pe_tup (pa_cons pe_str (pa_cons (pe_call G hr (by rfl) g Kf b .nil pass0 (pa_cons (pv 0) (pa_cons (pv 1) (pa_cons (pv 3) (pa_cons (pv 2) (pa_cons pe_int pa_nil)))))) pa_nil)))))
      pss_nil)
      (pss_cons (ps_if (pt_cmpR op_lt (pv 4) pe_int (nomark _))
      (pss_cons (ps_set (i := 8) nd rfl (.inl rfl) (pe_call G hr (by rfl) g Kf b .nil pass0 (pa_cons (pv 0) (pa_cons (pv 1) (pa_cons (pv 3) (pa_cons (pv 2) (pa_cons pe_int pa_nil)))))))
        (pss_one (ps_ret (pe_tup (pa_cons pe_str (pa_cons (pv 5) (pa_cons (pv 8) (pa_cons (pv 6) (pa_cons (pe_call G hr (by rfl) g Kf b .nil pass0 (pa_cons (pv 0) (pa_cons (pv 1) (pa_cons (pv 3) (pa_cons (pv 2) (pa_cons pe_int pa_nil)))))) pa_nil)))))))))
      pss_nil)
      (pss_cons (ps_if (pt_cmpR op_lt (pv 4) pe_int (nomark _))
      (pss_one (ps_ret (pe_tup (pa_cons pe_str (pa_cons (pv 5) (pa_cons (pe_call G_leaf hr (by rfl) g_leaf K_leaf b_leaf .nil pass0 (pa_cons (pv 0) (pa_cons (pv 1) (pa_cons (pv 2) (pa_cons pe_bl pa_nil))))) (pa_cons pe_str (pa_cons (pe_tup (pa_cons pe_str (pa_cons (pe_call G_law_draw hr (by rfl) g_law_draw K_law_draw b_law_draw .nil pass0 (pa_cons (pv 0) (pa_cons pe_int pa_nil))) pa_nil))) pa_nil))))))))
      pss_nil)
      (pss_cons (ps_set (i := 9) nd rfl (.inl rfl) (pe_call G hr (by rfl) g Kf b .nil pass0 (pa_cons (pv 0) (pa_cons (pv 1) (pa_cons (pe_op op_sub (pv 3) pe_int) (pa_cons (pv 2) (pa_cons pe_int pa_nil)))))))
      (pss_one (ps_ret (pe_tup (pa_cons pe_str (pa_cons (pv 5) (pa_cons (pv 9) (pa_cons (pv 6) (pa_cons (pe_call G hr (by rfl) g Kf b .nil pass0 (pa_cons (pv 0) (pa_cons (pv 1) (pa_cons (pv 3) (pa_cons (pv 2) (pa_cons pe_int pa_nil)))))) pa_nil)))))))))))))))))), ?_⟩
  have hdx : dx 3 = 3450 + 0 := by decide
  have hem : em 3 = 5820 := by decide
  refine ⟨.ref d, rfl, d, c, N, 12, rfl, D, by omega, by decide, by decide, fun H1 way k1 D1 w0 w1 => ?_⟩
  obtain ⟨tl, cl, nl, kl, ks, W0⟩ := W
  have W1 := W0.keep k1
  refine ⟨.ref d, rfl, .ref u, rfl, u, .ref tl, rfl, ?_, .inl ⟨d, c, tl, _, _, rfl, D1, by omega, .inl (.inl W1.ht), ?_, ?_, W1.t0.1, W1.t0.2, fun H2 vt k2 D2 hvt => ?_⟩⟩
  · rw [← wD_t tl cl nl kl]
    exact DGet.k (k := .inr "tables") W1.dct
  · intro e
    have := congrArg List.length e
    rw [List.length_map, W0.lt] at this
    cases this
  · rw [List.length_map, W0.lt]
    decide
  obtain ⟨t, ht, rfl⟩ := List.mem_map.mp hvt
  have ft := Fine.str (W0.at' t ht)
  have nt := W0.at' t ht
  have k02 := k1.trans k2
  have W2 := W0.keep k02
  refine ⟨.ref d, rfl, .ref u, rfl, u, .ref cl, rfl, ?_, .inl ⟨d, c, cl, _, _, rfl, D2, by omega, .inl (.inl W2.hc), ?_, ?_, W2.c0.1, W2.c0.2, fun H3 vc k3 D3 hvc => ?_⟩⟩
  · rw [← wD_c tl cl nl kl]
    exact DGet.k (k := .inr "columns") W2.dct
  · intro e
    have := congrArg List.length e
    rw [List.length_map, W0.lc] at this
    cases this
  · rw [List.length_map, W0.lc]
    decide
  obtain ⟨z, hz, rfl⟩ := List.mem_map.mp hvc
  have fz := Fine.str (W0.ac z hz)
  have nz := W0.ac z hz
  have k03 := k02.trans k3
  have W3 := W0.keep k03
  have S3 := S.keep k03
  -- what is left
  refine ⟨fun σ' H' => ∃ (B : Addr) (y : Option V) (zs : List Str), σ' = [some (.ref d), some (.ref u), some (.ref sc), some (.int deep), some (.int way), some (.str t), some (.str z), some (.ref B), none, none, y] ∧ Same H3 H' ∧ H' B = some (.lst (zs.map V.str)) ∧ (B ≠ d ∧ B ≠ c) ∧ ∀ y, y ∈ zs → Nm y ∧ y ∉ scope, ?_, ?_⟩
  · refine ⟨.ref u, rfl, u, .ref nl, rfl, ?_, nl, rfl, ⟨_, .inl (.inl W3.hn)⟩, fun B nB => ?_⟩
    · rw [← wD_n tl cl nl kl]
      exact DGet.k (k := .inr "names") W3.dct
    have hBd := D3.new nB
    have hBn : nl ≠ B := ne_of_none W3.hn nB
    have hBs : sc ≠ B := ne_of_none S3.at' nB
    refine lc_list (xs := ns.map V.str) (fun i H' => ∃ zs : List Str, H' B = some (.lst (zs.map V.str)) ∧ zs.length ≤ i ∧ (∀ y, y ∈ zs → Nm y ∧ y ∉ scope) ∧ ∀ b ob, b ≠ B → H3 b = some ob → H' b = some ob) ?_ ?_ ?_ ?_
    · exact ⟨[], upd_same, Nat.le_refl _, fun v hv => (nomatch hv), fun b ob nb e => by rw [upd_ne nb]; exact e⟩
    · rintro i H' _ ⟨_, _, _, _, kk⟩
      exact .inl (.inl (kk _ _ hBn W3.hn))
    · rintro i x H4 hx ⟨zs, hB, hl4, hg, kk⟩
      rw [List.getElem?_map] at hx
      obtain ⟨y, hy, rfl⟩ := Option.map_eq_some_iff.mp hx
      have hi : i < ns.length := (List.getElem?_eq_some_iff.mp hy).1
      have hln := W0.ln
      refine ⟨rfl, .str y, rfl, .ref sc, rfl, sc, _, rfl, .inl (.inl (.inl (kk _ _ hBs S3.at'))), rfl, flat_map_str _, _, rfl, ?_⟩
      refine ite2 (fun e => ?_) (fun e => ?_)
      · refine ⟨.str y, rfl, _, hB, small1000 (by rw [List.length_map]; omega), zs ++ [y], by rw [List.map_append]; exact upd_same, by rw [List.length_append]; exact Nat.succ_le_succ hl4, fun v hv => ?_, fun b ob nb e => by rw [upd_ne nb]; exact kk b ob nb e⟩
        rcases List.mem_append.mp hv with h | h
        · exact hg v h
        · rw [List.mem_singleton.mp h]
          refine ⟨W0.an y (List.mem_of_getElem? hy), fun hm => ?_⟩
          have e2 : (!inV (.str y) (scope.map V.str)) = true := e
          rw [in_strs, decide_eq_true hm] at e2
          cases e2
      · exact ⟨zs, hB, by omega, hg, kk⟩
    · rintro H4 ⟨zs, hB, hl4, hg, kk⟩
      exact ⟨B, _, zs, rfl, fun b ob e => kk b ob (ne_of_none e nB) e, hB, hBd, hg⟩
  rintro σ' H4 ⟨B, yy, zs, rfl, s34, hB, hBd, hg⟩
  have k04 := k03.trans (Keep.of s34)
  have D4 := D3.same s34
  have W : AtW H d c u ts cs ns := ⟨tl, cl, nl, kl, ks, W0⟩
  clear W1 W2 W3 S3 D1 D2 D3 s34 k1 k2 k3 k02 k03
  have D5' := D4.mono (show N + 1 + 1 + 1 ≤ N + 3 by omega)
  clear D4
  -- a let
  refine ⟨fun σ' H' => σ' = [some (.ref d), some (.ref u), some (.ref sc), some (.int deep), some (.int way), some (.str t), some (.str z), some (.ref B), none, none, yy] ∧ Same H4 H', ?_, ?_⟩
  · refine ⟨.int way, rfl, _, _, rfl, rfl, _, rfl, ite2 (fun e1 => ⟨.ref B, rfl, Nat.zero_le _, fun l nl' => ⟨B, l, _, rfl, rfl, .inl (.inl (same_upd nl' _ _ hB)), .inl (.inl upd_same), _, rfl, ?_⟩⟩) (fun e1 => ⟨rfl, fun _ _ e => e⟩)⟩
    have sl := same_upd (o := .lst []) nl'
    refine ite2 (fun e2 => ?_) (fun e2 => ⟨rfl, sl⟩)
    obtain ⟨y, ys, rfl⟩ : ∃ y ys, zs = y :: ys := by
      cases zs with
      | nil => exact absurd e2 (by decide)
      | cons y ys => exact ⟨y, ys, rfl⟩
    have hgy := hg y List.mem_cons_self
    have fy := Fine.str hgy.1
    have k05 := k04.trans (Keep.of sl)
    refine ⟨.ref B, rfl, B, _, 0, .str y, rfl, rfl, .inl (.inl (sl _ _ hB)), at0, .ref d, rfl, .ref u, rfl, .int deep, rfl, .ref sc, rfl, d, c, u, sc, _, deep, 0, ts, cs, ns, scope, rfl, D5'.same sl, by omega, W.keep k05, S.keep k05, by omega, by decide, by decide, fun H5 v1 x1 k5 D5 f1 c1 p1 => ⟨h1000 (show 3 ≤ 1000 by decide), fun p np => ?_⟩⟩
    rw [hem] at f1
    have s6 := same_upd (o := .tup [.str "let", .str y, v1]) np
    have F := (Fines.cons (Fine.word (w := "let") (by decide)).k0 (.cons fy.k0 (.cons f1 .nil))).tup
    exact q _ _ _ ((k05.trans k5).trans (Keep.of s6)) ((D5.same s6).mono (by omega)) ⟨p, "let", .str y, [v1], rfl, upd_same, .inl ⟨rfl, isLet_t rfl, rfl, y, v1, rfl, hgy.1, rfl⟩, new_tup (.cons (.str _) (.cons (.str _) (.cons p1 .nil))) (by simp only [flatDs, flatD, f1.flat, Bool.and_self]) np, F.mono (by omega) (by omega)⟩ (.let_ y x1 hgy.1 hgy.2 c1) (fun z' e' => by
      have e'' : some y = some z' := e'
      cases e''
      exact ⟨p, v1, rfl, upd_same⟩)
  rintro σ' H6 ⟨rfl, s56⟩
  have k06 := k04.trans (Keep.of s56)
  have D6 := D5'.same s56
  have W6 := W.keep k06
  have S6 := S.keep k06
  clear hB D5' k04
  -- a need
  refine ⟨.int way, rfl, rfl, _, rfl, ite2 (fun e1 => ?_) (fun e1 => ?_)⟩
  · refine ⟨_, _, rfl, rfl, h1000 (show 2 ≤ 1000 by decide), fun a1 m1 => ?_⟩
    have t1 := same_upd (o := .tup [.str "int", .int (0 - 3)]) m1
    have b1 := new_tup (K := K) (.cons (.str "int") (.cons (.int (0 - 3)) .nil)) rfl m1
    have D7 := D6.same t1
    have k07 := k06.trans (Keep.of t1)
    refine ⟨.ref d, rfl, .ref u, rfl, .int deep, rfl, .ref sc, rfl, d, c, u, sc, _, deep, 0, ts, cs, ns, scope, rfl, D7, by omega, W.keep k07, S.keep k07, by omega, by decide, by decide, fun H5 v1 x1 k5 D5 f1 c1 p1 => ⟨h1000 (show 3 ≤ 1000 by decide), fun a2 m2 => ⟨h1000 (show 2 ≤ 1000 by decide), fun a3 m3 => ?_⟩⟩⟩
    rw [hem] at f1
    have t2 := same_upd (o := .tup [.str "<", .ref a1, v1]) m2
    have t3 := same_upd (o := .tup [.str "need", .ref a2]) m3
    have b2 := new_tup (K := K) (.cons (.str "<") (.cons (dp_keep (k5.t D7) _ _ rfl b1) (.cons p1 .nil))) (by simp only [flatDs, flatD, f1.flat, Bool.and_self]) m2
    have b3 := new_tup (K := K) (.cons (.str "need") (.cons b2 .nil)) (by simp only [flatDs, flatD, f1.flat, Bool.and_self]) m3
    have fi : Fine 1 36 (.tuple [.str "int", .int (0 - 3)]) := (tup2 (by decide) (Fine.int (by decide) (by decide)))
    have F3 := tup2 (w := "need") (by decide) (((Fines.cons (Fine.word (w := "<") (by decide)).k0 (.cons (fi.mono (show 1 ≤ 6 by decide) (Nat.le_refl _)) (.cons f1 .nil))).tup))
    exact q _ _ _ ((k07.trans k5).trans (Keep.of (t2.trans t3))) ((D5.same (t2.trans t3)).mono (by omega)) ⟨a3, "need", .ref a2, [], rfl, upd_same, .inr (.inl ⟨.inl rfl, isLet_f (by decide), colD_2 _, rfl⟩), b3, F3.mono (by decide) (by decide)⟩ (.need x1 c1) (.no (letNm_no (by decide)))
  -- a tell
  refine ⟨.int way, rfl, rfl, _, rfl, ite2 (fun e2 => ?_) (fun e2 => ?_)⟩
  · refine ⟨.ref d, rfl, .ref u, rfl, .int deep, rfl, .ref sc, rfl, d, c, u, sc, _, deep, 0, ts, cs, ns, scope, rfl, D6, by omega, W6, S6, by omega, by decide, by decide, fun H5 v1 x1 k5 D5 f1 c1 p1 => ⟨h1000 (show 2 ≤ 1000 by decide), fun a4 m4 => ?_⟩⟩
    rw [hem] at f1
    have t4 := same_upd (o := .tup [.str "tell", v1]) m4
    have b4 := new_tup (K := K) (.cons (.str "tell") (.cons p1 .nil)) (by simp only [flatDs, flatD, f1.flat, Bool.and_self]) m4
    exact q _ _ _ ((k06.trans k5).trans (Keep.of t4)) ((D5.same t4).mono (by omega)) ⟨a4, "tell", v1, [], rfl, upd_same, .inr (.inl ⟨.inr rfl, isLet_f (by decide), colD_2 _, rfl⟩), b4, (tup2 (w := "tell") (by decide) f1).mono (by decide) (by decide)⟩ (.tell x1 c1) (.no (letNm_no (by decide)))
  -- an each
  refine ⟨.int way, rfl, _, _, rfl, rfl, _, rfl, ite2 (fun e2 => ?_) (fun e2 => ?_)⟩
  · refine ⟨.ref d, rfl, .ref u, rfl, .int deep, rfl, .ref sc, rfl, d, c, u, sc, _, deep, 2, ts, cs, ns, scope, rfl, D6, by omega, W6, S6, by omega, by decide, by decide, fun H7 v2 x2 k7 D7 f2 c2 p2 => ?_⟩
    have k07 := k06.trans k7
    rw [hem] at f2
    refine ⟨.str t, rfl, v2, rfl, .str z, rfl, .ref d, rfl, .ref u, rfl, .int deep, rfl, .ref sc, rfl, d, c, u, sc, _, deep, 2, ts, cs, ns, scope, rfl, D7, by omega, W.keep k07, S.keep k07, by omega, by decide, by decide, fun H8 v3 x3 k8 D8 f3 c3 p3 => ⟨h1000 (show 5 ≤ 1000 by decide), fun p np => ?_⟩⟩
    rw [hem] at f3
    have s9 := same_upd (o := .tup [.str "each", .str t, v2, .str z, v3]) np
    have F := (Fines.cons (Fine.word (w := "each") (by decide)).k0 (.cons ft.k0 (.cons f2 (.cons fz.k0 (.cons f3 .nil))))).tup
    exact q _ _ _ ((k07.trans k8).trans (Keep.of s9)) ((D8.same s9).mono (by omega)) ⟨p, "each", .str t, [v2, .str z, v3], rfl, upd_same, .inr (.inr ⟨.inr rfl, isLet_f (by decide), t, v2, z, v3, rfl, rfl, colD_p (.inr rfl), nt, nz⟩), new_tup (.cons (.str _) (.cons (.str _) (.cons (dp_keep (k8.t D7) _ _ f2.flat p2) (.cons (.str _) (.cons p3 .nil))))) (by simp only [flatDs, flatD, f2.flat, f3.flat, Bool.and_self]) np, F.mono (by omega) (by omega)⟩ (.each t z x2 x3 ht hz c2 c3) (.no (letNm_no (by decide)))
  -- a put to in
  refine ⟨.int way, rfl, _, _, rfl, rfl, _, rfl, ite2 (fun e3 => ?_) (fun e3 => ?_)⟩
  · refine ⟨.str t, rfl, .ref d, rfl, .ref u, rfl, .ref sc, rfl, d, c, u, sc, _, false, ts, cs, ns, scope, rfl, D6, by omega, W6, S6, fun H7 v2 x2 k7 D7 f2 c2 p2 => ?_⟩
    have k07 := k06.trans k7
    refine ⟨.ref d, rfl, d, c, _, 4, rfl, D7, by omega, by decide, by decide, fun H8 r k8 D8 r0 r1 => ⟨h1000 (show 2 ≤ 1000 by decide), fun p1 np1 => ⟨h1000 (show 5 ≤ 1000 by decide), fun p np => ?_⟩⟩⟩
    have s9 := same_upd (o := .tup [.str "int", .int r]) np1
    have s10 := same_upd (o := .tup [.str "put", .str t, v2, .str "in", .ref p1]) np
    have bi := new_tup (K := K) (.cons (.str "int") (.cons (.int r) .nil)) rfl np1
    have fi : Fine 1 36 (.tuple [.str "int", .int r]) := tup2 (by decide) (Fine.int (by omega) (by omega))
    have F := (Fines.cons (Fine.word (w := "put") (by decide)).k0 (.cons ft.k0 (.cons f2 (.cons (Fine.word (w := "in") (by decide)).k0 (.cons (fi.mono (show 1 ≤ 3 by decide) (Nat.le_refl _)) .nil))))).tup
    exact q _ _ _ ((k07.trans k8).trans (Keep.of (s9.trans s10))) ((D8.same (s9.trans s10)).mono (by omega)) ⟨p, "put", .str t, [v2, .str "in", .ref p1], rfl, upd_same, .inr (.inr ⟨.inl rfl, isLet_f (by decide), t, v2, "in", .ref p1, rfl, rfl, colD_p (.inl rfl), nt, in_nm⟩), new_tup (.cons (.str _) (.cons (.str _) (.cons (dp_keep ((k8.t D7).trans (KeepT.of s9)) _ _ f2.flat p2) (.cons (.str _) (.cons bi .nil))))) (by simp only [flatDs, flatD, f2.flat, Bool.and_self]) np, F.mono (by omega) (by omega)⟩ (.put t "in" x2 _ ht (.inr rfl) ((c2 _).mono (by omega)) (.int _ _ _ (by omega) (by omega))) (.no (letNm_no (by decide)))
  -- a put
  refine ⟨.ref d, rfl, .ref u, rfl, .int deep, rfl, deep, 1, rfl, rfl, .ref sc, rfl, d, c, u, sc, _, _, 0, ts, cs, ns, scope, rfl, D6, by omega, W6, S6, by omega, by decide, by decide, fun H7 v2 x2 k7 D7 f2 c2 p2 => ?_⟩
  rw [hem] at f2
  have k07 := k06.trans k7
  refine ⟨.str t, rfl, v2, rfl, .str z, rfl, .ref d, rfl, .ref u, rfl, .int deep, rfl, .ref sc, rfl, d, c, u, sc, _, deep, 0, ts, cs, ns, scope, rfl, D7, by omega, W.keep k07, S.keep k07, by omega, by decide, by decide, fun H8 v3 x3 k8 D8 f3 c3 p3 => ⟨h1000 (show 5 ≤ 1000 by decide), fun p np => ?_⟩⟩
  rw [hem] at f3
  have s9 := same_upd (o := .tup [.str "put", .str t, v2, .str z, v3]) np
  have F := (Fines.cons (Fine.word (w := "put") (by decide)).k0 (.cons ft.k0 (.cons f2 (.cons fz.k0 (.cons f3 .nil))))).tup
  exact q _ _ _ ((k07.trans k8).trans (Keep.of s9)) ((D8.same s9).mono (by omega)) ⟨p, "put", .str t, [v2, .str z, v3], rfl, upd_same, .inr (.inr ⟨.inl rfl, isLet_f (by decide), t, v2, z, v3, rfl, rfl, colD_p (.inl rfl), nt, nz⟩), new_tup (.cons (.str _) (.cons (.str _) (.cons (dp_keep (k8.t D7) _ _ f2.flat p2) (.cons (.str _) (.cons p3 .nil))))) (by simp only [flatDs, flatD, f2.flat, f3.flat, Bool.and_self]) np, F.mono (by omega) (by omega)⟩ (.put t z x2 x3 ht (.inl hz) c2 c3) (.no (letNm_no (by decide)))
end
end L9

namespace L9
open PySem PySem.Spec PyProof.Rows L2 GR
abbrev SVs (K : PySem.W.Frag) (H : Hp) : List V → List PyData → Prop := Paired (SV K H)
theorem svs_keep {K : PySem.W.Frag} {H H' : Hp} (k : KeepT H H') : ∀ {vs : List V} {ds : List PyData}, SVs K H vs ds → SVs K H' vs ds
  | _, _, .nil => .nil
  | _, _, .cons h t => .cons (h.keep k) (svs_keep k t)
theorem svs_append {K : PySem.W.Frag} {H : Hp} : ∀ {vs us : List V} {ds es : List PyData}, SVs K H vs ds → SVs K H us es → SVs K H (vs ++ us) (ds ++ es)
  | _, _, _, _, .nil, h => h
  | _, _, _, _, .cons h t, g => .cons h (svs_append t g)
theorem svs_len {K : PySem.W.Frag} {H : Hp} {vs : List V} {ds : List PyData} (h : SVs K H vs ds) : vs.length = ds.length := Paired.length h
/-- the variables that these statements let -/
def letsD (ds : List PyData) : List Str := ds.filterMap letNm
theorem letsD_append (a b : List PyData) : letsD (a ++ b) = letsD a ++ letsD b := List.filterMap_append ..
/-- each statement sees the lets ahead of it -/
inductive Chain (ts cs : List Str) : List PyData → Prop
  | nil : Chain ts cs []
  | snoc (ds : List PyData) (x : PyData) : Chain ts cs ds → StX ts cs (letsD ds) x → Chain ts cs (ds ++ [x])
theorem StX.let' {ts cs sc : List Str} {x : PyData} (h : StX ts cs sc x) (e : isLet x = true) : ∃ z, letNm x = some z := by
  cases h with
  | let_ z x => exact ⟨z, rfl⟩
  | _ => exact absurd e (by simp only [isLet]; decide)
theorem isLet_no {x : PyData} (h : isLet x = false) : letNm x = none := by
  unfold isLet at h
  split at h
  · exact letNm_no (of_decide_eq_false h)
  · rename_i hx
    unfold letNm
    split
    · exact absurd rfl (hx _ _)
    · rfl
section
variable {P : Program} {w : World} {K : PySem.W.Frag} {mg : Str → Option Value} {base : Heap}
abbrev s_law_transaction : Stmt := topS 50
abbrev N_tr : List Str := ["_law_deck_here", "_law_world_here", "_law_most", "_law_deep", "_law_scope", "_law_found", "_law_k"]
abbrev ps_tr : List Str := ["_law_deck_here", "_law_world_here", "_law_most", "_law_deep"]
theorem sc_law_transaction : FnScope N_tr ps_tr (defScope s_law_transaction) := ⟨rfl, rfl, rfl, by decide +kernel, rfl, by decide +kernel, by decide +kernel⟩
def sp_tran (K : PySem.W.Frag) : Sp := fun vs H Q _ => ∃ (d c u : Addr) (N deep : Int) (many : Nat) (ts cs ns : List Str), vs = [.ref d, .ref u, .int (many : Int), .int deep] ∧ deep ≤ 3 ∧ many ≤ 7 ∧ Deck H d c N ∧ N < 2 ^ 52 ∧ AtW H d c u ts cs ns ∧
  ∀ H' p us ds, Keep d c H H' → Deck H' d c (N + 200000) → H' p = some (.tup us) → SVs K H' us ds → us.length ≤ 7 → Chain ts cs ds → Q (.ref p) H'
theorem ok_tran {f f_law_draw f_st : Addr} {fd fd_law_draw d_st : FuncData} {k : Nat} (F : Fun K "_law_transaction" "_law_transaction" s_law_transaction f fd) (G_law_draw : FnOk P w K mg base CX0 k f_law_draw fd_law_draw ["_law_deck_here", "_law_most"] sp_draw)
    (g_law_draw : mg "_law_draw" = some (.ref f_law_draw)) (K_law_draw : PySem.W.keepIn K (.ref f_law_draw) = true) (b_law_draw : Binds K fd_law_draw ["_law_deck_here", "_law_most"] [])
    (G : FnOk P w K mg base CX0 k f_st d_st ps_st (sp_stmt K)) (g : mg "_law_statement" = some (.ref f_st)) (Kf : PySem.W.keepIn K (.ref f_st) = true) (b : Binds K d_st ps_st []) (mrange : mg "range" = none) (mtuple : mg "tuple" = none) : FnOk P w K mg base CX0 (k + 1) f fd ps_tr (sp_tran K) := by
  have nd := sc_law_transaction.nd
  refine F.ok sc_law_transaction (fun vs H Q E h => ?_) (fun cdv A outer s H vs Q E hr h => ?_)
  · obtain ⟨d, c, u, N, deep, many, ts, cs, ns, rfl, _⟩ := h
    rfl
  obtain ⟨d, c, u, N, deep, many, ts, cs, ns, rfl, hdeep, hmany, D, hN, W, q⟩ := h
  refine ⟨_, (pss_cons (ps_set (i := 4) nd rfl (.inl rfl) (pe_lst pa_nil))
      (pss_cons (ps_set (i := 5) nd rfl (.inl rfl) (pe_lst pa_nil))
      (pss_cons (ps_for PassesOwn.never rfl (pi_range1 rfl mrange (pa_cons (pe_call G_law_draw hr (by rfl) g_law_draw K_law_draw b_law_draw .nil pass0 (pa_cons (pv 0) (pa_cons (pe_op op_add (pv 2) pe_int) pa_nil))) pa_nil)) (pg_name (i := 6) nd rfl (Or.inl rfl))
      (pss_cons (ps_expr (pe_bm PySem.F.plainAttrs_list PySem.F.slot_list_append PySem.F.type_list_append mt_append (pv 5) (pa_cons (pe_call G hr (by rfl) g Kf b .nil pass0 (pa_cons (pv 0) (pa_cons (pv 1) (pa_cons (pv 4) (pa_cons (pv 3) pa_nil))))) pa_nil)))
        (pss_one (ps_if (pt_cmpR op_eq (pe_ix ix_tup (pe_ix ix_list (pv 5) (pe_un un_neg pe_int) (fun _ _ => rfl)) pe_int (fun _ _ => rfl)) pe_str (nomark _))
        (pss_one (ps_expr (pe_bm PySem.F.plainAttrs_list PySem.F.slot_list_append PySem.F.type_list_append mt_append (pv 4) (pa_cons (pe_ix ix_tup (pe_ix ix_list (pv 5) (pe_un un_neg pe_int) (fun _ _ => rfl)) pe_int (fun _ _ => rfl)) pa_nil))))
        pss_nil))))
      (pss_one (ps_ret (pe_callTy call_tuple_of (by rfl) mtuple boot_tuple (pa_cons (pv 5) pa_nil))))))), ?_⟩
  refine ⟨Nat.zero_le _, fun sc nsc => ⟨Nat.zero_le _, fun fo nfo => ?_⟩⟩
  have s1 := same_upd (o := .lst []) nsc
  have s2 := same_upd (o := .lst []) nfo
  have hsc := D.new nsc
  have hfo := (D.same s1).new nfo
  have h1 := s2 _ _ (show upd H sc (.lst []) sc = _ from upd_same)
  have h2 : upd (upd H sc (.lst [])) fo (.lst []) fo = some (.lst []) := upd_same
  have nfoH : H fo = none := s1.free nfo
  have nscH := nsc
  have hsf : sc ≠ fo := ne_of_none (show upd H sc (.lst []) sc = some (.lst []) from upd_same) nfo
  have s12 := s1.trans s2
  revert h1 h2 s12
  clear s1 s2
  generalize upd (upd H sc (.lst [])) fo (.lst []) = H1
  intro h1 h2 s12
  have D1 := D.same s12
  refine ⟨.ref d, rfl, .int (many : Int), rfl, (many : Int), 1, rfl, rfl, d, c, N, (many : Int) + 1, rfl, D1, by omega, by omega, by omega, fun H2 r k2 D2 r0 r1 => ?_⟩
  obtain ⟨m, rfl⟩ := Int.eq_ofNat_of_zero_le r0
  refine ⟨(m : Int), rfl, by omega, by omega, ?_⟩
  rw [show ((m : Int)).toNat = m by omega]
  have nscH : H sc = none := nscH
  refine for_range (n := m) (fun i σ H' => ∃ (y6 : Option V) (us : List V) (ds : List PyData), σ = [some (.ref d), some (.ref u), some (.int (many : Int)), some (.int deep), some (.ref sc), some (.ref fo), y6] ∧ Keep d c H H' ∧ Deck H' d c (N + 1 + 20000 * (i : Int)) ∧ H' fo = some (.lst us) ∧ SVs K H' us ds ∧ us.length = i ∧ Scp H' d c sc (letsD ds) ∧ (letsD ds).length ≤ i ∧ Chain ts cs ds) ?_ ?_ ?_
  · exact ⟨none, [], [], rfl, (Keep.of s12).trans k2, D2.mono (by omega), k2 _ _ hfo.1 hfo.2 h2, .nil, rfl, ⟨k2 _ _ hsc.1 hsc.2 h1, hsc, fun z hz => (nomatch hz), Nat.zero_le _⟩, Nat.zero_le _, .nil⟩
  · rintro i σ H3 hi ⟨y6, us, ds, rfl, k3, D3, hf, hs, hl, S, hsl, hch⟩
    refine ⟨.ref fo, rfl, .inl ⟨rfl, us, .inl (.inl hf)⟩, .ref d, rfl, .ref u, rfl, .ref sc, rfl, .int deep, rfl, d, c, u, sc, _, deep, ts, cs, ns, letsD ds, rfl, hdeep, D3, by omega, W.keep k3, S, fun H4 v x k4 D4 sv sx lh => ?_⟩
    have hf4 := k4 _ _ hfo.1 hfo.2 hf
    have S4 := S.keep k4
    have hs4 := svs_keep (k4.t D3) hs
    refine ⟨fo, us, v, rfl, rfl, hf4, small1000 (by omega), ?_⟩
    have kf : KeepT H4 (upd H4 fo (.lst (us ++ [v]))) := KeepT.lst hf4
    have hf5 : upd H4 fo (.lst (us ++ [v])) fo = some (.lst (us ++ [v])) := upd_same
    have hs5 := svs_append (svs_keep kf hs4) (.cons (sv.keep kf) .nil)
    have sv5 := sv.keep kf
    have lh5 := lh.keep kf
    have D5 := D4.upd (o := .lst (us ++ [v])) hfo.1 hfo.2
    have k5 : Keep d c H (upd H4 fo (.lst (us ++ [v]))) := fun b o n1 n2 e => by
      rw [upd_ne (ne_of_none e nfoH)]
      exact k4 _ _ n1 n2 (k3 _ _ n1 n2 e)
    have hsc5 : upd H4 fo (.lst (us ++ [v])) sc = some (.lst ((letsD ds).map V.str)) := by
      rw [upd_ne hsf]
      exact S4.at'
    revert hf5 hs5 sv5 lh5 D5 k5 hsc5
    generalize upd H4 fo (.lst (us ++ [v])) = H5
    intro hf5 hs5 sv5 lh5 D5 k5 hsc5
    obtain ⟨p, w', v1, vs, rfl, hp, hsf', hdp, hfin⟩ := id sv5
    have hlet := hsf'.let'
    have hch' : Chain ts cs (ds ++ [x]) := .snoc ds x hch sx
    refine ⟨.ref fo, rfl, 1, rfl, fo, _, -1, .ref p, rfl, rfl, .inl (.inl hf5), atI_last _ _, p, _, 0, .str w', rfl, rfl, .inl (.inl hp), at0, rfl, _, rfl, ite2 (fun e => ?_) (fun e => ?_)⟩
    · have ew : w' = "let" := V.str.inj (of_decide_eq_true e)
      obtain ⟨z, rfl, hz⟩ := hlet ew
      have hil : isLet x = true := by
        rcases hsf' with ⟨_, h, _⟩ | ⟨h, _⟩ | ⟨h, _⟩
        · exact h
        · rcases h with h | h <;> exact absurd (ew.symm.trans h) (by decide)
        · rcases h with h | h <;> exact absurd (ew.symm.trans h) (by decide)
      obtain ⟨z', hz'⟩ := sx.let' hil
      obtain ⟨p', e', q1, q2⟩ := lh5 z' hz'
      cases q1
      rw [hp] at q2
      have q3 : V.str z = V.str z' := (List.cons.inj (List.cons.inj (HO.tup.inj (Option.some.inj q2))).2).1
      have hml : letsD (ds ++ [x]) = letsD ds ++ [z] := by
        rw [letsD_append]
        show _ ++ [x].filterMap letNm = _
        rw [List.filterMap_cons, hz', V.str.inj q3]
        rfl
      refine ⟨.ref sc, rfl, .inl ⟨rfl, _, .inl (.inl hsc5)⟩, .ref fo, rfl, 1, rfl, fo, _, -1, .ref p, rfl, rfl, .inl (.inl hf5), atI_last _ _, p, _, 1, .str z, rfl, rfl, .inl (.inl hp), at1, sc, _, _, rfl, rfl, hsc5, ?_, ?_⟩
      · rw [List.length_map]
        exact small1000 (by omega)
      have k6 : KeepT H5 (upd H5 sc (.lst ((letsD ds).map V.str ++ [.str z]))) := KeepT.lst hsc5
      refine ⟨_, us ++ [.ref p], ds ++ [x], rfl, fun b o n1 n2 e => ?_, (D5.upd hsc.1 hsc.2).mono (by omega), ?_, svs_keep k6 hs5, by rw [List.length_append, hl]; rfl, ?_, ?_, hch'⟩
      · rw [upd_ne (ne_of_none e nscH)]
        exact k5 b o n1 n2 e
      · rw [upd_ne hsf.symm]
        exact hf5
      · rw [hml]
        refine ⟨by rw [List.map_append]; exact upd_same, hsc, fun y hy => ?_, by rw [List.length_append]; show _ + 1 ≤ 10; omega⟩
        rcases List.mem_append.mp hy with h | h
        · exact S.nm y h
        · rw [List.mem_singleton.mp h]
          exact hz
      · rw [hml, List.length_append]
        show _ + 1 ≤ _
        omega
    · have hil : isLet x = false := by
        rcases hsf' with ⟨h, _⟩ | ⟨_, h, _⟩ | ⟨_, h, _⟩
        · exact absurd (decide_eq_true (congrArg V.str h)) e
        · exact h
        · exact h
      have hml : letsD (ds ++ [x]) = letsD ds := by
        rw [letsD_append]
        show _ ++ [x].filterMap letNm = _
        rw [List.filterMap_cons, isLet_no hil]
        exact List.append_nil _
      exact ⟨_, us ++ [.ref p], ds ++ [x], rfl, k5, D5.mono (by omega), hf5, hs5, by rw [List.length_append, hl]; rfl, by rw [hml]; exact ⟨hsc5, hsc, S.nm, S.len⟩, by rw [hml]; omega, hch'⟩
  · rintro σ H3 ⟨y6, us, ds, rfl, k3, D3, hf, hs, hl, S, hsl, hch⟩
    refine ⟨.ref fo, rfl, fo, us, rfl, .inl ⟨.inl (.inl hf), fun p np => ?_⟩⟩
    have s4 := same_upd (o := .tup us) np
    exact q _ p us ds (k3.trans (Keep.of s4)) ((D3.same s4).mono (by omega)) upd_same (svs_keep (KeepT.of s4) hs) (by omega) hch
end
end L9

namespace WX
open PySem PySem.Spec PySem.AutoSeq1
theorem ext_tup (l : Addr) (items : Array Value) (n : Nat) (b : Addr) (items2 : Array Value) (n2 : Nat) (dd : Option Addr) (sl : Array (Option Value)) (hs0 : ¬(!items.isEmpty && Builtin.List.listTooLong (items.size + items2.size)) = true) (hs1 : items.size ≤ sizeLine) (hs2 : items.size + items2.size ≤ sizeLine + 1) :
    Meets (Builtin.«list.extend» ⟨[.ref l, .ref b], []⟩) (fun _ R s => s.heap.get? l = some { cls := .type "list", dict := none, data := .seq items n, slots := #[] } ∧ s.heap.get? b = some { cls := .type "tuple", dict := dd, data := .seq items2 n2, slots := sl } ∧ R (.ok (.ret Value.none)) { s with heap := s.heap.update l (Obj.mapSeq fun x => x ++ items2), toks := s.toks }) := by
  refine .of_wp fun prog w A R s h => ?_
  obtain ⟨hp, g, d, tk, os⟩ := s
  obtain ⟨hl, hb, h⟩ := h
  have f1 := idx_int
  have f2 := sub_tuple_tuple
  have f3 := sub_list_list
  have f4 := sub_tuple_list
  have f5 := sub_list_tuple
  have hz' : (items ++ items2).size ≤ sizeLine + 1 := by
    rw [Array.size_append]
    exact hs2
  wp_walk using (wpAny_updateSeq hl rfl (hz := hs1) (_hz' := hz')), wpAny_loadPart' hl, wpAny_loadPart' hb
  exact ⟨_, rfl, h⟩
end WX

/-! Words that the hand layer lacks: a list extended by a tuple. -/
namespace WX
open PySem PySem.Spec PyProof.Rows L2
def rExtendT (K : PySem.W.Frag) : V → List V → Hp → VK → Prop := fun x vs H Q => ∃ (l b : Addr) (xs zs : List V), x = .ref l ∧ vs = [.ref b] ∧ H l = some (.lst xs) ∧ SqT K H b zs ∧ xs.length + zs.length ≤ sizeLine ∧ Q .non (upd H l (.lst (xs ++ zs)))
section
variable {X : Cx}
theorem mt_extendT : MtM X "list.extend" (rExtendT X.K) := by
  intro pins s σ H x vs v us Q I rx rv h
  obtain ⟨l, b, xs, zs, rfl, rfl, hH, hB, hz, q⟩ := h
  cases rx
  obtain ⟨u, rfl, ru⟩ := rv.one
  cases ru
  obtain ⟨z, its, n, r, hl, e⟩ := I.lstM hH
  obtain ⟨its2, r2, ⟨⟨c2, d2, dat2, sl2⟩, g2, hc2, n2, hd2⟩, z2⟩ := I.tuple hB
  have hc2 : c2 = .type "tuple" := hc2
  have hd2 : dat2 = .seq its2.toArray n2 := hd2
  subst hc2
  subst hd2
  have hl2 := r2.length
  have small : its.toArray.size + its2.toArray.size ≤ sizeLine := by
    rw [List.size_toArray, List.size_toArray]
    omega
  have short : ¬ (!its.toArray.isEmpty && Builtin.List.listTooLong (its.toArray.size + its2.toArray.size)) = true := by
    rw [notLongL small, Bool.and_false]
    exact Bool.false_ne_true
  refine call_meets F.slot_list_extend ⟨_, e, rfl⟩ F.entry_list_extend (F.args_list_extend_2 _ _)
    (ext_tup l its.toArray n b its2.toArray n2 d2 sl2 short (by rw [List.size_toArray]; omega) (by omega)) ⟨e, g2, ?_⟩
  refine ⟨.non, _, I.lset (its' := its ++ its2) hH e (by simp) (r.append r2) ?_, rfl, q⟩
  rw [List.length_append]
  omega
/-- a list extended by a list or by a tuple -/
def rExtendA (K : PySem.W.Frag) : V → List V → Hp → VK → Prop := fun x vs H Q => rExtend x vs H Q ∨ rExtendT K x vs H Q
theorem mt_extendA : MtM X "list.extend" (rExtendA X.K) := by
  intro pins s σ H x vs v us Q I rx rv h
  rcases h with h | h
  · exact mt_extend pins s σ H x vs v us Q I rx rv h
  · exact mt_extendT pins s σ H x vs v us Q I rx rv h
end
end WX

/-! Words that the hand layer lacks: a call by place of a def with a star; max(list of ints, default=); frozen tuples; dict(tuple of pairs). -/
namespace SC
open PySem PySem.Spec PyProof.Rows L2
section
variable {X : Cx} {CX : CXT} {k : Nat} {f : Addr} {sp : Sp} {E : XK} {x : Str} {e : Expr} {es : List Expr} {t : TA} {p pos : Pos}
theorem pe_callR (F : FnR X.prog X.w X.K X.mg X.base CX k f sp) (hr : Room k X.A) (hg : Gl X x) (hm : X.mg x = some (.ref f)) (hk : PySem.W.keepIn X.K (.ref f) = true) (hx : Passes CX X E)
    (ha : PA X (e :: es) t) (hdb : (x == ("__debug__" : Str)) = false := by decide) (he : starEach (e :: es) X.env = (false, eval e X.env) :: starEach es X.env := by rfl) (hpl : (backTo pos (starEach es X.env)).any (·.1) = false := by rfl) :
    PE X (.Call (.Name x p) (e :: es) [] pos) (tCall sp [] E t) := by
  refine ⟨fun pins s σ H Q I h => ?_⟩
  refine wpAny_Call_Name_kw (ld_glob I hg hm ?_ hdb)
  refine PySem.W.callWith_K (h₀ := X.base) I.ok.mod.kin hk (thn (ha.run pos pins s σ H _ I h) fun us s1 ⟨vs, H1, I1, r, q⟩ => ⟨I1.kIn, ?_⟩) he hpl
  have q : sp (vs ++ []) H1 Q E := q
  rw [List.append_nil] at q
  exact wpAny_call (run_fnR F hr hx I1 r q)
theorem pe_callR0 (F : FnR X.prog X.w X.K X.mg X.base CX k f sp) (hr : Room k X.A) (hg : Gl X x) (hm : X.mg x = some (.ref f)) (hk : PySem.W.keepIn X.K (.ref f) = true) (hx : Passes CX X E)
    (hdb : (x == ("__debug__" : Str)) = false := by decide) : PE X (.Call (.Name x p) [] [] pos) (tCall sp [] E tNil) := by
  refine ⟨fun pins s σ H Q I h => ?_⟩
  refine wpAny_Call_Name_kw (ld_glob I hg hm ?_ hdb)
  exact PySem.W.callWith_K0 I.kIn hk (wpAny_call (run_fnR (us := []) F hr hx I .nil h))
end
/-! ### max of a list of ints, with a default -/
def rMaxI (K : PySem.W.Frag) : List V → List V → Hp → VK → Prop := fun vs zs H Q => ∃ (a : Addr) (ns : List Int) (d : V), vs = [.ref a] ∧ zs = [d] ∧ SqL K H a (ns.map V.int) ∧ ns ≠ [] ∧ ∀ n, n ∈ ns → (∀ m, m ∈ ns → m ≤ n) → Q (.int n) H
theorem holdAll_ints {h : Heap} : ∀ {ns : List Int} {us : List Value}, Vals (ns.map V.int) us → PySem.W.HoldAll h us ns
  | [], us, r => by
    rw [List.map_nil] at r
    cases r
    exact ⟨[], .nil⟩
  | n :: ns, us, r => by
    rw [List.map_cons] at r
    cases r with
    | cons a b =>
      obtain ⟨t, rfl⟩ := a
      obtain ⟨as, ih⟩ := holdAll_ints b
      exact ⟨_, .cons (.int n t) ih⟩
theorem maxI_ge : ∀ (xs : List Int) (x : Int), x ≤ PySem.W.maxOf x xs ∧ ∀ y, y ∈ xs → y ≤ PySem.W.maxOf x xs
  | [], x => ⟨Int.le_refl _, fun y h => nomatch h⟩
  | z :: xs, x => by
    have e : PySem.W.maxOf x (z :: xs) = PySem.W.maxOf (if x < z then z else x) xs := by
      show List.foldl _ _ xs = List.foldl _ _ xs
      congr 1
      show (if decide (x < z) = true then z else x) = _
      by_cases h : x < z
      · rw [if_pos h, if_pos (decide_eq_true h)]
      · rw [if_neg h, if_neg (by simpa using h)]
    obtain ⟨h1, h2⟩ := maxI_ge xs (if x < z then z else x)
    rw [e]
    refine ⟨Int.le_trans ?_ h1, fun y hy => ?_⟩
    · split <;> omega
    · rcases List.mem_cons.mp hy with rfl | hy
      · exact Int.le_trans (by split <;> omega) h1
      · exact h2 y hy
section
variable {X : Cx}
theorem cr_maxD (hc : X.calm = true) (hu : X.A.units + 1 + 0 < cLine) : CallRK X (.builtin "max") [Str.ofString "default"] (rMaxI X.K) := by
  intro pins s σ H vs zs us ws Q I r rz h
  obtain ⟨a, ns, d, rfl, rfl, hs, h0, q⟩ := h
  obtain rfl := Vals.ref1 r
  obtain ⟨w1, rfl, e1⟩ := vals1 rz
  obtain ⟨its, rv, hl, hz⟩ := I.list hs
  refine PySem.W.max_list_datum_default (α := Int) (I.ok.hd hc) hl.isList (holdAll_ints (by simpa using rv)) hu (fun z => absurd z h0) fun y ys i v h' tk e hi hv hk => ?_
  subst e
  obtain ⟨as, hv⟩ := hv
  obtain ⟨t, rfl, _⟩ := PyProof.Rows.reads_int_inv hv
  have hm : PySem.W.maxOf y ys ∈ y :: ys := by
    have hi' : its[i]? = some (.int (PySem.W.maxOf y ys) t) := by simpa using hi
    have hlt : i < its.length := (List.getElem?_eq_some_iff.mp hi').1
    rw [← rv.length, List.length_map] at hlt
    obtain ⟨u, g1, g2⟩ := rv.get (show ((y :: ys).map V.int)[i]? = some (V.int ((y :: ys)[i])) by rw [List.getElem?_map, List.getElem?_eq_getElem hlt]; rfl)
    rw [hi'] at g1
    cases g1
    obtain ⟨t', e'⟩ := g2
    have e2 : PySem.W.maxOf y ys = (y :: ys)[i] := by injection e'
    rw [e2]
    exact List.getElem_mem hlt
  have hg := maxI_ge ys y
  exact ⟨.int _, H, I.kept (t' := tk) hk, ⟨t, rfl⟩, q _ hm fun m hm' => by
    rcases List.mem_cons.mp hm' with rfl | hm'
    · exact hg.1
    · exact hg.2 m hm'⟩
end
/-! ### tuples whose objects are known; dict of such -/
/-- a tuple of which it is known that its object holds no dict -/
def TupF (H : Hp) (a : Addr) (xs : List V) : Prop := ∃ o : Obj, H a = some (.frz o (.tup xs)) ∧ o.dict = none
theorem TupF.sq {K : PySem.W.Frag} {H : Hp} {a : Addr} {xs : List V} (h : TupF H a xs) : SqT K H a xs := let ⟨o, e, _⟩ := h; .inl (.inr ⟨o, e⟩)
section
variable {X : Cx}
theorem call_tupleF : CallR X (.type "tuple") (fun xs H Q => ∃ p ys, xs = [.ref p] ∧ SqL X.K H p ys ∧ ∀ l o, o.dict = none → H l = none → Q (.ref l) (upd H l (.frz o (.tup ys)))) := by
  intro pins s σ H xs us Q I r h
  obtain ⟨p, ys, rfl, hq, q⟩ := h
  obtain ⟨u, rfl, rx⟩ := vals1 r
  cases rx
  obtain ⟨its, r', pl, hz⟩ := I.list hq
  have hlen := r'.length
  refine call_tuple_list pl.isList (fun h' kp => ?_) (by simp only [List.size_toArray] <;> omega)
  have I1 : Inv X pins σ H { s with heap := h' } := I.kept (t' := s.toks) kp
  have I2 : Inv X pins σ (upd H h'.objs.size (.frz { cls := .type "tuple", data := .seq its.toArray } (.tup ys))) { s with heap := h'.push { cls := .type "tuple", data := .seq its.toArray } } :=
    I1.laid (t' := s.toks) (fun b o e => Heap.get?_push_of_some _ e) (Nat.le_refl _) (show ObjOk X.prog X.w _ _ _ (.frz _ (.tup ys)) from ⟨Heap.get?_push_size _ rfl, hz, its, r', IsTup.new _ _⟩)
  exact ⟨.ref h'.objs.size, _, I2, rfl, q _ _ rfl (I1.hok.fresh (Nat.le_refl _))⟩
theorem pairs_of2 {pins : List (Addr × Obj)} {σ : L2.St} {H : Hp} {s : Shared} (I : Inv X pins σ H s) : ∀ {ps : List Addr} {kvs : List (Key × V)}, Paired (fun p kv => SqT X.K H p [kV kv.1, kv.2]) ps kvs →
    ∃ (prs : List (Key × Value)) (qs : List (Value × Value)), KV kvs prs ∧ prs.length = ps.length ∧ qs.length = ps.length ∧
      (∀ (j : Nat) (u v : Value), qs[j]? = some (u, v) → ∃ (b : Addr) (k : Key), ps[j]? = some b ∧ prs[j]? = some (k, v) ∧ IsTup s.heap b #[u, v] ∧ keyIs k u = true)
  | _, _, .nil => ⟨[], [], .nil, rfl, rfl, fun j u v e => by simp at e⟩
  | _, _, .cons (a := p) (b := kv) h t => by
    obtain ⟨prs, qs, r, hl, hl2, hp⟩ := pairs_of2 I t
    obtain ⟨its, rv, ht, _⟩ := I.tuple h
    obtain ⟨u, y, ei, ru, ry⟩ := vals2 rv
    subst ei
    refine ⟨(kv.1, y) :: prs, (u, y) :: qs, .cons ⟨rfl, ry⟩ r, by rw [List.length_cons, List.length_cons, hl], by rw [List.length_cons, List.length_cons, hl2], fun j u' v' e => ?_⟩
    cases j with
    | zero =>
      have e' : (u, y) = (u', v') := Option.some.inj e
      cases e'
      exact ⟨p, kv.1, rfl, rfl, ht, kV_is (P := X.prog) (w := X.w) ru⟩
    | succ j =>
      obtain ⟨b, k, e1, e2, e3, e4⟩ := hp j u' v' (by simpa using e)
      exact ⟨b, k, by simpa using e1, by simpa using e2, e3, e4⟩
theorem call_dictT (hcalm : X.calm = true) : CallR X (.type "dict") (fun xs H Q => ∃ (a : Addr) (ps : List Addr) (kvs : List (Key × V)), xs = [.ref a] ∧ TupF H a (ps.map V.ref) ∧ Paired (fun p kv => SqT X.K H p [kV kv.1, kv.2]) ps kvs ∧
    ∀ p, H p = none → Q (.ref p) (upd H p (.dK (mergeK [] kvs)))) := by
  intro pins s σ H xs us Q I r q
  obtain ⟨a, ps, kvs, ex, ⟨o, hq, hdn⟩, hp, q⟩ := q
  subst ex
  obtain ⟨u, eu, rx⟩ := vals1 r
  subst eu
  cases rx
  obtain ⟨ho, hz, its, rv, o', ho', hc, n, hdat⟩ := I.hok _ _ hq
  rw [ho] at ho'
  cases ho'
  have ei := refs_at rv
  subst ei
  rw [List.length_map] at hz
  obtain ⟨prs, qs, rel, hl, hl2, hpr⟩ := pairs_of2 I hp
  refine PySem.call_dict_pairs (knd := mixKind X.prog X.w) (kvs := prs) (PySem.PairArg.tuple a (ps.map Value.ref).toArray (fun j => ps.getD j 0) qs) (I.ok.hd hcalm) ⟨⟨o, n, ho, hc, hdn, hdat⟩, by simp [hl2], fun j k v e => ?_⟩ ⟨by rw [hl, hl2], fun i key v e => ?_⟩ (by rw [hl2]; exact hz) fun h' tk hd' k => ?_
  · obtain ⟨b, k', e1, e2, e3, e4⟩ := hpr j k v e
    have eb : ps.getD j 0 = b := by rw [List.getD_eq_getElem?_getD, e1]; rfl
    show _ ∧ PySem.PairAt s.heap (ps.getD j 0) k v
    rw [eb]
    exact ⟨by simp [e1], .inl e3⟩
  · obtain ⟨b, k', e1, e2, e3, e4⟩ := hpr i key v e
    exact ⟨k', e2, e4⟩
  · have hm : (s.heap.objs.size == sysModules) = false := beq_eq_false_iff_ne.mpr (Nat.ne_of_gt I.big)
    have hlen : (mergeK [] kvs).length ≤ sizeLine := by
      refine Nat.le_trans (length_mergeK kvs []) ?_
      rw [List.length_nil, Nat.zero_add, rel.length, hl]
      exact hz
    exact ⟨.ref s.heap.objs.size, upd H s.heap.objs.size (.dK (mergeK [] kvs)), I.laid (t' := tk) (fun b ob e => k b ob (fun z => nomatch z) e) (Nat.le_refl _) (show ObjOk X.prog X.w _ _ _ (.dK (mergeK [] kvs)) from ⟨hlen, hm, merged [] prs, KV.merge rel .nil, hd'⟩), rfl, q _ (I.hok.fresh (Nat.le_refl _))⟩
end
end SC

namespace L9
open PySem PySem.Spec PyProof.Rows L2 GR
abbrev aggs : List (Str × Nat) := [("count", 2), ("sum", 3), ("most", 4), ("first", 3)]
abbrev opws : List Str := ["+", "-", "*", "<", "=", "at"]
/-- one that contains none -/
inductive Leaf (zs : List Str) : PyData → Prop
  | int (i : Int) : -(10 ^ 18) ≤ i → i ≤ 10 ^ 18 → Leaf zs (.tuple [.str "int", .int i])
  | let_ (i : Int) : 0 ≤ i → i ≤ 10000 → Leaf zs (.tuple [.str "let", .int i])
  | key : Leaf zs (.tuple [.str "key"])
  | var (z : Str) : z ∈ zs → Leaf zs (.tuple [.str "var", .str z])
/-- an expression of depth n at most; its names are among zs -/
inductive Ex (zs : List Str) : Nat → PyData → Prop
  | leaf (n : Nat) (x : PyData) : Leaf zs x → Ex zs (n + 1) x
  | cell (n : Nat) (t v : Str) (x : PyData) : t ∈ zs → v ∈ zs → Ex zs n x → Ex zs (n + 1) (.tuple [.str "cell", .str t, x, .str v])
  | op (n : Nat) (o : Str) (x y : PyData) : o ∈ opws → Ex zs n x → Ex zs n y → Ex zs (n + 1) (.tuple [.str o, x, y])
  | iff (n : Nat) (x y z : PyData) : Ex zs n x → Ex zs n y → Ex zs n z → Ex zs (n + 1) (.tuple [.str "if", x, y, z])
  | agg (n : Nat) (o t : Str) (xs ys : List PyData) : (o, ys.length) ∈ aggs → t ∈ zs → xs.length ≤ 2 → (∀ x, x ∈ xs → Ex zs n x) → (∀ y, y ∈ ys → Ex zs n y) → Ex zs (n + 1) (.tuple (.str o :: .str t :: .tuple xs :: ys))
theorem Ex.mono {zs : List Str} : ∀ {n m : Nat} {x : PyData}, Ex zs n x → n ≤ m → Ex zs m x := by
  intro n m x h
  induction h generalizing m with
  | leaf n x h =>
    intro hm
    obtain ⟨k, rfl⟩ : ∃ k, m = k + 1 := ⟨m - 1, by omega⟩
    exact .leaf k x h
  | cell n t v x h1 h2 h3 ih =>
    intro hm
    obtain ⟨k, rfl⟩ : ∃ k, m = k + 1 := ⟨m - 1, by omega⟩
    exact .cell k t v x h1 h2 (ih (by omega))
  | op n o x y h1 h2 h3 ih1 ih2 =>
    intro hm
    obtain ⟨k, rfl⟩ : ∃ k, m = k + 1 := ⟨m - 1, by omega⟩
    exact .op k o x y h1 (ih1 (by omega)) (ih2 (by omega))
  | iff n x y z h1 h2 h3 ih1 ih2 ih3 =>
    intro hm
    obtain ⟨k, rfl⟩ : ∃ k, m = k + 1 := ⟨m - 1, by omega⟩
    exact .iff k x y z (ih1 (by omega)) (ih2 (by omega)) (ih3 (by omega))
  | agg n o t xs ys h1 h2 h3 h4 h5 ih1 ih2 =>
    intro hm
    obtain ⟨k, rfl⟩ : ∃ k, m = k + 1 := ⟨m - 1, by omega⟩
    exact .agg k o t xs ys h1 h2 h3 (fun x hx => ih1 x hx (by omega)) (fun y hy => ih2 y hy (by omega))
theorem Ex.flat {zs : List Str} : ∀ {n : Nat} {x : PyData}, Ex zs n x → flatD x = true := by
  intro n x h
  induction h with
  | leaf n x h => cases h <;> simp only [flatD, flatDs, Bool.and_self]
  | cell n t v x h1 h2 h3 ih => simp only [flatD, flatDs, ih, Bool.and_self]
  | op n o x y h1 h2 h3 ih1 ih2 => simp only [flatD, flatDs, ih1, ih2, Bool.and_self]
  | iff n x y z h1 h2 h3 ih1 ih2 ih3 => simp only [flatD, flatDs, ih1, ih2, ih3, Bool.and_self]
  | agg n o t xs ys h1 h2 h3 h4 h5 ih1 ih2 => simp only [flatD, flatDs, flatDs_of ih1, flatDs_of ih2, Bool.and_self]
end L9

namespace L9
open PySem PySem.Spec PyProof.Rows L2 GR
/-- what stands behind each word -/
def table : List (Str × List Str) := [("int", ["value"]), ("var", ["name"]), ("key", []), ("let", ["position"]), ("cell", ["name", "free", "name"]), ("+", ["free", "free"]), ("-", ["free", "free"]), ("*", ["free", "free"]), ("<", ["free", "free"]), ("=", ["free", "free"]),
  ("if", ["free", "free", "free"]), ("at", ["free", "bound"]), ("count", ["name", "extra", "bound", "bound"]), ("sum", ["name", "extra", "bound", "bound", "bound"]), ("most", ["name", "extra", "bound", "bound", "bound", "free"]), ("first", ["name", "extra", "bound", "bound", "free"])]
def items : PyData → List PyData
  | .tuple xs => xs
  | _ => []
def pick (wanted : List Str) : List Str → List PyData → List PyData
  | f :: fs, d :: ds => (if f = "extra" then items d else if f ∈ wanted then [d] else []) ++ pick wanted fs ds
  | _, _ => []
/-- what stands behind the word fits its kinds, as far as contained_of asks -/
inductive Fits : List Str → List PyData → Prop
  | nil : Fits [] []
  | cons {f : Str} {d : PyData} {fs : List Str} {ds : List PyData} : (f = "extra" → ∃ xs, d = .tuple xs) → Fits fs ds → Fits (f :: fs) (d :: ds)
/-- the form of an expression -/
def Form (x : PyData) (w : Str) (fs : List Str) (rest : List PyData) : Prop := x = .tuple (.str w :: rest) ∧ (w, fs) ∈ table ∧ Fits fs rest
theorem fit1 {f : Str} {d : PyData} {fs : List Str} {ds : List PyData} (h : f ≠ "extra") (t : Fits fs ds) : Fits (f :: fs) (d :: ds) := .cons (fun e => absurd e h) t
theorem Ex.form {zs : List Str} {n : Nat} {x : PyData} (h : Ex zs n x) : ∃ w fs rest, Form x w fs rest := by
  cases h with
  | leaf n x h =>
    cases h with
    | int i _ _ => exact ⟨"int", ["value"], _, rfl, by decide, fit1 (by decide) .nil⟩
    | let_ i _ _ => exact ⟨"let", ["position"], _, rfl, by decide, fit1 (by decide) .nil⟩
    | key => exact ⟨"key", [], _, rfl, by decide, .nil⟩
    | var z _ => exact ⟨"var", ["name"], _, rfl, by decide, fit1 (by decide) .nil⟩
  | cell n t v x h1 h2 h3 => exact ⟨"cell", ["name", "free", "name"], _, rfl, by decide, fit1 (by decide) (fit1 (by decide) (fit1 (by decide) .nil))⟩
  | op n o x y h1 h2 h3 =>
    simp only [opws, List.mem_cons, List.not_mem_nil, or_false] at h1
    rcases h1 with rfl | rfl | rfl | rfl | rfl | rfl
    · exact ⟨_, ["free", "free"], _, rfl, by decide, fit1 (by decide) (fit1 (by decide) .nil)⟩
    · exact ⟨_, ["free", "free"], _, rfl, by decide, fit1 (by decide) (fit1 (by decide) .nil)⟩
    · exact ⟨_, ["free", "free"], _, rfl, by decide, fit1 (by decide) (fit1 (by decide) .nil)⟩
    · exact ⟨_, ["free", "free"], _, rfl, by decide, fit1 (by decide) (fit1 (by decide) .nil)⟩
    · exact ⟨_, ["free", "free"], _, rfl, by decide, fit1 (by decide) (fit1 (by decide) .nil)⟩
    · exact ⟨_, ["free", "bound"], _, rfl, by decide, fit1 (by decide) (fit1 (by decide) .nil)⟩
  | iff n x y z h1 h2 h3 => exact ⟨"if", ["free", "free", "free"], _, rfl, by decide, fit1 (by decide) (fit1 (by decide) (fit1 (by decide) .nil))⟩
  | agg n o t xs ys h1 h2 h3 h4 h5 =>
    have tl : ∀ d : PyData, (("extra" : Str) = "extra" → ∃ us, d = .tuple us) ∨ True := fun _ => .inr trivial
    simp only [aggs, List.mem_cons, List.not_mem_nil, or_false, Prod.mk.injEq] at h1
    rcases h1 with ⟨rfl, h⟩ | ⟨rfl, h⟩ | ⟨rfl, h⟩ | ⟨rfl, h⟩
    · match ys, h with
      | [_, _], _ => exact ⟨_, ["name", "extra", "bound", "bound"], _, rfl, by decide, fit1 (by decide) (.cons (fun _ => ⟨xs, rfl⟩) (fit1 (by decide) (fit1 (by decide) .nil)))⟩
    · match ys, h with
      | [_, _, _], _ => exact ⟨_, ["name", "extra", "bound", "bound", "bound"], _, rfl, by decide, fit1 (by decide) (.cons (fun _ => ⟨xs, rfl⟩) (fit1 (by decide) (fit1 (by decide) (fit1 (by decide) .nil))))⟩
    · match ys, h with
      | [_, _, _, _], _ => exact ⟨_, ["name", "extra", "bound", "bound", "bound", "free"], _, rfl, by decide, fit1 (by decide) (.cons (fun _ => ⟨xs, rfl⟩) (fit1 (by decide) (fit1 (by decide) (fit1 (by decide) (fit1 (by decide) .nil)))))⟩
    · match ys, h with
      | [_, _, _], _ => exact ⟨_, ["name", "extra", "bound", "bound", "free"], _, rfl, by decide, fit1 (by decide) (.cons (fun _ => ⟨xs, rfl⟩) (fit1 (by decide) (fit1 (by decide) (fit1 (by decide) .nil))))⟩
/-- the written table at fA -/
def Flds (K : PySem.W.Frag) (w : World) (fA : Addr) : Prop := ∀ wd fs, (wd, fs) ∈ table → ∃ p, KDct K w fA wd (.ref p) ∧ ∀ H, SqT K H p (fs.map V.str)
end L9
namespace L9
open PySem PySem.Spec PyProof.Rows L2 GR
/-- what one field gives -/
def pick1 (wanted : List Str) (f : Str) (d : PyData) : List PyData := if f = "extra" then items d else if f ∈ wanted then [d] else []
theorem pick_take (W : List Str) : ∀ {fs : List Str} {ds : List PyData} (i : Nat) {f : Str} {d : PyData}, fs[i]? = some f → ds[i]? = some d → pick W (fs.take (i + 1)) (ds.take (i + 1)) = pick W (fs.take i) (ds.take i) ++ pick1 W f d
  | f0 :: fs, d0 :: ds, 0, f, d, hf, hd => by
    cases hf
    cases hd
    simp only [List.take_succ_cons, List.take_zero, pick, pick1, List.append_nil, List.nil_append]
  | f0 :: fs, d0 :: ds, i + 1, f, d, hf, hd => by
    rw [List.getElem?_cons_succ] at hf hd
    have := pick_take W i hf hd
    simp only [List.take_succ_cons, pick]
    rw [this, List.append_assoc]
  | [], _, _, _, _, hf, _ => by simp at hf
  | _ :: _, [], _, _, _, _, hd => by simp at hd
theorem pick_len (W : List Str) : ∀ {fs : List Str} {ds : List PyData} (i : Nat), (pick W (fs.take i) (ds.take i)).length ≤ (pick W fs ds).length
  | f0 :: fs, d0 :: ds, 0 => by simp only [List.take_zero, pick]; exact Nat.zero_le _
  | f0 :: fs, d0 :: ds, i + 1 => by
    have := pick_len W (fs := fs) (ds := ds) i
    simp only [List.take_succ_cons, pick, List.length_append]
    omega
  | [], ds, i => by simp only [List.take_nil, pick]; exact Nat.zero_le _
  | f0 :: fs, [], i => by
    simp only [List.take_nil]
    cases fs.take i <;> cases i <;> simp [pick]
theorem flatDs_at : ∀ {ds : List PyData} {i : Nat} {d : PyData}, flatDs ds = true → ds[i]? = some d → flatD d = true
  | d0 :: ds, 0, d, h, e => by
    cases e
    rw [flatDs, Bool.and_eq_true] at h
    exact h.1
  | d0 :: ds, i + 1, d, h, e => by
    rw [flatDs, Bool.and_eq_true] at h
    rw [List.getElem?_cons_succ] at e
    exact flatDs_at h.2 e
  | [], _, _, _, e => by simp at e
theorem flat_pick1 {W : List Str} {f : Str} {d : PyData} (h : flatD d = true) : flatDs (pick1 W f d) = true := by
  unfold pick1
  split
  · cases d <;> simp only [items, flatDs]
    rw [flatD] at h
    exact h
  · split
    · rw [flatDs, h, flatDs]
      rfl
    · rw [flatDs]
theorem flat_pick {W : List Str} : ∀ {fs : List Str} {ds : List PyData}, flatDs ds = true → flatDs (pick W fs ds) = true
  | f :: fs, d :: ds, h => by
    rw [flatDs, Bool.and_eq_true] at h
    exact flatDs_append (flat_pick1 (W := W) (f := f) h.1) (flat_pick h.2)
  | [], _, _ => by simp only [pick, flatDs]
  | _ :: _, [], _ => by simp only [pick, flatDs]
theorem flatDs_take {ds : List PyData} (i : Nat) (h : flatDs ds = true) : flatDs (ds.take i) = true := by
  induction ds generalizing i with
  | nil => simp only [List.take_nil, flatDs]
  | cons d ds ih =>
    rw [flatDs, Bool.and_eq_true] at h
    cases i with
    | zero => simp only [List.take_zero, flatDs]
    | succ i =>
      rw [List.take_succ_cons, flatDs, h.1, ih i h.2]
      rfl
theorem Fits.len {fs : List Str} {ds : List PyData} (h : Fits fs ds) : fs.length = ds.length := by
  induction h with
  | nil => rfl
  | cons _ _ ih => rw [List.length_cons, List.length_cons, ih]
theorem Fits.at' {fs : List Str} {ds : List PyData} (h : Fits fs ds) : ∀ {i : Nat} {d : PyData}, fs[i]? = some ("extra" : Str) → ds[i]? = some d → ∃ xs, d = .tuple xs := by
  induction h with
  | nil =>
    intro i d e
    simp at e
  | cons h1 h2 ih =>
    intro i d e1 e2
    cases i with
    | zero =>
      simp only [List.getElem?_cons_zero, Option.some.injEq] at e1 e2
      obtain ⟨xs, rfl⟩ := h1 e1
      exact ⟨xs, e2.symm⟩
    | succ i =>
      rw [List.getElem?_cons_succ] at e1 e2
      exact ih e1 e2
end L9

/-! Data of all kinds, dicts too, in the abstract heap; ok tells which addresses its lists and dicts may have. -/
namespace AD
open PySem PySem.Spec PyProof.Rows L2 GR
def keyD : Key → PyData
  | .inl i => .int i
  | .inr x => .str x
mutual
inductive Dd (K : PySem.W.Frag) (ok : Addr → Prop) (H : Hp) : V → PyData → Prop
  | non : Dd K ok H .non .none
  | bl (b : Bool) : Dd K ok H (.bl b) (.bool b)
  | int (i : Int) : Dd K ok H (.int i) (.int i)
  | str (x : Str) : Dd K ok H (.str x) (.str x)
  | lst {a : Addr} {xs : List V} {ds : List PyData} : H a = some (.lst xs) → ok a → DdAll K ok H xs ds → Dd K ok H (.ref a) (.list ds)
  | tup {a : Addr} {xs : List V} {ds : List PyData} : SqT K H a xs → DdAll K ok H xs ds → Dd K ok H (.ref a) (.tuple ds)
  | dk {a : Addr} {kvs : List (Key × V)} {ds : List PyData} : H a = some (.dK kvs) → ok a → DdAll K ok H (kvs.map (·.2)) ds → Dd K ok H (.ref a) (.dict ((kvs.map fun p => keyD p.1).zip ds))
inductive DdAll (K : PySem.W.Frag) (ok : Addr → Prop) (H : Hp) : List V → List PyData → Prop
  | nil : DdAll K ok H [] []
  | cons {v : V} {vs : List V} {d : PyData} {ds : List PyData} : Dd K ok H v d → DdAll K ok H vs ds → DdAll K ok H (v :: vs) (d :: ds)
end
/-- tuples stay, and what lies where ok allows it -/
structure KeepO (ok : Addr → Prop) (H H' : Hp) : Prop where
  tup : ∀ b xs, H b = some (.tup xs) → H' b = some (.tup xs)
  frz : ∀ b o xs, H b = some (.frz o (.tup xs)) → H' b = some (.frz o (.tup xs))
  oth : ∀ b o, ok b → H b = some o → H' b = some o
theorem KeepO.of {ok : Addr → Prop} {H H' : Hp} (s : Same H H') : KeepO ok H H' := ⟨fun b _ e => s b _ e, fun b _ _ e => s b _ e, fun b _ _ e => s b _ e⟩
theorem KeepO.trans {ok : Addr → Prop} {H H1 H2 : Hp} (a : KeepO ok H H1) (b : KeepO ok H1 H2) : KeepO ok H H2 := ⟨fun x _ e => b.tup x _ (a.tup x _ e), fun x _ _ e => b.frz x _ _ (a.frz x _ _ e), fun x o h e => b.oth x o h (a.oth x o h e)⟩
theorem KeepO.seqt {ok : Addr → Prop} {K : PySem.W.Frag} {H H' : Hp} (s : KeepO ok H H') {a : Addr} {xs : List V} (h : SqT K H a xs) : SqT K H' a xs := by
  rcases h with (h | ⟨o, h⟩) | h
  · exact .inl (.inl (s.tup _ _ h))
  · exact .inl (.inr ⟨o, s.frz _ _ _ h⟩)
  · exact .inr h
section
variable {K : PySem.W.Frag} {ok ok' : Addr → Prop} {H H' : Hp}
mutual
theorem Dd.keep (k : KeepO ok H H') : ∀ {v : V} {d : PyData}, Dd K ok H v d → Dd K ok H' v d
  | _, _, .non => .non
  | _, _, .bl b => .bl b
  | _, _, .int i => .int i
  | _, _, .str x => .str x
  | _, _, .lst h o q => .lst (k.oth _ _ o h) o (DdAll.keep k q)
  | _, _, .tup h q => .tup (k.seqt h) (DdAll.keep k q)
  | _, _, .dk h o q => .dk (k.oth _ _ o h) o (DdAll.keep k q)
theorem DdAll.keep (k : KeepO ok H H') : ∀ {vs : List V} {ds : List PyData}, DdAll K ok H vs ds → DdAll K ok H' vs ds
  | _, _, .nil => .nil
  | _, _, .cons h q => .cons (Dd.keep k h) (DdAll.keep k q)
end
mutual
theorem Dd.mono (k : ∀ a, ok a → ok' a) : ∀ {v : V} {d : PyData}, Dd K ok H v d → Dd K ok' H v d
  | _, _, .non => .non
  | _, _, .bl b => .bl b
  | _, _, .int i => .int i
  | _, _, .str x => .str x
  | _, _, .lst h o q => .lst h (k _ o) (DdAll.mono k q)
  | _, _, .tup h q => .tup h (DdAll.mono k q)
  | _, _, .dk h o q => .dk h (k _ o) (DdAll.mono k q)
theorem DdAll.mono (k : ∀ a, ok a → ok' a) : ∀ {vs : List V} {ds : List PyData}, DdAll K ok H vs ds → DdAll K ok' H vs ds
  | _, _, .nil => .nil
  | _, _, .cons h q => .cons (Dd.mono k h) (DdAll.mono k q)
end
theorem DdAll.len : ∀ {vs : List V} {ds : List PyData}, DdAll K ok H vs ds → vs.length = ds.length
  | _, _, .nil => rfl
  | _, _, .cons _ q => by rw [List.length_cons, List.length_cons, DdAll.len q]
end
/-- the entries of a dict, its keys read -/
theorem keys_read {P : Program} {w : World} {h : Heap} {es : List DictEntry} {vs : List (Key × Value)} (p : PySem.Pairs (mixKind P w) es vs) : ReadsAll h (es.map (·.key)) (vs.map fun q => keyD q.1) [] := by
  induction p with
  | nil => exact .nil
  | @cons e kv es kvs h1 _ _ ih =>
    rw [List.map_cons, List.map_cons]
    rcases keyIs_shape h1 with ⟨i, t, e1, e2⟩ | ⟨x, t, e1, e2⟩
    · rw [e1, e2]
      exact .cons (.int i t) ih
    · rw [e1, e2]
      exact .cons (.str x t) ih
theorem pairs_val {P : Program} {w : World} {es : List DictEntry} {vs : List (Key × Value)} (p : PySem.Pairs (mixKind P w) es vs) : es.map (·.val) = vs.map (·.2) := by
  induction p with
  | nil => rfl
  | cons _ h2 _ ih => rw [List.map_cons, List.map_cons, h2, ih]
theorem kv_keys {kvs : List (Key × V)} {vs : List (Key × Value)} (r : KV kvs vs) : vs.map (fun q => keyD q.1) = kvs.map fun q => keyD q.1 := by
  induction r with
  | nil => rfl
  | cons h _ ih => rw [List.map_cons, List.map_cons, ih, h.1]
theorem kv_vals {kvs : List (Key × V)} {vs : List (Key × Value)} (r : KV kvs vs) : Vals (kvs.map (·.2)) (vs.map (·.2)) := by
  induction r with
  | nil => exact .nil
  | cons h _ ih => exact .cons h.2 ih
section
variable {X : Cx} {pins : List (Addr × Obj)} {σ : L2.St} {H : Hp} {s : Shared} {ok : Addr → Prop}
mutual
theorem Dd.reads (I : Inv X pins σ H s) (hok : ∀ a, ok a → a ≠ sysModules) : ∀ {v : V} {d : PyData}, Dd X.K ok H v d → ∀ u, RelV v u → ∃ as, Reads s.heap u d as ∧ sysModules ∉ as
  | _, _, .non, _, r => by
    cases r
    exact ⟨_, .none, List.not_mem_nil⟩
  | _, _, .bl b, _, r => by
    cases r
    exact ⟨_, .bool b, List.not_mem_nil⟩
  | _, _, .int i, _, r => by
    obtain ⟨t, rfl⟩ := r
    exact ⟨_, .int i t, List.not_mem_nil⟩
  | _, _, .str x, _, r => by
    obtain ⟨t, rfl⟩ := r
    exact ⟨_, .str x t, List.not_mem_nil⟩
  | _, _, .lst hs o q, _, r => by
    cases r
    obtain ⟨its, rv, ⟨ob, n, ho, hc, _, hd⟩, _⟩ := I.list (.inl (.inl hs))
    obtain ⟨as, hr, hn⟩ := DdAll.reads I hok q its rv
    exact ⟨_, .list ho hc hd hr, fun z => (List.mem_cons.mp z).elim (fun e => hok _ o e.symm) hn⟩
  | _, _, .tup hs q, _, r => by
    cases r
    obtain ⟨its, rv, ⟨ob, ho, hc, n, hd⟩, _⟩ := I.tuple hs
    obtain ⟨as, hr, hn⟩ := DdAll.reads I hok q its rv
    exact ⟨_, .tuple ho hc hd hr, hn⟩
  | _, _, .dk (kvs := kvs) (ds := ds) hs o q, _, r => by
    cases r
    obtain ⟨_, hsys, vs, rk, ob, es, ep, ho, hex, hd, _, hp, _⟩ := I.hok _ _ hs
    obtain ⟨as, hr, hn⟩ := DdAll.reads I hok q _ (kv_vals rk)
    have hk := keys_read (h := s.heap) hp
    have hv := pairs_val hp
    have hl := q.len
    rw [List.length_map] at hl
    rw [kv_keys rk] at hk
    rw [← hv] at hr
    refine ⟨_, .dict (kvs := (kvs.map fun p => keyD p.1).zip ds) ho hex.1 hd (as := []) (bs := as) ?_ ?_, fun z => ?_⟩
    · rw [List.map_fst_zip (by rw [List.length_map]; omega)]
      exact hk
    · rw [List.map_snd_zip (by rw [List.length_map]; omega)]
      exact hr
    · rcases List.mem_append.mp z with z | z
      · exact hok _ o (List.mem_singleton.mp z).symm
      · exact hn z
theorem DdAll.reads (I : Inv X pins σ H s) (hok : ∀ a, ok a → a ≠ sysModules) : ∀ {vs : List V} {ds : List PyData}, DdAll X.K ok H vs ds → ∀ us, Vals vs us → ∃ as, ReadsAll s.heap us ds as ∧ sysModules ∉ as
  | _, _, .nil, _, r => by
    cases r
    exact ⟨_, .nil, List.not_mem_nil⟩
  | _, _, .cons h q, _, r => by
    cases r with
    | cons r1 r2 =>
      obtain ⟨as, q1, n1⟩ := Dd.reads I hok h _ r1
      obtain ⟨bs, q2, n2⟩ := DdAll.reads I hok q _ r2
      exact ⟨_, .cons q1 q2, fun z => (List.mem_append.mp z).elim n1 n2⟩
end
/-- what is shown fits -/
structure Shw (d : PyData) : Prop where
  shw : d.showable = true
  dep : d.depth ≤ 60
  len : d.shown.length ≤ sizeLine
/-- repr of anything -/
def rReprA (X : Cx) : List V → Hp → VK → Prop := fun xs H Q => ∃ (v : V) (d : PyData) (ok : Addr → Prop), xs = [v] ∧ (∀ a, ok a → a ≠ sysModules) ∧ Dd X.K ok H v d ∧ Shw d ∧ Q (.str d.shown) H
theorem call_reprA {k : Nat} (hg : X.A.guards = some []) (hr : Room k X.A) : CallR X (.builtin "repr") (rReprA X) := by
  intro pins s σ H xs us Q I r h
  obtain ⟨v, d, ok, rfl, hok, hd, ⟨h1, h2, h3⟩, q⟩ := h
  obtain ⟨u, rfl, rv⟩ := vals1 r
  obtain ⟨as, hR, hn⟩ := Dd.reads I hok hd u rv
  have hu := hr.units
  have big : ∀ a, u = .ref a → wpAny (model X.prog X.w) X.A (call (.builtin "repr") [.ref a]) (EP X pins σ Q) X.xe s := fun a e => by
    rw [e] at hR
    exact repr_of_reads' hR h1 (fun _ => hn) hg (by omega) (fun _ _ e => e) (fun h' u tk hk => ⟨.str d.shown, H, I.kept hk, ⟨_, rfl⟩, q⟩) h3
  cases hd with
  | non =>
    cases rv
    rw [PyData.shown_none] at q
    exact PySem.P.repr_of_none ⟨.str _, H, I.tok _, ⟨_, rfl⟩, q⟩
  | bl b =>
    cases rv
    rw [PyData.shown_bool] at q
    exact P.repr_of_bool ⟨.str _, H, I.kept fun _ _ e => e, ⟨_, rfl⟩, q⟩
  | int i =>
    obtain ⟨t, rfl⟩ := rv
    rw [PyData.shown_int] at q
    exact PySem.P.repr_of_int (by simpa [PyData.showable] using h1) ⟨.str _, H, I.tok _, ⟨_, rfl⟩, q⟩
  | str x =>
    obtain ⟨t, rfl⟩ := rv
    rw [PyData.shown_str] at q h3
    exact P.repr_of_str ⟨.str _, H, I.tok _, ⟨_, rfl⟩, q⟩ h3
  | lst _ _ _ =>
    cases rv
    exact big _ rfl
  | tup _ _ =>
    cases rv
    exact big _ rfl
  | dk _ _ _ =>
    cases rv
    exact big _ rfl
/-- str of a list, a tuple, a dict -/
def rStrA (X : Cx) : List V → Hp → VK → Prop := fun xs H Q => ∃ (a : Addr) (d : PyData) (ok : Addr → Prop), xs = [.ref a] ∧ (∀ a, ok a → a ≠ sysModules) ∧ Dd X.K ok H (.ref a) d ∧ Shw d ∧ Q (.str d.shown) H
theorem call_strA {k : Nat} (hg : X.A.guards = some []) (hr : Room k X.A) : CallR X (.type "str") (rStrA X) := by
  intro pins s σ H xs us Q I r h
  obtain ⟨a, d, ok, rfl, hok, hd, ⟨h1, h2, h3⟩, q⟩ := h
  obtain ⟨u, rfl, rv⟩ := vals1 r
  obtain rfl : u = Value.ref a := rv
  obtain ⟨as, hR, hn⟩ := Dd.reads I hok hd _ rfl
  have hu := hr.units
  exact str_of_reads hR h1 (fun _ => hn) hg (by omega) (fun _ _ e => e) (fun h' u tk hk => ⟨.str d.shown, H, I.kept hk, ⟨_, rfl⟩, q⟩) h3
/-- the class's name -/
def tyN : PyData → String
  | .none => "NoneType"
  | .bool _ => "bool"
  | .int _ => "int"
  | .str _ => "str"
  | .list _ => "list"
  | .tuple _ => "tuple"
  | .dict _ => "dict"
theorem Dd.ty {K : PySem.W.Frag} {v : V} {d : PyData} (h : Dd K ok H v d) : TyX K H v (.type (tyN d)) := by
  cases h with
  | non => exact .base .non
  | bl b => exact .base (.bl b)
  | int i => exact .base (.int i)
  | str x => exact .base (.str x)
  | lst h _ _ => exact .base (.lst h)
  | tup h _ =>
    rcases h with (h | ⟨o, h⟩) | ⟨o, its, n, h1, h2, _⟩
    · exact .base (.tup h)
    · exact .fTuple h
    · exact .kTuple h1 h2
  | dk h _ _ => exact .base (.dK h)
/-- == of anything but dicts -/
def rEqA (X : Cx) : R2 := fun x y H Q => ∃ (d e : PyData) (ok : Addr → Prop), (∀ a, ok a → a ≠ sysModules) ∧ Dd X.K ok H x d ∧ Dd X.K ok H y e ∧ SeqAt.shaped d = true ∧ SeqAt.shaped e = true ∧ Q (.bl (PyData.eqv d e)) H
theorem op_eqA (hu : X.A.units + 64 < cLine) : OpR X (compareOp .Eq) (rEqA X) := by
  intro pins s σ H x y v u Q I rx ry h
  obtain ⟨d, e, ok, hok, hd, he, sd, se, q⟩ := h
  obtain ⟨as, r1, _⟩ := Dd.reads I hok hd v rx
  obtain ⟨bs, r2, _⟩ := Dd.reads I hok he u ry
  exact SeqAt.compareEq_shaped r1 r2 sd se hu ⟨.bl _, H, I, rfl, q⟩
/-- in, not in, of anything but dicts, in a tuple of such -/
def rInA (X : Cx) (neg : Bool) : R2 := fun x y H Q => ∃ (d : PyData) (ds : List PyData) (ok : Addr → Prop), (∀ a, ok a → a ≠ sysModules) ∧ Dd X.K ok H x d ∧ Dd X.K ok H y (.tuple ds) ∧ SeqAt.shaped d = true ∧ SeqAt.shaped (.tuple ds) = true ∧ Q (.bl (if neg then !ds.any (fun z => PyData.eqv z d) else ds.any fun z => PyData.eqv z d)) H
theorem op_inA (hu : X.A.units + 65 < cLine) : OpR X (compareOp .In) (rInA X false) := by
  intro pins s σ H x y v u Q I rx ry h
  obtain ⟨d, ds, ok, hok, hd, he, sd, se, q⟩ := h
  obtain ⟨as, r1, _⟩ := Dd.reads I hok hd v rx
  obtain ⟨bs, r2, _⟩ := Dd.reads I hok he u ry
  exact SeqAt.in_tuple_reads r2 r1 (SeqAt.canLay_of_shaped se) (SeqAt.canLay_of_shaped sd) (room_in_shaped sd hu) ⟨.bl _, H, I, rfl, q⟩
theorem op_notInA (hu : X.A.units + 65 < cLine) : OpR X (compareOp .NotIn) (rInA X true) := by
  intro pins s σ H x y v u Q I rx ry h
  obtain ⟨d, ds, ok, hok, hd, he, sd, se, q⟩ := h
  obtain ⟨as, r1, _⟩ := Dd.reads I hok hd v rx
  obtain ⟨bs, r2, _⟩ := Dd.reads I hok he u ry
  exact SeqAt.notIn_tuple_reads r2 r1 (SeqAt.canLay_of_shaped se) (SeqAt.canLay_of_shaped sd) (room_in_shaped sd hu) ⟨.bl _, H, I, rfl, q⟩
/-- [e, ..]: a new list, not where the modules are -/
def tLstS (t : TA) : TE := fun σ H Q => t σ H fun xs H1 => xs.length ≤ sizeLine ∧ ∀ p, H1 p = none → p ≠ sysModules → Q (.ref p) (upd H1 p (.lst xs))
theorem pe_lstS {es : List Expr} {pos : Pos} {t : TA} (h : PA X es t) : PE X (.List es pos) (tLstS t) := by
  constructor
  intro pins s σ H Q I hq
  refine wpAny_List_spliced (thn (h.run pos pins s σ H _ I hq) ?_)
  rintro us s1 ⟨xs, H1, I1, r, z, q⟩
  refine ⟨by rw [← r.length]; exact z, ?_⟩
  have new := I1.hok.fresh (Nat.le_refl s1.heap.objs.size)
  have far : s1.heap.objs.size ≠ sysModules := (Nat.ne_of_lt I1.big).symm
  refine ⟨.ref s1.heap.objs.size, _, I1.laid (t' := s1.toks) (o := .lst xs) (fun b u e => Heap.get?_push_of_some _ e) (Nat.le_refl _) ⟨z, us, 0, r, Heap.get?_push_size _ rfl⟩, rfl, q _ new far⟩
/-- a dict does not lie where the modules are -/
def tSys (t : TE) : TE := fun σ H Q => t σ H fun v H' => (∀ a kvs, H' a = some (.dK kvs) → a ≠ sysModules) → Q v H'
theorem pe_sys {e : Expr} {t : TE} (h : PE X e t) : PE X e (tSys t) := by
  constructor
  intro pins s σ H Q I hq
  refine thn (h.run pins s σ H _ I hq) ?_
  rintro u s1 ⟨v, H1, I1, r, q⟩
  exact ⟨v, H1, I1, r, q fun a kvs e => fun z => by
    have := (I1.hok a _ e).2.1
    rw [z] at this
    exact absurd this (by decide)⟩
end
end AD

/-! d.get(y) of a written dict of texts, y a text (there or not) or None. -/
namespace FG
open PySem PySem.Spec PyProof.Rows L2 GR
/-- what the dict at p says of y -/
def Says (es : Array DictEntry) (y r : V) : Prop := (y = .non ∧ r = .non) ∨ ∃ z, y = .str z ∧ ((∃ u, findBy Value.isStrOf es z = some u ∧ RelV r u) ∨ (findBy Value.isStrOf es z = none ∧ r = .non))
def tKGet (K : PySem.W.Frag) (w : World) (td ty : TE) : TE := fun σ H Q => td σ H fun x H1 => ∃ (p : Addr) (es : Array DictEntry) (n : Nat), x = .ref p ∧ K.lookup p = some ⟨.type "dict", none, .dict es n, #[]⟩ ∧ PySem.W.KeysLit w.params es.toList ∧ (p == sysModules) = false ∧
  ty σ H1 fun y H2 => ∃ r, Says es y r ∧ Q r H2
/-- None is no key of it -/
theorem none_at {P : Program} {w : World} {h : Heap} {p : Addr} {es : Array DictEntry} {n : Nat} (hp : h.get? p = some ⟨.type "dict", none, .dict es n, #[]⟩) (hk : PySem.W.KeysLit w.params es.toList) : ∃ f, h.MapOf (noneKind P w) p f ∧ f none = none := by
  refine ⟨fun k => findBy (noneKind P w).is es k, ⟨_, es, n, hp, ⟨rfl, rfl, rfl⟩, rfl, fun e he => ?_, fun _ => rfl⟩, ?_⟩
  · obtain ⟨x, t, e1, e2⟩ := hk.all e (Array.mem_toList_iff.mpr he)
    exact ⟨some (.inr x), by rw [e1]; show keyIs (.inr x) (.str x t) = true; simp only [keyIs, PySem.W.isStr_of]; show (x == x) = true; exact beq_self_eq_true x, e2⟩
  · have q : (es.find? fun e => nkIs none e.key) = none := by
      rw [Array.find?_eq_none]
      intro e he hq
      obtain ⟨x, t, e1, _⟩ := hk.all e (Array.mem_toList_iff.mpr he)
      rw [e1] at hq
      exact absurd (nk_none hq) (fun z => nomatch z)
    show (es.find? fun e => nkIs none e.key).map (·.val) = none
    rw [q]
    rfl
section
variable {X : Cx} {o e : Expr} {apos cpos : Pos} {td ty : TE}
theorem pe_kget (ho : PE X o td) (he : PE X e ty) (m : M1 X o "get" apos e cpos) : PE X (.Call (.Attribute o "get" apos) [e] [] cpos) (tKGet X.K X.w td ty) := by
  refine ⟨fun pins s σ H Q I h => ?_⟩
  refine wpAny_Call_method m.base m.few m.line PySem.F.plainAttrs_dict PySem.F.slot_dict_get PySem.F.type_dict_get (thn (ho.run pins s σ H _ I h) fun u s1 ⟨x, H1, I1, rx, p, es, n, ex, hl, hk, hd, q1⟩ => ?_)
  subst ex
  obtain rfl : u = Value.ref p := rx
  have hp := I1.kIn _ _ hl
  refine ⟨⟨_, hp, rfl⟩, fun b q => ⟨_, by cases q; exact hp, rfl⟩, ?_⟩
  rw [m.trees]
  refine Calls.callWith_builtin rfl (Calls.evalArgs_plain (Calls.spliced_cons (thn (he.run pins s1 σ H1 _ I1 q1) fun iv s2 ⟨y, H2, I2, ry, r, hs, q2⟩ => Calls.spliced_nil ?_)))
  have hp2 := I2.kIn _ _ hl
  have hm := PySem.W.mapOf_K (prog := X.prog) (w := X.w) I2.kIn hl hk
  rcases hs with ⟨rfl, rfl⟩ | ⟨z, rfl, hz⟩
  · obtain rfl : iv = Value.none := ry
    obtain ⟨f, hf, hn⟩ := none_at (P := X.prog) (w := X.w) hp2 hk
    refine call_meetsIn PySem.F.slot_dict_get ⟨_, hp2, rfl⟩ PySem.F.entry_dict_get (PySem.F.args_dict_get_2 _ _) (meets_dict_get (noneKind X.prog X.w) p (show (noneKind X.prog X.w).is none .none = true from rfl) hd) ⟨_, hf, ?_⟩
    rw [hn]
    exact ⟨.non, H2, I2.tok _, rfl, q2⟩
  · obtain ⟨t, rfl⟩ := (show ∃ t, iv = Value.str z t from ry)
    refine call_meetsIn PySem.F.slot_dict_get ⟨_, hp2, rfl⟩ PySem.F.entry_dict_get (PySem.F.args_dict_get_2 _ _) (meets_dict_get (strKind X.prog X.w) p (strKind_is X.prog X.w z t) hd) ⟨_, hm, ?_⟩
    rcases hz with ⟨u, hu, rr⟩ | ⟨hu, rfl⟩
    · rw [hu]
      exact ⟨r, H2, I2.tok _, rr, q2⟩
    · rw [hu]
      exact ⟨.non, H2, I2.tok _, rfl, q2⟩
end
end FG

namespace L9
open PySem PySem.Spec PyProof.Rows L2 GR AD
def isI : PyData → Bool
  | .int _ => true
  | _ => false
def isS : PyData → Bool
  | .str _ => true
  | _ => false
def isTu : PyData → Bool
  | .tuple _ => true
  | _ => false
def isIB : PyData → Bool
  | .int _ => true
  | .bool _ => true
  | _ => false
def isB : PyData → Bool
  | .bool _ => true
  | _ => false
theorem kit_i (K : PySem.W.Frag) : ∀ d : PyData, PySem.W.kitOne K (.type (tyN d)) (.type "int") = some (isIB d)
  | .none => kit_ty (show kitB "NoneType" "int" = some false by decide +kernel)
  | .bool _ => kit_ty (show kitB "bool" "int" = some true by decide +kernel)
  | .int _ => kit_ty (show kitB "int" "int" = some true by decide +kernel)
  | .str _ => kit_ty (show kitB "str" "int" = some false by decide +kernel)
  | .list _ => kit_ty (show kitB "list" "int" = some false by decide +kernel)
  | .tuple _ => kit_ty (show kitB "tuple" "int" = some false by decide +kernel)
  | .dict _ => kit_ty (show kitB "dict" "int" = some false by decide +kernel)
theorem kit_b (K : PySem.W.Frag) : ∀ d : PyData, PySem.W.kitOne K (.type (tyN d)) (.type "bool") = some (isB d)
  | .none => kit_ty (show kitB "NoneType" "bool" = some false by decide +kernel)
  | .bool _ => kit_ty (show kitB "bool" "bool" = some true by decide +kernel)
  | .int _ => kit_ty (show kitB "int" "bool" = some false by decide +kernel)
  | .str _ => kit_ty (show kitB "str" "bool" = some false by decide +kernel)
  | .list _ => kit_ty (show kitB "list" "bool" = some false by decide +kernel)
  | .tuple _ => kit_ty (show kitB "tuple" "bool" = some false by decide +kernel)
  | .dict _ => kit_ty (show kitB "dict" "bool" = some false by decide +kernel)
theorem kit_s (K : PySem.W.Frag) : ∀ d : PyData, PySem.W.kitOne K (.type (tyN d)) (.type "str") = some (isS d)
  | .none => kit_ty (show kitB "NoneType" "str" = some false by decide +kernel)
  | .bool _ => kit_ty (show kitB "bool" "str" = some false by decide +kernel)
  | .int _ => kit_ty (show kitB "int" "str" = some false by decide +kernel)
  | .str _ => kit_ty (show kitB "str" "str" = some true by decide +kernel)
  | .list _ => kit_ty (show kitB "list" "str" = some false by decide +kernel)
  | .tuple _ => kit_ty (show kitB "tuple" "str" = some false by decide +kernel)
  | .dict _ => kit_ty (show kitB "dict" "str" = some false by decide +kernel)
theorem kit_t (K : PySem.W.Frag) : ∀ d : PyData, PySem.W.kitOne K (.type (tyN d)) (.type "tuple") = some (isTu d)
  | .none => kit_ty (show kitB "NoneType" "tuple" = some false by decide +kernel)
  | .bool _ => kit_ty (show kitB "bool" "tuple" = some false by decide +kernel)
  | .int _ => kit_ty (show kitB "int" "tuple" = some false by decide +kernel)
  | .str _ => kit_ty (show kitB "str" "tuple" = some false by decide +kernel)
  | .list _ => kit_ty (show kitB "list" "tuple" = some false by decide +kernel)
  | .tuple _ => kit_ty (show kitB "tuple" "tuple" = some true by decide +kernel)
  | .dict _ => kit_ty (show kitB "dict" "tuple" = some false by decide +kernel)
/-- a test whose answer is told -/
theorem iteB {c : Bool} {A B : Prop} (h1 : c = true → A) (h2 : c = false → B) : if c = true then A else B := by
  cases c with
  | true => exact iteT (h1 rfl)
  | false => exact iteF (h2 rfl)
theorem Dd.tup_inv {K : PySem.W.Frag} {ok : Addr → Prop} {H : Hp} {v : V} {ds : List PyData} (h : Dd K ok H v (.tuple ds)) : ∃ a xs, v = .ref a ∧ SqT K H a xs ∧ DdAll K ok H xs ds := by
  cases h with
  | tup h1 h2 => exact ⟨_, _, rfl, h1, h2⟩
section
variable {P : Program} {w : World} {K : PySem.W.Frag} {mg : Str → Option Value} {base : Heap}
/-- a def of one thing that tells a truth of it -/
def sp_is (K : PySem.W.Frag) (f : PyData → Bool) : Sp := fun vs H Q _ => ∃ (v : V) (d : PyData) (ok : Addr → Prop), vs = [v] ∧ Dd K ok H v d ∧ Q (.bl (f d)) H
abbrev s_is_integer : Stmt := topS 5
theorem sc_is_integer : FnScope ["thing"] ["thing"] (defScope s_is_integer) := ⟨rfl, rfl, rfl, by decide +kernel, rfl, by decide +kernel, by decide +kernel⟩
theorem ok_is_integer {f : Addr} {fd : FuncData} {k : Nat} (F : Fun K "is_integer" "is_integer" s_is_integer f fd) (misi : mg "isinstance" = none) (mint : mg "int" = none) (mbool : mg "bool" = none) : FnOk P w K mg base CX0 (k + 1) f fd ["thing"] (sp_is K isI) := by
  have nd := sc_is_integer.nd
  refine F.ok sc_is_integer (fun vs H Q E h => ?_) (fun cdv A outer s H vs Q E hr h => ?_)
  · obtain ⟨v, d, ok, rfl, _⟩ := h
    rfl
  obtain ⟨v, d, ok, rfl, hd, q⟩ := h
  refine ⟨_, (pss_one (ps_ret (pe_and (pe_callB call_isi (by rfl) misi boot_isinstance (pa_cons (pv 0) (pa_cons (pe_bltn (v := .ty "int") (by rfl) mint boot_int rfl) pa_nil))) (pe_one (pe_not (pe_callB call_isi (by rfl) misi boot_isinstance (pa_cons (pv 0) (pa_cons (pe_bltn (v := .ty "bool") (by rfl) mbool boot_bool rfl) pa_nil)))))))), ?_⟩
  refine ⟨v, rfl, v, .ty "int", _, _, _, rfl, .ty "int", hd.ty, kit_i K d, _, rfl, ?_⟩
  cases d with
  | int i => exact iteT ⟨v, rfl, v, .ty "bool", _, _, _, rfl, .ty "bool", hd.ty, kit_b K _, _, rfl, q⟩
  | bool b => exact iteT ⟨v, rfl, v, .ty "bool", _, _, _, rfl, .ty "bool", hd.ty, kit_b K _, _, rfl, q⟩
  | _ => exact iteF q
/-- a value of the language -/
def isV : PyData → Bool
  | .int i => decide (-LIM ≤ i) && decide (i ≤ LIM)
  | _ => false
abbrev s_is_value : Stmt := topS 6
theorem sc_is_value : FnScope ["thing"] ["thing"] (defScope s_is_value) := ⟨rfl, rfl, rfl, by decide +kernel, rfl, by decide +kernel, by decide +kernel⟩
theorem ok_is_value {f fi : Addr} {fd di : FuncData} {k : Nat} {tl : Tok} (F : Fun K "is_value" "is_value" s_is_value f fd) (G : FnOk P w K mg base CX0 k fi di ["thing"] (sp_is K isI)) (g : mg "is_integer" = some (.ref fi)) (Kf : PySem.W.keepIn K (.ref fi) = true) (b : Binds K di ["thing"] []) (mLIMIT : mg "LIMIT" = some (.int LIM tl)) :
    FnOk P w K mg base CX0 (k + 1) f fd ["thing"] (sp_is K isV) := by
  have nd := sc_is_value.nd
  refine F.ok sc_is_value (fun vs H Q E h => ?_) (fun cdv A outer s H vs Q E hr h => ?_)
  · obtain ⟨v, d, ok, rfl, _⟩ := h
    rfl
  obtain ⟨v, d, ok, rfl, hd, q⟩ := h
  refine ⟨_, (pss_one (ps_ret (pe_and (pe_call G hr (by rfl) g Kf b .nil pass0 (pa_cons (pv 0) pa_nil)) (pe_one (pe_chain op_le op_le (pe_un un_neg (pe_glob (v := .int LIM) rfl mLIMIT ⟨_, rfl⟩)) (pv 0) (pe_glob (v := .int LIM) rfl mLIMIT ⟨_, rfl⟩)))))), ?_⟩
  refine ⟨v, rfl, v, d, ok, rfl, hd, _, rfl, ?_⟩
  cases hd with
  | int i =>
    replace q : Q (.bl (decide (-LIM ≤ i) && decide (i ≤ LIM))) H := q
    refine iteT ⟨LIM, rfl, .int i, rfl, -LIM, i, rfl, rfl, _, rfl, ?_⟩
    cases c : decide (-LIM ≤ i) with
    | true =>
      refine iteT ⟨i, LIM, rfl, rfl, ?_⟩
      rw [c, Bool.true_and] at q
      exact q
    | false =>
      rw [c, Bool.false_and] at q
      exact iteF q
  | _ => exact iteF q
/-! ### names -/
abbrev BARW : List Str := ["key", "if", "at", "count", "sum", "most", "first", "let", "need", "put", "each", "tell"]
def lowC (c : Nat) : Bool := decide (97 ≤ c) && decide (c ≤ 122)
def isN : PyData → Bool
  | .str z => (decide (1 ≤ z.length) && decide (z.length ≤ 8)) && (!decide (z ∈ BARW) && z.cps.toList.all lowC)
  | _ => false
theorem mem26 (c : Nat) : decide (c ∈ L26.cps.toList) = lowC c := by
  rw [Bool.eq_iff_iff, decide_eq_true_eq]
  unfold lowC
  rw [Bool.and_eq_true, decide_eq_true_eq, decide_eq_true_eq]
  constructor
  · exact (show ∀ c, c ∈ L26.cps.toList → 97 ≤ c ∧ c ≤ 122 by decide) c
  · rintro ⟨h1, h2⟩
    have := l26_at (c - 97) (by omega)
    rw [show 97 + (c - 97) = c by omega] at this
    exact List.mem_of_getElem? this
/-- a written tuple of texts -/
def KTx (K : PySem.W.Frag) (p : Addr) (fs : List Str) : Prop := ∀ H, SqT K H p (fs.map V.str)
def Sh (d : PyData) : Prop := ∀ z, d = .str z → z.length ≤ 1000 ∧ PyData.strOk z = true
def sp_isS (K : PySem.W.Frag) (f : PyData → Bool) : Sp := fun vs H Q _ => ∃ (v : V) (d : PyData) (ok : Addr → Prop), vs = [v] ∧ Dd K ok H v d ∧ Sh d ∧ ∀ H', Same H H' → Q (.bl (f d)) H'
theorem take_at {α : Type} {l : List α} {i : Nat} {x : α} (h : l[i]? = some x) : l.take (i + 1) = l.take i ++ [x] := by
  rw [List.take_add_one, h]
  rfl
abbrev s_is_name : Stmt := topS 7
theorem sc_is_name : FnScope ["thing", "sign"] ["thing"] (defScope s_is_name) := ⟨rfl, rfl, rfl, by decide +kernel, rfl, by decide +kernel, by decide +kernel⟩
theorem flat_strsW (W : List Str) : (W.map V.str).all flatV = true := by
  rw [List.all_map, List.all_eq_true]
  intro z _
  rfl
theorem ok_is_name {f aW : Addr} {fd : FuncData} {k : Nat} {tn : Tok} {tl : Tok} (F : Fun K "is_name" "is_name" s_is_name f fd) (misi : mg "isinstance" = none) (mstr : mg "str" = none) (mlen : mg "len" = none) (mall : mg "all" = none)
    (mWORDS : mg "WORDS" = some (.ref aW)) (TW : KTx K aW BARW) (mLONGEST_NAME : mg "LONGEST_NAME" = some (.int 8 tn)) (mLETTERS : mg "LETTERS" = some (.str L26 tl)) : FnOk P w K mg base CX0 (k + 1) f fd ["thing"] (sp_isS K isN) := by
  have nd := sc_is_name.nd
  refine F.ok sc_is_name (fun vs H Q E h => ?_) (fun cdv A outer s H vs Q E hr h => ?_)
  · obtain ⟨v, d, ok, rfl, _⟩ := h
    rfl
  obtain ⟨v, d, ok, rfl, hd, hsh, q⟩ := h
  refine ⟨_, (pss_cons (ps_if (PW.pt (pw_or (pt_not (pt_val (pe_callB call_isi (by rfl) misi boot_isinstance (pa_cons (pv 0) (pa_cons (pe_bltn (v := .ty "str") (by rfl) mstr boot_str rfl) pa_nil)))))
        (pw_or1 (pt_not (pt_chain op_le op_le pe_int (pe_callB call_len_str (by rfl) mlen PySem.boot_len (pa_cons (pv 0) pa_nil)) (pe_glob (v := .int 8) rfl mLONGEST_NAME ⟨_, rfl⟩))))))
      (pss_one (ps_ret pe_bl))
      pss_nil)
      (pss_one (ps_ret (pe_and (pe_cmpR op_notIn_seq (pv 0) (pe_glob (v := .ref aW) rfl mWORDS rfl) (by rfl)) (pe_one (pe_callB (cr_all rfl) (by rfl) mall boot_all (pa_cons (pe_lc (own := [("sign", 1)]) (tt := tYes) (te := tOp (fun x y H Q => ∃ (c : Nat) (z : Str), x = .str ⟨#[c]⟩ ∧ y = .str z ∧ Q (.bl (decide (c ∈ z.cps.toList))) H) (tVar 1) (tC (.str L26))) rfl nd (pi_str (pv 0)) (blkOk_by (N := ["thing", "sign"]) (sc := defScope s_is_name) (by decide +kernel))
        (fun _ _ _ _ _ => (pg_name (i := 1) nd rfl (Or.inl rfl))) (fun _ _ _ _ _ => pts_nil) (fun _ _ _ _ _ => (pe_cmpR op_in_sign (pv 1) (pe_glob (v := .str L26) rfl mLETTERS ⟨_, rfl⟩) (by rfl)))) pa_nil))))))), ?_⟩
  have q0 := q H fun _ _ e => e
  refine ⟨v, rfl, v, .ty "str", _, _, _, rfl, .ty "str", hd.ty, kit_s K d, _, rfl, ?_⟩
  cases hd with
  | str z =>
    have hz := (hsh z rfl).1
    have q1 : ∀ H', Same H H' → Q (.bl ((decide (1 ≤ z.length) && decide (z.length ≤ 8)) && (!decide (z ∈ BARW) && z.cps.toList.all lowC))) H' := q
    have e1 : decide ((1 : Int) ≤ (z.length : Int)) = decide (1 ≤ z.length) := decide_eq_decide.mpr (by omega)
    have e2 : decide ((z.length : Int) ≤ (8 : Int)) = decide (z.length ≤ 8) := decide_eq_decide.mpr (by omega)
    refine iteF ⟨.str z, rfl, z, rfl, h1000 hz, 1, (z.length : Int), rfl, rfl, _, rfl, ?_⟩
    rw [e1]
    cases c1 : decide (1 ≤ z.length) with
    | false =>
      rw [c1, Bool.false_and, Bool.false_and] at q1
      exact iteF ⟨_, rfl, iteT (q1 H fun _ _ e => e)⟩
    | true =>
    rw [c1, Bool.true_and] at q1
    refine iteT ⟨(z.length : Int), 8, rfl, rfl, _, rfl, ?_⟩
    rw [e2]
    cases c2 : decide (z.length ≤ 8) with
    | false =>
      rw [c2, Bool.false_and] at q1
      exact iteT (q1 H fun _ _ e => e)
    | true =>
    rw [c2, Bool.true_and] at q1
    refine iteF ⟨.str z, rfl, aW, BARW.map V.str, rfl, .inr (TW H), rfl, flat_strsW _, _, rfl, ?_⟩
    show if (!inV (.str z) (BARW.map V.str)) = true then _ else _
    rw [in_strs]
    cases c3 : decide (z ∈ BARW) with
    | true =>
      rw [c3] at q1
      exact iteF (q1 H fun _ _ e => e)
    | false =>
    rw [c3, Bool.not_false, Bool.true_and] at q1
    have hlen : z.cps.size ≤ 1000 := hz
    refine iteT ⟨.str z, rfl, z, rfl, fun D nD => ?_⟩
    refine lc_it walk_str (fun i H' => H' D = some (.lst (((z.cps.toList.take i).map lowC).map V.bl)) ∧ ∀ b o, b ≠ D → H b = some o → H' b = some o) ?_ (fun _ _ _ _ => trivial) ?_ ?_
    · exact ⟨upd_same, fun b o nb e => by rw [upd_ne nb]; exact e⟩
    · rintro i x H1 H' hi ⟨hD, kp⟩ ⟨rfl, c, hc, rfl⟩
      have hc' : z.cps.toList[i]? = some c := by rw [Array.getElem?_toList]; exact hc
      refine ⟨rfl, yes_then ⟨.str ⟨#[c]⟩, rfl, c, L26, rfl, rfl, _, hD, small1000 (by rw [List.length_map, List.length_map, List.length_take]; rw [Array.length_toList]; omega), ?_, fun b o nb e => by rw [upd_ne nb]; exact kp b o nb e⟩⟩
      rw [mem26, take_at hc', List.map_append, List.map_append]
      exact upd_same
    · rintro H1 ⟨hD, kp⟩
      have sD : Same H H1 := fun b o e => kp b o (ne_of_none e nD) e
      rw [← Array.length_toList, List.take_length] at hD
      refine ⟨D, z.cps.toList.map lowC, rfl, .inl (.inl hD), ?_⟩
      rw [List.all_map]
      exact q1 H1 sD
  | _ => exact iteT (iteT q0)
end
end L9

namespace L9
open PySem PySem.Spec PyProof.Rows L2 GR AD
/-! ### the form of an expression -/
/-- its word, if it has one -/
def wordV : PyData → V
  | .tuple (.str w :: _) => .str w
  | _ => .non
def fitsD (f : Str) (d : PyData) : Bool := if f = "value" then isV d else if f = "name" then isN d else if f = "position" then (match d with | .int i => decide (0 ≤ i) | _ => false) else if f = "extra" then isTu d else true
/-- the kinds that stand behind a word -/
def look (w : Str) : Option (List Str) := (table.find? fun p => decide (p.1 = w)).map (·.2)
def fitsAll : List Str → List PyData → Bool
  | [], [] => true
  | f :: fs, d :: ds => fitsD f d && fitsAll fs ds
  | _, _ => false
def hasForm : PyData → Bool
  | .tuple (.str w :: r) => (match look w with | some fs => fitsAll fs r | none => false)
  | _ => false
section
variable {P : Program} {w : World} {K : PySem.W.Frag} {mg : Str → Option Value} {base : Heap}
abbrev s_word_of : Stmt := topS 8
theorem sc_word_of : FnScope ["thing"] ["thing"] (defScope s_word_of) := ⟨rfl, rfl, rfl, by decide +kernel, rfl, by decide +kernel, by decide +kernel⟩
def sp_word (K : PySem.W.Frag) : Sp := fun vs H Q _ => ∃ (v : V) (d : PyData) (ok : Addr → Prop), vs = [v] ∧ Dd K ok H v d ∧ Q (wordV d) H
theorem ok_word_of {f : Addr} {fd : FuncData} {k : Nat} (F : Fun K "word_of" "word_of" s_word_of f fd) (misi : mg "isinstance" = none) (mtuple : mg "tuple" = none) (mstr : mg "str" = none) : FnOk P w K mg base CX0 (k + 1) f fd ["thing"] (sp_word K) := by
  have nd := sc_word_of.nd
  refine F.ok sc_word_of (fun vs H Q E h => ?_) (fun cdv A outer s H vs Q E hr h => ?_)
  · obtain ⟨v, d, ok, rfl, _⟩ := h
    rfl
  obtain ⟨v, d, ok, rfl, hd, q⟩ := h
  refine ⟨_, (pss_cons (ps_if (PW.pt (pw_and (pt_val (pe_callB call_isi (by rfl) misi boot_isinstance (pa_cons (pv 0) (pa_cons (pe_bltn (v := .ty "tuple") (by rfl) mtuple boot_tuple rfl) pa_nil)))) (pw_and (pt_truth (pv 0) (fun _ => rfl)) (pw_and1 (pt_val (pe_callB call_isi (by rfl) misi boot_isinstance (pa_cons (pe_ix ix_tup (pv 0) pe_int (fun _ _ => rfl)) (pa_cons (pe_bltn (v := .ty "str") (by rfl) mstr boot_str rfl) pa_nil))))))))
      (pss_one (ps_ret (pe_ix ix_tup (pv 0) pe_int (fun _ _ => rfl))))
      pss_nil)
      (pss_one (ps_ret pe_non))), ?_⟩
  refine ⟨v, rfl, v, .ty "tuple", _, _, _, rfl, .ty "tuple", hd.ty, kit_t K d, _, rfl, ?_⟩
  cases hd with
  | tup hs ha =>
    rename_i a xs ds
    refine iteT ⟨.ref a, rfl, !xs.isEmpty, .inr (.inl ⟨xs, hs, rfl⟩), ?_⟩
    cases ha with
    | nil => exact iteF q
    | cons h1 r1 =>
      rename_i v1 vs1 d1 ds1
      refine iteT ⟨.ref a, rfl, a, _, 0, v1, rfl, rfl, hs, at0, v1, .ty "str", _, _, _, rfl, .ty "str", h1.ty, kit_s K d1, _, rfl, ?_⟩
      cases h1 with
      | str z => exact iteT ⟨.ref a, rfl, a, _, 0, .str z, rfl, rfl, hs, at0, q⟩
      | _ => exact iteF q
  | _ => exact iteF q
abbrev s_fits : Stmt := topS 15
theorem sc_fits : FnScope ["kind", "part"] ["kind", "part"] (defScope s_fits) := ⟨rfl, rfl, rfl, by decide +kernel, rfl, by decide +kernel, by decide +kernel⟩
def sp_fits (K : PySem.W.Frag) : Sp := fun vs H Q _ => ∃ (z : Str) (v : V) (d : PyData) (ok : Addr → Prop), vs = [.str z, v] ∧ Dd K ok H v d ∧ Sh d ∧ ∀ H', Same H H' → Q (.bl (fitsD z d)) H'
theorem ok_fits {f fv fn fi : Addr} {fd dv dn di : FuncData} {k : Nat} (F : Fun K "fits" "fits" s_fits f fd) (Gv : FnOk P w K mg base CX0 k fv dv ["thing"] (sp_is K isV)) (gv : mg "is_value" = some (.ref fv)) (Kv : PySem.W.keepIn K (.ref fv) = true) (bv : Binds K dv ["thing"] [])
    (Gn : FnOk P w K mg base CX0 k fn dn ["thing"] (sp_isS K isN)) (gn : mg "is_name" = some (.ref fn)) (Kn : PySem.W.keepIn K (.ref fn) = true) (bn : Binds K dn ["thing"] [])
    (Gi : FnOk P w K mg base CX0 k fi di ["thing"] (sp_is K isI)) (gi : mg "is_integer" = some (.ref fi)) (Ki : PySem.W.keepIn K (.ref fi) = true) (bi : Binds K di ["thing"] [])
    (misi : mg "isinstance" = none) (mtuple : mg "tuple" = none) : FnOk P w K mg base CX0 (k + 1) f fd ["kind", "part"] (sp_fits K) := by
  have nd := sc_fits.nd
  refine F.ok sc_fits (fun vs H Q E h => ?_) (fun cdv A outer s H vs Q E hr h => ?_)
  · obtain ⟨z, v, d, ok, rfl, _⟩ := h
    rfl
  obtain ⟨z, v, d, ok, rfl, hd, hsh, q⟩ := h
  refine ⟨_, (pss_cons (ps_if (pt_cmpR op_eq (pv 0) pe_str (nomark _)) (pss_one (ps_ret (pe_call Gv hr (by rfl) gv Kv bv .nil pass0 (pa_cons (pv 1) pa_nil)))) pss_nil)
      (pss_cons (ps_if (pt_cmpR op_eq (pv 0) pe_str (nomark _)) (pss_one (ps_ret (pe_call Gn hr (by rfl) gn Kn bn .nil pass0 (pa_cons (pv 1) pa_nil)))) pss_nil)
      (pss_cons (ps_if (pt_cmpR op_eq (pv 0) pe_str (nomark _)) (pss_one (ps_ret (pe_and (pe_call Gi hr (by rfl) gi Ki bi .nil pass0 (pa_cons (pv 1) pa_nil)) (pe_one (pe_cmpR op_ge (pv 1) pe_int (nomark _)))))) pss_nil)
      (pss_cons (ps_if (pt_cmpR op_eq (pv 0) pe_str (nomark _)) (pss_one (ps_ret (pe_callB call_isi (by rfl) misi boot_isinstance (pa_cons (pv 1) (pa_cons (pe_bltn (v := .ty "tuple") (by rfl) mtuple boot_tuple rfl) pa_nil))))) pss_nil)
      (pss_one (ps_ret pe_bl)))))), ?_⟩
  have q0 : Q (.bl (fitsD z d)) H := q H fun _ _ e => e
  unfold fitsD at q q0
  refine ⟨.str z, rfl, rfl, _, rfl, ite2 (fun e1 => ?_) (fun e1 => ?_)⟩
  · have e1 : z = "value" := by simpa using e1
    rw [if_pos e1] at q0
    exact ⟨v, rfl, v, d, ok, rfl, hd, q0⟩
  have e1 : z ≠ "value" := fun x => e1 (by simpa using x)
  rw [if_neg e1] at q0
  simp only [if_neg e1] at q
  refine ⟨.str z, rfl, rfl, _, rfl, ite2 (fun e2 => ?_) (fun e2 => ?_)⟩
  · have e2 : z = "name" := by simpa using e2
    simp only [if_pos e2] at q
    exact ⟨v, rfl, v, d, ok, rfl, hd, hsh, q⟩
  have e2 : z ≠ "name" := fun x => e2 (by simpa using x)
  rw [if_neg e2] at q0
  refine ⟨.str z, rfl, rfl, _, rfl, ite2 (fun e3 => ?_) (fun e3 => ?_)⟩
  · have e3 : z = "position" := by simpa using e3
    rw [if_pos e3] at q0
    refine ⟨v, rfl, v, d, ok, rfl, hd, ?_⟩
    cases hd with
    | int i => exact ⟨true, rfl, iteT ⟨.int i, rfl, i, 0, rfl, rfl, q0⟩⟩
    | _ => exact ⟨false, rfl, iteF q0⟩
  have e3 : z ≠ "position" := fun x => e3 (by simpa using x)
  rw [if_neg e3] at q0
  refine ⟨.str z, rfl, rfl, _, rfl, ite2 (fun e4 => ?_) (fun e4 => ?_)⟩
  · have e4 : z = "extra" := by simpa using e4
    rw [if_pos e4] at q0
    exact ⟨v, rfl, v, .ty "tuple", _, _, _, rfl, .ty "tuple", hd.ty, kit_t K d, q0⟩
  have e4 : z ≠ "extra" := fun x => e4 (by simpa using x)
  rw [if_neg e4] at q0
  exact q0
end
end L9

namespace L9
open PySem PySem.Spec PyProof.Rows L2 GR AD RZ
theorem walk_zipT {K : PySem.W.Frag} {a b : Addr} {xs ys : List V} {n : Nat} (hx : n = xs.length) (hy : n = ys.length) : Walk (ItzT K a b) n (fun H => SqT K H a xs ∧ SqT K H b ys) (YPair (fun i => xs[i]?) (fun i => ys[i]?)) := by
  refine ⟨fun i H hi q => ⟨xs, ys, xs[i]'(by omega), ys[i]'(by omega), q.1, q.2, List.getElem?_eq_getElem _, List.getElem?_eq_getElem _⟩, fun H q => ⟨xs, ys, q.1, q.2, .inl (by omega)⟩, fun i H v H' hi q y => ?_⟩
  obtain ⟨T, x, z, h1, h2, h3, h4, h5⟩ := y
  exact ⟨T, x, z, h1, h2, h3, h4 xs q.1, h5 ys q.2⟩
/-- the table of kinds, as it is written -/
structure Tab (K : PySem.W.Frag) (w : World) (fA : Addr) (es : Array DictEntry) (n : Nat) : Prop where
  at' : K.lookup fA = some ⟨.type "dict", none, .dict es n, #[]⟩
  keys : PySem.W.KeysLit w.params es.toList
  low : (fA == sysModules) = false
  yes : ∀ wd fs, (wd, fs) ∈ table → ∃ p, findBy Value.isStrOf es wd = some (.ref p) ∧ KTx K p fs
  no : ∀ wd, look wd = none → findBy Value.isStrOf es wd = none
theorem look_some {w : Str} {fs : List Str} (h : look w = some fs) : (w, fs) ∈ table := by
  unfold look at h
  obtain ⟨p, hp, rfl⟩ := Option.map_eq_some_iff.mp h
  have h1 := List.find?_some hp
  have h2 := List.mem_of_find?_eq_some hp
  rw [decide_eq_true_eq] at h1
  rw [← h1]
  exact h2
theorem form_some {z : Str} {r : List PyData} {fs : List Str} (h : look z = some fs) : hasForm (.tuple (.str z :: r)) = fitsAll fs r := by
  show (match look z with | some fs => fitsAll fs r | none => false) = _
  rw [h]
theorem form_none {z : Str} {r : List PyData} (h : look z = none) : hasForm (.tuple (.str z :: r)) = false := by
  show (match look z with | some fs => fitsAll fs r | none => false) = _
  rw [h]
theorem fitsAll_len : ∀ {fs : List Str} {ds : List PyData}, fs.length ≠ ds.length → fitsAll fs ds = false
  | [], [], h => absurd rfl h
  | [], _ :: _, _ => rfl
  | _ :: _, [], _ => rfl
  | f :: fs, d :: ds, h => by
    show (fitsD f d && fitsAll fs ds) = false
    rw [fitsAll_len (fs := fs) (ds := ds) (fun e => h (by rw [List.length_cons, List.length_cons, e])), Bool.and_false]
/-- the answers so far -/
def fitsUp (fs : List Str) (ds : List PyData) (i : Nat) : List Bool := ((fs.zip ds).take i).map fun p => fitsD p.1 p.2
theorem fitsAll_zip : ∀ {fs : List Str} {ds : List PyData}, fs.length = ds.length → fitsAll fs ds = ((fs.zip ds).map fun p => fitsD p.1 p.2).all id
  | [], [], _ => rfl
  | f :: fs, d :: ds, h => by
    show (fitsD f d && fitsAll fs ds) = _
    rw [fitsAll_zip (fs := fs) (ds := ds) (by simpa using h), List.zip_cons_cons, List.map_cons, List.all_cons]
    rfl
theorem table_len : ∀ p, p ∈ table → p.2.length ≤ 6 := by decide
theorem dd_at {K : PySem.W.Frag} {ok : Addr → Prop} {H : Hp} : ∀ {vs : List V} {ds : List PyData}, DdAll K ok H vs ds → ∀ {i : Nat} {v : V}, vs[i]? = some v → ∃ d, ds[i]? = some d ∧ Dd K ok H v d
  | _, _, .nil, i, v, h => by simp at h
  | _, _, .cons h1 t, 0, v, h => by cases h; exact ⟨_, rfl, h1⟩
  | _, _, .cons h1 t, i + 1, v, h => by
    obtain ⟨d, e1, e2⟩ := dd_at t (by simpa using h)
    exact ⟨d, by simpa using e1, e2⟩
section
variable {P : Program} {w : World} {K : PySem.W.Frag} {mg : Str → Option Value} {base : Heap}
abbrev s_has_form : Stmt := topS 14
abbrev N_hf : List Str := ["thing", "kinds", "kind", "part"]
theorem sc_has_form : FnScope N_hf ["thing"] (defScope s_has_form) := ⟨rfl, rfl, rfl, by decide +kernel, rfl, by decide +kernel, by decide +kernel⟩
def sp_hf (K : PySem.W.Frag) : Sp := fun vs H Q _ => ∃ (v : V) (d : PyData) (ok : Addr → Prop), vs = [v] ∧ Dd K ok H v d ∧ (∀ ds, d = .tuple ds → ∀ y, y ∈ ds → Sh y) ∧ ∀ H', Same H H' → Q (.bl (hasForm d)) H'
theorem ok_has_form {f fw ff fA : Addr} {fd dw df : FuncData} {k : Nat} {es : Array DictEntry} {n : Nat} (F : Fun K "has_form" "has_form" s_has_form f fd) (Gw : FnOk P w K mg base CX0 k fw dw ["thing"] (sp_word K)) (gw : mg "word_of" = some (.ref fw)) (Kw : PySem.W.keepIn K (.ref fw) = true) (bw : Binds K dw ["thing"] [])
    (Gf : FnOk P w K mg base CX0 k ff df ["kind", "part"] (sp_fits K)) (gf : mg "fits_expressions" = some (.ref ff)) (Kf : PySem.W.keepIn K (.ref ff) = true) (bf : Binds K df ["kind", "part"] [])
    (mFIELDS : mg "FIELDS_expressions" = some (.ref fA)) (T : Tab K w fA es n) (mlen : mg "len" = none) (mzip : mg "zip" = none) (mall : mg "all" = none) : FnOk P w K mg base CX0 (k + 1) f fd ["thing"] (sp_hf K) := by
  have nd := sc_has_form.nd
  refine F.ok sc_has_form (fun vs H Q E h => ?_) (fun cdv A outer s H vs Q E hr h => ?_)
  · obtain ⟨v, d, ok, rfl, _⟩ := h
    rfl
  obtain ⟨v, d, ok, rfl, hd, hsh, q⟩ := h
  refine ⟨_, (pss_cons (ps_set (i := 1) nd rfl (.inl rfl) (FG.pe_kget (pe_glob rfl mFIELDS (v := .ref fA) rfl) (pe_call Gw hr (by rfl) gw Kw bw .nil pass0 (pa_cons (pv 0) pa_nil)) ⟨by rfl, by rfl, by rfl, by rfl⟩))
      (pss_cons (ps_if (PW.pt (pw_or (pt_cmpR op_isN (pv 1) pe_non (nomark _)) (pw_or1 (pt_cmpR op_ne (pe_callB call_len_seq (by rfl) mlen PySem.boot_len (pa_cons (pv 0) pa_nil)) (pe_op op_add pe_int (pe_callB call_len_seq (by rfl) mlen PySem.boot_len (pa_cons (pv 1) pa_nil))) (nomark _)))))
        (pss_one (ps_ret pe_bl))
        pss_nil)
      (pss_one (ps_ret (pe_callB (cr_all rfl) (by rfl) mall boot_all (pa_cons (pe_lc (own := [("kind", 2), ("part", 3)]) (g := gTup K 2 (gCons (gName 2) (gCons (gName 3) gNil))) (tt := tYes) (te := tCall (sp_fits K) [] E0 (tCons (tVar 2) (tCons (tVar 3) tNil))) rfl nd
          (pi_zipA (by rfl) mzip (pa_cons (pv 1) (pa_cons (pe_slice L2.sl_tup (pv 0) (po_some pe_int) po_none) pa_nil))) (blkOk_by (N := N_hf) (sc := defScope s_has_form) (by decide +kernel))
          (fun _ _ _ _ _ => (pg_tup rfl (pgs_cons (pg_name (i := 2) (x := "kind") nd rfl (Or.inl rfl)) (pgs_cons (pg_name (i := 3) (x := "part") nd rfl (Or.inl rfl)) pgs_nil))))
          (fun _ _ _ _ _ => pts_nil) (fun _ _ _ _ _ => (pe_call Gf hr (by rfl) gf Kf bf .nil pass0 (pa_cons (pv 2) (pa_cons (pv 3) pa_nil))))) pa_nil)))))), ?_⟩
  refine ⟨fA, es, n, rfl, T.at', T.keys, T.low, v, rfl, v, d, ok, rfl, hd, ?_⟩
  cases hd with
  | tup hs ha =>
    rename_i a xs ds
    cases ha with
    | nil => exact ⟨.non, .inl ⟨rfl, rfl⟩, .non, rfl, rfl, _, rfl, iteT (iteT (q H fun _ _ e => e))⟩
    | cons h1 r1 =>
      rename_i v1 vs1 d1 ds1
      cases h1 with
      | str z =>
        cases hlk : look z with
        | none =>
          refine ⟨.non, .inr ⟨z, rfl, .inr ⟨T.no z hlk, rfl⟩⟩, .non, rfl, rfl, _, rfl, iteT (iteT ?_)⟩
          have := q H fun _ _ e => e
          rw [form_none hlk] at this
          exact this
        | some fs =>
          have hq : ∀ H', Same H H' → Q (.bl (fitsAll fs ds1)) H' := fun H' s => by
            have := q H' s
            rw [form_some hlk] at this
            exact this
          obtain ⟨p, hp1, hp2⟩ := T.yes z fs (look_some hlk)
          have hlen := r1.len
          have hf6 : fs.length ≤ 6 := table_len _ (look_some hlk)
          refine ⟨.ref p, .inr ⟨z, rfl, .inl ⟨.ref p, hp1, rfl⟩⟩, .ref p, rfl, rfl, _, rfl, ?_⟩
          rw [decide_eq_false (fun z => nomatch z)]
          refine iteF ⟨.ref a, rfl, a, _, rfl, .inr hs, .ref p, rfl, p, _, rfl, .inr (hp2 H), 1, _, rfl, rfl, rfl, _, rfl, ?_⟩
          by_cases c : fs.length = ds1.length
          case neg =>
            rw [fitsAll_len c] at hq
            rw [show (!decide (V.int (((V.str z :: vs1).length : Nat) : Int) = V.int (1 + (((fs.map V.str).length : Nat) : Int)))) = true from by
              rw [decide_eq_false (fun e => c (by injection e with e; rw [List.length_cons, List.length_map] at e; omega))]; rfl]
            exact iteT (hq H fun _ _ e => e)
          rw [show (!decide (V.int (((V.str z :: vs1).length : Nat) : Int) = V.int (1 + (((fs.map V.str).length : Nat) : Int)))) = false from by
            rw [decide_eq_true (by congr 1; rw [List.length_cons, List.length_map]; omega)]; rfl]
          refine iteF ⟨.ref p, rfl, .ref a, rfl, 1, rfl, a, _, rfl, hs, ?_, fun c1 nc => ?_⟩
          · rw [List.length_cons]
            rintro ⟨e, _⟩
            have : HT.sIx (vs1.length + 1) 0 (some 1) = min 1 (vs1.length + 1) := HT.sIx_nat _ _ 1
            rw [this] at e
            omega
          have hcut : cutV (.str z :: vs1) (some 1) none = vs1 := by
            unfold cutV
            rw [HT.sIx_none, show HT.sIx (V.str z :: vs1).length 0 (some 1) = min 1 (V.str z :: vs1).length from HT.sIx_nat _ _ 1, List.length_cons, show min 1 (vs1.length + 1) = 1 by omega, List.drop_succ_cons, List.drop_zero, show vs1.length + 1 - 1 = vs1.length by omega, List.take_length]
          rw [hcut]
          have sc := same_upd (o := .tup vs1) nc
          have hc1 : upd H c1 (.tup vs1) c1 = some (.tup vs1) := upd_same
          revert sc hc1
          generalize upd H c1 (.tup vs1) = H1
          intro sc hc1
          refine ⟨p, c1, fs.map V.str, vs1, rfl, .inr ⟨hp2 H1, .inl (.inl hc1), fun D nD => ?_⟩⟩
          refine lc_it (walk_zipT (xs := fs.map V.str) (ys := vs1) (n := fs.length) (by rw [List.length_map]) (by omega)) (fun i H' => H' D = some (.lst ((fitsUp fs ds1 i).map V.bl)) ∧ ∀ b o, b ≠ D → H1 b = some o → H' b = some o) ?_ ?_ ?_ ?_
          · exact ⟨upd_same, fun b o nb e => by rw [upd_ne nb]; exact e⟩
          · rintro i H' _ ⟨_, kp⟩
            exact ⟨hp2 H', .inl (.inl (kp _ _ (ne_of_none hc1 nD) hc1))⟩
          · rintro i x H2 H' hi ⟨hD, kp⟩ ⟨T1, x1, y1, rfl, hT, rfl, hx1, hy1⟩
            replace hx1 : (fs.map V.str)[i]? = some x1 := hx1
            replace hy1 : vs1[i]? = some y1 := hy1
            rw [List.getElem?_map] at hx1
            obtain ⟨fi, hfi, rfl⟩ := Option.map_eq_some_iff.mp hx1
            have sT := same_upd (o := .tup [.str fi, y1]) hT
            have s12 : Same H1 H2 := fun b o e => kp b o (ne_of_none e nD) e
            have s02 := sc.trans (s12.trans sT)
            obtain ⟨di, hdi, hyd⟩ := dd_at (r1.keep (KeepO.of s02)) hy1
            have hDT := sT _ _ hD
            refine ⟨_, _, rfl, .inl (.inl upd_same), rfl, _, _, rfl, _, _, rfl, rfl, rfl, yes_then ⟨.str fi, rfl, y1, rfl, fi, y1, di, ok, rfl, hyd, hsh _ rfl di (List.mem_cons_of_mem _ (List.mem_of_getElem? hdi)), fun H3 s3 => ⟨_, s3 _ _ hDT, small1000 ?_, ?_, fun b o nb e => ?_⟩⟩⟩
            · unfold fitsUp
              rw [List.length_map, List.length_map, List.length_take]
              omega
            · have hz : (fs.zip ds1)[i]? = some (fi, di) := List.getElem?_zip_eq_some.mpr ⟨hfi, hdi⟩
              unfold fitsUp
              rw [take_at hz, List.map_append, List.map_append]
              exact upd_same
            · rw [upd_ne nb]
              exact s3 _ _ (sT _ _ (kp b o nb e))
          · rintro H2 ⟨hD, kp⟩
            have s12 : Same H1 H2 := fun b o e => kp b o (ne_of_none e nD) e
            have hzl : fs.length = (fs.zip ds1).length := by
              rw [List.length_zip]
              omega
            unfold fitsUp at hD
            rw [hzl, List.take_length] at hD
            refine ⟨D, (fs.zip ds1).map fun p => fitsD p.1 p.2, rfl, .inl (.inl hD), ?_⟩
            rw [← fitsAll_zip c]
            exact hq H2 (sc.trans s12)
      | _ => exact ⟨.non, .inl ⟨rfl, rfl⟩, .non, rfl, rfl, _, rfl, iteT (iteT (q H fun _ _ e => e))⟩
  | _ => exact ⟨.non, .inl ⟨rfl, rfl⟩, .non, rfl, rfl, _, rfl, iteT (iteT (q H fun _ _ e => e))⟩
end
end L9

namespace L9
open PySem PySem.Spec PyProof.Rows L2 GR AD RZ WX
mutual
theorem _root_.AD.Dd.off {K : PySem.W.Frag} {ok : Addr → Prop} {H : Hp} {p : Addr} (n : H p = none) : ∀ {v : V} {d : PyData}, Dd K ok H v d → Dd K (fun b => ok b ∧ b ≠ p) H v d
  | _, _, .non => .non
  | _, _, .bl b => .bl b
  | _, _, .int i => .int i
  | _, _, .str x => .str x
  | _, _, .lst h o q => .lst h ⟨o, ne_of_none h n⟩ (AD.DdAll.off n q)
  | _, _, .tup h q => .tup h (AD.DdAll.off n q)
  | _, _, .dk h o q => .dk h ⟨o, ne_of_none h n⟩ (AD.DdAll.off n q)
theorem _root_.AD.DdAll.off {K : PySem.W.Frag} {ok : Addr → Prop} {H : Hp} {p : Addr} (n : H p = none) : ∀ {vs : List V} {ds : List PyData}, DdAll K ok H vs ds → DdAll K (fun b => ok b ∧ b ≠ p) H vs ds
  | _, _, .nil => .nil
  | _, _, .cons h q => .cons (AD.Dd.off n h) (AD.DdAll.off n q)
end
theorem _root_.AD.DdAll.app {K : PySem.W.Frag} {ok : Addr → Prop} {H : Hp} : ∀ {vs us : List V} {ds es : List PyData}, DdAll K ok H vs ds → DdAll K ok H us es → DdAll K ok H (vs ++ us) (ds ++ es)
  | _, _, _, _, .nil, h => h
  | _, _, _, _, .cons a t, h => .cons a (t.app h)
section
variable {P : Program} {w : World} {K : PySem.W.Frag} {mg : Str → Option Value} {base : Heap}
abbrev s_contained_of : Stmt := topS 19
theorem sc_contained_of : FnScope ["expression", "wanted", "found", "kind", "part"] ["expression", "wanted"] (defScope s_contained_of) := ⟨rfl, rfl, rfl, by decide +kernel, rfl, by decide +kernel, by decide +kernel⟩
def sp_contained_of (K : PySem.W.Frag) : Sp := fun vs H Q _ => ∃ (a wA : Addr) (wd : Str) (fs wanted : List Str) (rest : List PyData) (ok : Addr → Prop), vs = [.ref a, .ref wA] ∧ Dd K ok H (.ref a) (.tuple (.str wd :: rest)) ∧ (wd, fs) ∈ table ∧ Fits fs rest ∧ (pick wanted fs rest).length ≤ 4000000 ∧ SqT K H wA (wanted.map V.str) ∧
  ∀ H' p us, Same H H' → H p = none → H' p = some (.lst us) → DdAll K ok H' us (pick wanted fs rest) → Q (.ref p) H'
theorem wanted_in (f : Str) (W : List Str) : inV (.str f) (W.map V.str) = decide (f ∈ W) := by
  unfold inV
  rw [List.any_map, Bool.eq_iff_iff, List.any_eq_true, decide_eq_true_eq]
  constructor
  · rintro ⟨z, hz, e⟩
    have : eqV (.str z) (.str f) = true := e
    have e2 : z = f := by
      simpa [eqV] using this
    exact e2 ▸ hz
  · intro h
    exact ⟨f, h, by show eqV (.str f) (.str f) = true; simp [eqV]⟩
theorem flat_strs (W : List Str) : (W.map V.str).all flatV = true := by
  rw [List.all_map, List.all_eq_true]
  intro z _
  rfl
theorem ok_contained_of {f fA : Addr} {fd : FuncData} {k : Nat} (F : Fun K "contained_of" "contained_of" s_contained_of f fd) (mFIELDS : mg "FIELDS_expressions" = some (.ref fA)) (T : Flds K w fA) (mzip : mg "zip" = none) :
    FnOk P w K mg base CX0 (k + 1) f fd ["expression", "wanted"] (sp_contained_of K) := by
  have nd := sc_contained_of.nd
  refine F.ok sc_contained_of (fun vs H Q E h => ?_) (fun cdv A outer s H vs Q E hr h => ?_)
  · obtain ⟨a, wA, wd, fs, wanted, rest, ok, rfl, _⟩ := h
    rfl
  obtain ⟨a, wA, wd, fs, wanted, rest, ok, rfl, hd, ht, hfit, hlen, hW, q⟩ := h
  refine ⟨_, (pss_cons (ps_set (i := 2) nd rfl (.inl rfl) (pe_lst pa_nil))
      (pss_cons (ps_for PassesOwn.never rfl (pi_zipA (by rfl) mzip (pa_cons (pe_ix ix_kdict (pe_glob rfl mFIELDS (v := .ref fA) rfl) (pe_ix ix_tup (pv 0) pe_int (fun _ _ => rfl)) (fun _ _ => rfl)) (pa_cons (pe_slice L2.sl_tup (pv 0) (po_some pe_int) po_none) pa_nil))) (pg_tup rfl (pgs_cons (pg_name (i := 3) nd rfl (Or.inl rfl)) (pgs_cons (pg_name (i := 4) nd rfl (Or.inl rfl)) pgs_nil)))
      (pss_one (ps_if (pt_cmpR op_eq (pv 3) pe_str (nomark _))
        (pss_one (ps_expr (pe_bm PySem.F.plainAttrs_list PySem.F.slot_list_extend PySem.F.type_list_extend mt_extendT (pv 2) (pa_cons (pv 4) pa_nil))))
        (pss_one (ps_if (pt_cmpR op_in_seq (pv 3) (pv 1) (by rfl))
          (pss_one (ps_expr (pe_bm PySem.F.plainAttrs_list PySem.F.slot_list_append PySem.F.type_list_append mt_append (pv 2) (pa_cons (pv 4) pa_nil))))
          pss_nil)))))
      (pss_one (ps_ret (pv 2))))), ?_⟩
  cases hd with
  | tup hS hA =>
  cases hA with
  | cons hw hA =>
  cases hw
  rename_i vs0
  obtain ⟨fp, hK, hF⟩ := T wd fs ht
  have hl0 := hA.len
  refine ⟨Nat.zero_le _, fun fo nfo => ?_⟩
  have sf := same_upd (o := .lst []) nfo
  refine ⟨.ref a, rfl, a, _, 0, .str wd, rfl, rfl, (KeepT.of sf).seqt hS, at0, fA, wd, .ref fp, rfl, rfl, hK, .ref a, rfl, 1, rfl, a, _, rfl, (KeepT.of sf).seqt hS, ?_, fun c nc => ?_⟩
  · rw [List.length_cons]
    rintro ⟨e, _⟩
    have : HT.sIx (vs0.length + 1) 0 (some 1) = min 1 (vs0.length + 1) := HT.sIx_nat _ _ 1
    rw [this] at e
    omega
  have hcut : cutV (.str wd :: vs0) (some 1) none = vs0 := by
    unfold cutV
    rw [HT.sIx_none, show HT.sIx (V.str wd :: vs0).length 0 (some 1) = min 1 (V.str wd :: vs0).length from HT.sIx_nat _ _ 1, List.length_cons, show min 1 (vs0.length + 1) = 1 by omega, List.drop_succ_cons, List.drop_zero, show vs0.length + 1 - 1 = vs0.length by omega, List.take_length]
  rw [hcut]
  have sc := same_upd (o := .tup vs0) nc
  have hc1 : upd (upd H fo (.lst [])) c (.tup vs0) c = some (.tup vs0) := upd_same
  have hf1 := sc _ _ (show upd H fo (.lst []) fo = _ from upd_same)
  have s2 := sf.trans sc
  revert hc1 hf1 s2
  generalize upd (upd H fo (.lst [])) c (.tup vs0) = H1
  intro hc1 hf1 s2
  have hl : (fs.map V.str).length = vs0.length := by rw [List.length_map, hfit.len, hl0]
  refine ⟨fp, c, fs.map V.str, vs0, rfl, .inr ⟨hF H1, .inl (.inl hc1), ?_⟩⟩
  refine for_zipT hl (fun i σ H' => ∃ (y3 y4 : Option V) (us : List V), σ = [some (.ref a), some (.ref wA), some (.ref fo), y3, y4] ∧ H' fo = some (.lst us) ∧ DdAll K (fun b => ok b ∧ b ≠ fo) H' us (pick wanted (fs.take i) (rest.take i)) ∧ (∀ b o, b ≠ fo → H1 b = some o → H' b = some o)) ?_ ?_ ?_ ?_
  · refine ⟨none, none, [], rfl, hf1, ?_, fun b o _ e => e⟩
    simp only [List.take_zero, pick]
    exact .nil
  · rintro i σ H' ⟨y3, y4, us, rfl, hu, hdp, kk⟩
    exact ⟨hF H', .inl (.inl (kk _ _ (ne_of hc1 hf1 (fun z => by cases z)) hc1))⟩
  · rintro i x y t σ H' hx hy ⟨y3, y4, us, rfl, hu, hdp, kk⟩ nt
    rw [List.getElem?_map] at hx
    obtain ⟨fi, hfi, rfl⟩ : ∃ fi, fs[i]? = some fi ∧ x = .str fi := by
      cases e : fs[i]? with
      | none =>
        rw [e] at hx
        cases hx
      | some fi =>
        rw [e] at hx
        cases hx
        exact ⟨fi, rfl, rfl⟩
    obtain ⟨di, hdi, hyd⟩ := dd_at (hA.off nfo) hy
    have st := same_upd (o := .tup [.str fi, y]) nt
    have kt : KeepT H (upd H' t (.tup [.str fi, y])) := ⟨fun b xs e => st _ _ (kk _ _ (ne_of_none e nfo) (s2 _ _ e)), fun b o xs e => st _ _ (kk _ _ (ne_of_none e nfo) (s2 _ _ e))⟩
    have ko : KeepO (fun b => ok b ∧ b ≠ fo) H (upd H' t (.tup [.str fi, y])) := ⟨kt.1, kt.2, fun b o hb e => st _ _ (kk _ _ hb.2 (s2 _ _ e))⟩
    have hyd2 := hyd.keep ko
    have hu2 := st _ _ hu
    have ntf : t ≠ fo := (ne_of_none hu nt).symm
    have hp : pick wanted (fs.take (i + 1)) (rest.take (i + 1)) = pick wanted (fs.take i) (rest.take i) ++ pick1 wanted fi di := pick_take wanted i hfi hdi
    have hl2 := pick_len wanted (fs := fs) (ds := rest) (i + 1)
    have hlu := hdp.len
    rw [hp, List.length_append] at hl2
    -- what is put behind us
    have turn : ∀ zs' : List V, DdAll K (fun b => ok b ∧ b ≠ fo) (upd H' t (.tup [.str fi, y])) zs' (pick1 wanted fi di) → ∃ (z3 z4 : Option V) (us' : List V), [some (.ref a), some (.ref wA), some (.ref fo), some (.str fi), some y] = [some (.ref a), some (.ref wA), some (.ref fo), z3, z4] ∧
        upd (upd H' t (.tup [.str fi, y])) fo (.lst (us ++ zs')) fo = some (.lst us') ∧ DdAll K (fun b => ok b ∧ b ≠ fo) (upd (upd H' t (.tup [.str fi, y])) fo (.lst (us ++ zs'))) us' (pick wanted (fs.take (i + 1)) (rest.take (i + 1))) ∧ (∀ b o, b ≠ fo → H1 b = some o → upd (upd H' t (.tup [.str fi, y])) fo (.lst (us ++ zs')) b = some o) := by
      intro zs' hz
      have k2 : KeepT (upd H' t (.tup [.str fi, y])) (upd (upd H' t (.tup [.str fi, y])) fo (.lst (us ++ zs'))) := KeepT.lst hu2
      refine ⟨_, _, us ++ zs', rfl, upd_same, ?_, fun b o hb e => ?_⟩
      · rw [hp]
        have ko2 : KeepO (fun b => ok b ∧ b ≠ fo) (upd H' t (.tup [.str fi, y])) (upd (upd H' t (.tup [.str fi, y])) fo (.lst (us ++ zs'))) := ⟨k2.1, k2.2, fun b o hb e => by rw [upd_ne hb.2]; exact e⟩
        exact ((hdp.keep (KeepO.of st)).keep ko2).app (hz.keep ko2)
      · rw [upd_ne hb]
        exact st _ _ (kk b o hb e)
    refine ⟨t, [.str fi, y], rfl, .inl (.inl upd_same), rfl, _, _, rfl, _, _, rfl, rfl, ?_⟩
    refine ⟨.str fi, rfl, rfl, _, rfl, ite2 (fun e1 => ?_) (fun e1 => ?_)⟩
    · have e1 : fi = "extra" := by simpa using e1
      subst e1
      obtain ⟨xs, rfl⟩ := hfit.at' hfi hdi
      cases hyd2 with
      | tup hys hyA =>
      rename_i ya zs'
      have hz := hyA.len
      refine ⟨.ref fo, rfl, .inl ⟨rfl, _, .inl (.inl hu2)⟩, .ref ya, rfl, fo, ya, us, zs', rfl, rfl, hu2, hys, ?_, turn zs' ?_⟩
      · rw [hlu, hz]
        unfold pick1 at hl2
        rw [if_pos rfl, items] at hl2
        exact Nat.le_trans (show _ ≤ 4000000 by omega) (by rw [sizeLine_eq]; decide)
      · unfold pick1
        rw [if_pos rfl]
        exact hyA
    · have e1 : fi ≠ "extra" := fun z => e1 (by simpa using z)
      refine ⟨.str fi, rfl, .ref wA, rfl, wA, wanted.map V.str, rfl, .inr ((KeepT.trans ⟨fun b xs e => kk _ _ (ne_of_none e nfo) (s2 _ _ e), fun b o xs e => kk _ _ (ne_of_none e nfo) (s2 _ _ e)⟩ (KeepT.of st)).seqt hW), rfl, flat_strs wanted, _, rfl, ?_⟩
      rw [wanted_in]
      refine ite2 (fun e2 => ?_) (fun e2 => ?_)
      · have e2 : fi ∈ wanted := by simpa using e2
        refine ⟨.ref fo, rfl, .inl ⟨rfl, _, .inl (.inl hu2)⟩, y, rfl, fo, _, _, rfl, rfl, hu2, ?_, turn [y] ?_⟩
        · rw [hlu]
          exact Nat.lt_of_le_of_lt (show _ ≤ 4000000 by omega) (by rw [sizeLine_eq]; decide)
        · unfold pick1
          rw [if_neg e1, if_pos e2]
          exact .cons hyd2 .nil
      · have e2 : fi ∉ wanted := fun z => e2 (by simpa using z)
        refine ⟨_, _, us, rfl, hu2, ?_, fun b o hb e => st _ _ (kk b o hb e)⟩
        rw [hp]
        unfold pick1
        rw [if_neg e1, if_neg e2, List.append_nil]
        exact hdp.keep (KeepO.of st)
  · rintro σ H' ⟨y3, y4, us, rfl, hu, hdp, kk⟩
    have e1 : fs.take (fs.map V.str).length = fs := by rw [List.length_map, List.take_length]
    have e2 : rest.take (fs.map V.str).length = rest := by rw [List.length_map, hfit.len, List.take_length]
    rw [e1, e2] at hdp
    refine ⟨.ref fo, rfl, q H' fo us (fun b o e => kk _ _ (ne_of_none e nfo) (s2 _ _ e)) nfo hu (hdp.mono fun _ h => h.1)⟩
end
end L9

namespace L9
open PySem PySem.Spec PyProof.Rows L2 GR AD RZ WX
/-! ### expressions among any data -/
abbrev W2 : List Str := ["free", "bound"]
/-- what an expression of good form contains -/
def kidsE : PyData → List PyData
  | .tuple (.str w :: r) => (match look w with | some fs => pick W2 fs r | none => [])
  | _ => []
mutual
/-- its size, and that its texts are short -/
def sz : PyData → Nat
  | .tuple ds => 1 + szs ds
  | _ => 1
def szs : List PyData → Nat
  | [] => 0
  | d :: ds => sz d + szs ds
end
mutual
def shB : PyData → Bool
  | .tuple ds => shBs ds
  | .str z => decide (z.length ≤ 1000) && PyData.strOk z
  | _ => true
def shBs : List PyData → Bool
  | [] => true
  | d :: ds => shB d && shBs ds
end
theorem shBs_mem : ∀ {ds : List PyData}, shBs ds = true → ∀ d, d ∈ ds → shB d = true
  | [], _, d, h => (nomatch h)
  | x :: ds, h, d, hd => by
    rw [shBs, Bool.and_eq_true] at h
    rcases List.mem_cons.mp hd with rfl | hd
    · exact h.1
    · exact shBs_mem h.2 d hd
theorem shB_sh {d : PyData} (h : shB d = true) : Sh d := fun z e => by
  subst e
  rw [shB, Bool.and_eq_true] at h
  exact ⟨of_decide_eq_true h.1, h.2⟩
theorem shB_items {d : PyData} (h : shB d = true) : ∀ y, y ∈ items d → shB y = true := by
  cases d with
  | tuple ds => exact shBs_mem (by rw [shB] at h; exact h)
  | _ => exact fun y hy => (nomatch hy)
theorem sz_pos : ∀ d : PyData, 1 ≤ sz d
  | .tuple ds => by rw [sz]; omega
  | .none => Nat.le_refl 1
  | .bool _ => Nat.le_refl 1
  | .int _ => Nat.le_refl 1
  | .str _ => Nat.le_refl 1
  | .list _ => Nat.le_refl 1
  | .dict _ => Nat.le_refl 1
theorem szs_append : ∀ a b : List PyData, szs (a ++ b) = szs a + szs b
  | [], b => by rw [List.nil_append, szs, Nat.zero_add]
  | x :: a, b => by rw [List.cons_append, szs, szs, szs_append a b]; omega
theorem szs_len : ∀ a : List PyData, a.length ≤ szs a
  | [] => Nat.zero_le _
  | x :: a => by
    have := szs_len a
    have := sz_pos x
    rw [List.length_cons, szs]
    omega
theorem szs_items : ∀ d : PyData, szs (items d) ≤ sz d
  | .tuple ds => by rw [items, sz]; omega
  | .none => Nat.zero_le _
  | .bool _ => Nat.zero_le _
  | .int _ => Nat.zero_le _
  | .str _ => Nat.zero_le _
  | .list _ => Nat.zero_le _
  | .dict _ => Nat.zero_le _
theorem szs_pick (W : List Str) : ∀ (fs : List Str) (ds : List PyData), szs (pick W fs ds) ≤ szs ds
  | [], _ => by rw [pick]; exact Nat.zero_le _; all_goals simp
  | f :: fs, [] => by rw [pick]; exact Nat.zero_le _; all_goals simp
  | f :: fs, d :: ds => by
    have h1 := szs_pick W fs ds
    have h2 := szs_items d
    rw [pick, szs_append, szs]
    split
    · omega
    · split
      · rw [szs, szs]; omega
      · rw [szs]; omega
theorem pick_sh (W : List Str) : ∀ {fs : List Str} {ds : List PyData}, (∀ d, d ∈ ds → shB d = true) → ∀ y, y ∈ pick W fs ds → shB y = true
  | [], _, _, y, hy => by rw [pick] at hy; exact (nomatch hy); all_goals simp
  | f :: fs, [], _, y, hy => by rw [pick] at hy; exact (nomatch hy); all_goals simp
  | f :: fs, d :: ds, h, y, hy => by
    rw [pick] at hy
    rcases List.mem_append.mp hy with hy | hy
    · split at hy
      · exact shB_items (h d List.mem_cons_self) y hy
      · split at hy
        · rw [List.mem_singleton.mp hy]
          exact h d List.mem_cons_self
        · exact (nomatch hy)
    · exact pick_sh W (fun x hx => h x (List.mem_cons_of_mem _ hx)) y hy
theorem kids_sz (d : PyData) (h : hasForm d = true) : szs (kidsE d) < sz d ∧ (shB d = true → ∀ y, y ∈ kidsE d → shB y = true) ∧ ∃ w fs r, d = .tuple (.str w :: r) ∧ look w = some fs ∧ fitsAll fs r = true ∧ kidsE d = pick W2 fs r := by
  unfold hasForm at h
  split at h
  · rename_i w r
    split at h
    · rename_i fs hl
      have e : kidsE (.tuple (.str w :: r)) = pick W2 fs r := by
        show (match look w with | some fs => pick W2 fs r | none => []) = _
        rw [hl]
      refine ⟨?_, fun hs => ?_, w, fs, r, rfl, hl, h, e⟩
      · rw [e, sz, szs]
        have := szs_pick W2 fs r
        omega
      · rw [e]
        rw [shB] at hs
        exact pick_sh W2 fun d hd => shBs_mem hs d (List.mem_cons_of_mem _ hd)
    · cases h
  · cases h
/-- an expression, looked at n deep -/
def isE : Nat → PyData → Bool
  | 0, _ => false
  | n + 1, d => hasForm d && (kidsE d).all (isE n)
theorem sz_mem : ∀ {l : List PyData} {y : PyData}, y ∈ l → sz y ≤ szs l
  | x :: l, y, h => by
    rw [szs]
    rcases List.mem_cons.mp h with rfl | h
    · omega
    · have := sz_mem h
      omega
theorem isE_same : ∀ {n m : Nat} {d : PyData}, sz d ≤ n → sz d ≤ m → isE n d = isE m d
  | 0, _, d, h, _ => by have := sz_pos d; omega
  | _ + 1, 0, d, _, h => by have := sz_pos d; omega
  | n + 1, m + 1, d, h1, h2 => by
    rw [isE, isE]
    cases hf : hasForm d with
    | false => rfl
    | true =>
      have hk := (kids_sz d hf).1
      rw [Bool.true_and, Bool.true_and, Bool.eq_iff_iff, List.all_eq_true, List.all_eq_true]
      have key : ∀ y, y ∈ kidsE d → isE n y = isE m y := fun y hy => by
        have := sz_mem hy
        exact isE_same (by omega) (by omega)
      exact ⟨fun g y hy => by rw [← key y hy]; exact g y hy, fun g y hy => by rw [key y hy]; exact g y hy⟩
def isX (d : PyData) : Bool := isE (sz d) d
theorem isX_step (d : PyData) : isX d = (hasForm d && (kidsE d).all isX) := by
  unfold isX
  have hp := sz_pos d
  obtain ⟨n, hn⟩ : ∃ n, sz d = n + 1 := ⟨sz d - 1, by omega⟩
  rw [hn, isE]
  cases hf : hasForm d with
  | false => rfl
  | true =>
    have hk := (kids_sz d hf).1
    rw [Bool.true_and, Bool.true_and, Bool.eq_iff_iff, List.all_eq_true, List.all_eq_true]
    have key : ∀ y, y ∈ kidsE d → isE n y = isE (sz y) y := fun y hy => by
      have := sz_mem hy
      exact isE_same (by omega) (Nat.le_refl _)
    exact ⟨fun g y hy => by rw [← key y hy]; exact g y hy, fun g y hy => by rw [key y hy]; exact g y hy⟩
theorem fits_of : ∀ {fs : List Str} {ds : List PyData}, fitsAll fs ds = true → Fits fs ds
  | [], [], _ => .nil
  | [], _ :: _, h => by cases h
  | _ :: _, [], h => by cases h
  | f :: fs, d :: ds, h => by
    have h' : (fitsD f d && fitsAll fs ds) = true := h
    rw [Bool.and_eq_true] at h'
    refine .cons (fun e => ?_) (fits_of h'.2)
    subst e
    have := h'.1
    unfold fitsD at this
    rw [if_neg (by decide), if_neg (by decide), if_neg (by decide), if_pos rfl] at this
    cases d with
    | tuple xs => exact ⟨xs, rfl⟩
    | _ => cases this
end L9

namespace L9
open PySem PySem.Spec PyProof.Rows L2 GR AD RZ WX
theorem dd_split {K : PySem.W.Frag} {ok : Addr → Prop} {H : Hp} : ∀ {us ws : List V} {xs : List PyData}, DdAll K ok H (us ++ ws) xs → ∃ d1 d2, xs = d1 ++ d2 ∧ DdAll K ok H us d1 ∧ DdAll K ok H ws d2
  | [], ws, xs, h => ⟨[], xs, rfl, .nil, h⟩
  | u :: us, ws, _, .cons h t => by
    obtain ⟨d1, d2, rfl, h1, h2⟩ := dd_split t
    exact ⟨_ :: d1, d2, rfl, .cons h h1, h2⟩
theorem dd_last {K : PySem.W.Frag} {ok : Addr → Prop} {H : Hp} {us : List V} {xs : List PyData} (h : DdAll K ok H us xs) (hne : us ≠ []) : ∃ y d xs', xs = xs' ++ [d] ∧ us[us.length - 1]? = some y ∧ DdAll K ok H us.dropLast xs' ∧ Dd K ok H y d := by
  have e := List.dropLast_concat_getLast hne
  rw [← e] at h
  obtain ⟨d1, d2, rfl, g1, g2⟩ := dd_split h
  cases g2 with
  | cons g3 g4 =>
  cases g4
  refine ⟨us.getLast hne, _, d1, rfl, ?_, g1, g3⟩
  rw [← List.getLast?_eq_getElem?, List.getLast?_eq_getLast hne]
section
variable {P : Program} {w : World} {K : PySem.W.Frag} {mg : Str → Option Value} {base : Heap}
abbrev s_contained : Stmt := topS 17
theorem sc_contained : FnScope ["expression"] ["expression"] (defScope s_contained) := ⟨rfl, rfl, rfl, by decide +kernel, rfl, by decide +kernel, by decide +kernel⟩
def sp_contained (K : PySem.W.Frag) : Sp := fun vs H Q _ => ∃ (v : V) (d : PyData) (ok : Addr → Prop), vs = [v] ∧ Dd K ok H v d ∧ hasForm d = true ∧ (kidsE d).length ≤ 4000000 ∧ ∀ H' p us, Same H H' → H p = none → H' p = some (.lst us) → DdAll K ok H' us (kidsE d) → Q (.ref p) H'
theorem ok_contained {f fc aP : Addr} {fd dc : FuncData} {k : Nat} (F : Fun K "contained" "contained" s_contained f fd) (Gc : FnOk P w K mg base CX0 k fc dc ["expression", "wanted"] (sp_contained_of K)) (gc : mg "contained_of" = some (.ref fc)) (Kc : PySem.W.keepIn K (.ref fc) = true) (bc : Binds K dc ["expression", "wanted"] [])
    (mALL : mg "ALL_PARTS" = some (.ref aP)) (TA : KTx K aP W2) : FnOk P w K mg base CX0 (k + 1) f fd ["expression"] (sp_contained K) := by
  have nd := sc_contained.nd
  refine F.ok sc_contained (fun vs H Q E h => ?_) (fun cdv A outer s H vs Q E hr h => ?_)
  · obtain ⟨v, d, ok, rfl, _⟩ := h
    rfl
  obtain ⟨v, d, ok, rfl, hd, hf, hl, q⟩ := h
  refine ⟨_, (pss_one (ps_ret (pe_call Gc hr (by rfl) gc Kc bc .nil pass0 (pa_cons (pv 0) (pa_cons (pe_glob (v := .ref aP) rfl mALL rfl) pa_nil))))), ?_⟩
  obtain ⟨_, _, w', fs, r, rfl, hlk, hfit, hk⟩ := kids_sz d hf
  rw [hk] at q hl
  cases hd with
  | tup hs ha =>
  exact ⟨_, rfl, _, aP, w', fs, W2, r, ok, rfl, .tup hs ha, look_some hlk, fits_of hfit, hl, TA H, q⟩
abbrev s_is_expression : Stmt := topS 13
theorem sc_is_expression : FnScope ["thing", "todo", "part"] ["thing"] (defScope s_is_expression) := ⟨rfl, rfl, rfl, by decide +kernel, rfl, by decide +kernel, by decide +kernel⟩
/-- what is still to do: the list at td -/
def XInv (K : PySem.W.Frag) (ok : Addr → Prop) (d : PyData) (v : V) (td : Addr) (H0 : Hp) (m : Nat) (σ : L2.St) (H : Hp) : Prop :=
  ∃ (z : Option V) (us : List V) (xs : List PyData), σ = [some v, some (.ref td), z] ∧ H td = some (.lst us) ∧ DdAll K (fun b => ok b ∧ b ≠ td) H us xs ∧ (∀ y, y ∈ xs → shB y = true) ∧ m = szs xs ∧ m ≤ 4000000 ∧ isX d = xs.all isX ∧ (∀ b o, b ≠ td → H0 b = some o → H b = some o)
def sp_isx (K : PySem.W.Frag) : Sp := fun vs H Q _ => ∃ (v : V) (d : PyData) (ok : Addr → Prop), vs = [v] ∧ Dd K ok H v d ∧ shB d = true ∧ sz d ≤ 4000000 ∧ ∀ H', Same H H' → Q (.bl (isX d)) H'
theorem ok_is_expression {f fh fc : Addr} {fd dh dc : FuncData} {k : Nat} (F : Fun K "is_expression" "is_expression" s_is_expression f fd) (Gh : FnOk P w K mg base CX0 k fh dh ["thing"] (sp_hf K)) (gh : mg "has_form" = some (.ref fh)) (Kh : PySem.W.keepIn K (.ref fh) = true) (bh : Binds K dh ["thing"] [])
    (Gc : FnOk P w K mg base CX0 k fc dc ["expression"] (sp_contained K)) (gc : mg "contained" = some (.ref fc)) (Kc : PySem.W.keepIn K (.ref fc) = true) (bc : Binds K dc ["expression"] []) :
    FnOk P w K mg base CX0 (k + 1) f fd ["thing"] (sp_isx K) := by
  have nd := sc_is_expression.nd
  refine F.ok sc_is_expression (fun vs H Q E h => ?_) (fun cdv A outer s H vs Q E hr h => ?_)
  · obtain ⟨v, d, ok, rfl, _⟩ := h
    rfl
  obtain ⟨v, d, ok, rfl, hd, hsh, hsz, q⟩ := h
  refine ⟨_, (pss_cons (ps_set (i := 1) nd rfl (.inl rfl) (pe_lst (pa_cons (pv 0) pa_nil)))
      (pss_cons (ps_while PassesOwn.never (pt_truth (pv 1) (fun _ => rfl))
      (pss_cons (ps_set (i := 2) nd rfl (.inl rfl) (pe_bm0 PySem.F.plainAttrs_list PySem.F.slot_list_pop PySem.F.type_list_pop mt_pop (pv 1)))
        (pss_cons (ps_if (pt_not (pt_val (pe_call Gh hr (by rfl) gh Kh bh .nil pass0 (pa_cons (pv 2) pa_nil))))
        (pss_one (ps_ret pe_bl))
        pss_nil)
        (pss_one (ps_expr (pe_bm PySem.F.plainAttrs_list PySem.F.slot_list_extend PySem.F.type_list_extend mt_extend (pv 1) (pa_cons (pe_call Gc hr (by rfl) gc Kc bc .nil pass0 (pa_cons (pv 2) pa_nil)) pa_nil)))))))
      (pss_one (ps_ret pe_bl)))), ?_⟩
  refine ⟨v, rfl, small_le (show 1 ≤ 1000 by decide), fun td ntd => ?_⟩
  have sl := same_upd (o := .lst [v]) ntd
  refine ⟨XInv K ok d v td H, ⟨szs [d], none, [v], [d], rfl, upd_same, .cons ((hd.off ntd).keep (KeepO.of sl)) .nil, ?_, rfl, ?_, ?_, fun b o _ e => sl _ _ e⟩, ?_⟩
  · intro y hy
    rw [List.mem_singleton.mp hy]
    exact hsh
  · rw [szs, szs]
    omega
  · rw [List.all_cons, List.all_nil, Bool.and_true]
  · rintro m σ H' ⟨z, us, xs, rfl, hu, hA, hE, rfl, hm, hf, kk⟩
    have lu := hA.len
    have fin : ∀ H2, (∀ b o, b ≠ td → H' b = some o → H2 b = some o) → Same H H2 := fun H2 s2 b o e => s2 _ _ (ne_of_none e ntd) (kk _ _ (ne_of_none e ntd) e)
    refine ⟨.ref td, rfl, !us.isEmpty, .inl ⟨us, .inl (.inl hu), rfl⟩, ?_⟩
    cases hus : us with
    | nil =>
      subst hus
      cases hA
      rw [List.all_nil] at hf
      refine iteF ?_
      have := q H' (fin H' fun b o _ e => e)
      rw [hf] at this
      exact this
    | cons u0 ur =>
      have hne : us ≠ [] := by
        rw [hus]
        exact List.cons_ne_nil _ _
      rw [← hus]
      have full : (!us.isEmpty) = true := by
        rw [hus]
        rfl
      rw [full]
      obtain ⟨y, e, xs', rfl, hy, hA', hyd⟩ := dd_last hA hne
      have hsy := hE e (List.mem_append_right _ (List.mem_singleton.mpr rfl))
      have hE' : ∀ y, y ∈ xs' → shB y = true := fun y hy => hE y (List.mem_append_left _ hy)
      have hpos := sz_pos e
      have hse : szs (xs' ++ [e]) = szs xs' + sz e := by rw [szs_append, szs, szs]; omega
      rw [hse] at hm
      rw [List.all_append, List.all_cons, List.all_nil, Bool.and_true, isX_step e] at hf
      refine iteT ⟨fun σ' H'' => ∃ m', m' < szs (xs' ++ [e]) ∧ XInv K ok d v td H m' σ' H'', fun σ' H'' h => h, ?_⟩
      refine ⟨.ref td, rfl, .inl ⟨rfl, _, .inl (.inl hu)⟩, td, us, y, rfl, rfl, hu, hy, ?_⟩
      have ko1 : KeepO (fun b => ok b ∧ b ≠ td) H' (upd H' td (.lst us.dropLast)) := ⟨(KeepT.lst hu).1, (KeepT.lst hu).2, fun b o hb e => by rw [upd_ne hb.2]; exact e⟩
      have hu1 : upd H' td (.lst us.dropLast) td = some (.lst us.dropLast) := upd_same
      have keep1 : ∀ b o, b ≠ td → H' b = some o → upd H' td (.lst us.dropLast) b = some o := fun b o hb e => by
        rw [upd_ne hb]
        exact e
      have hA1 := hA'.keep ko1
      have hyd1 := hyd.keep ko1
      revert hu1 keep1 hA1 hyd1
      generalize upd H' td (.lst us.dropLast) = H1
      intro hu1 keep1 hA1 hyd1
      refine ⟨y, rfl, y, e, _, rfl, hyd1, fun ds he z hz => shB_sh (shBs_mem (by subst he; rw [shB] at hsy; exact hsy) z hz), fun H2 s2 => ⟨_, rfl, ?_⟩⟩
      have keep2 : ∀ b o, b ≠ td → H' b = some o → H2 b = some o := fun b o hb e => s2 _ _ (keep1 b o hb e)
      cases hff : hasForm e with
      | false =>
        rw [hff, Bool.false_and, Bool.and_false] at hf
        have := q H2 (fin H2 keep2)
        rw [hf] at this
        exact iteT this
      | true =>
        rw [hff, Bool.true_and, ← List.all_append] at hf
        obtain ⟨hk1, hk2, _⟩ := kids_sz e hff
        have hkl := szs_len (kidsE e)
        have hA2 := hA1.keep (KeepO.of s2)
        have hu2 := s2 _ _ hu1
        refine iteF ⟨.ref td, rfl, .inl ⟨rfl, _, .inl (.inl hu2)⟩, y, rfl, y, e, _, rfl, hyd1.keep (KeepO.of s2), hff, by omega, fun H3 p us2 s3 np hp hus2 => ?_⟩
        have htd3 := s3 _ _ hu2
        have l1 := hA2.len
        have l2 := hus2.len
        have hxl := szs_len xs'
        have ko3 : KeepO (fun b => ok b ∧ b ≠ td) H3 (upd H3 td (.lst (us.dropLast ++ us2))) := ⟨(KeepT.lst htd3).1, (KeepT.lst htd3).2, fun b o hb e => by rw [upd_ne hb.2]; exact e⟩
        refine ⟨td, p, us.dropLast, us2, rfl, rfl, htd3, hp, ?_, szs (xs' ++ kidsE e), ?_, some y, us.dropLast ++ us2, xs' ++ kidsE e, rfl, upd_same, ?_, ?_, rfl, ?_, hf, fun b o hb e => ?_⟩
        · rw [l1, l2]
          exact Nat.le_trans (show _ ≤ 8000000 by omega) (by rw [sizeLine_eq]; decide)
        · rw [szs_append, hse]
          omega
        · exact ((hA2.keep (KeepO.of s3)).keep ko3).app (hus2.keep ko3)
        · intro z hz
          rcases List.mem_append.mp hz with hz | hz
          · exact hE' z hz
          · exact hk2 hsy z hz
        · rw [szs_append]
          omega
        · rw [upd_ne hb]
          exact s3 _ _ (keep2 b o hb (kk _ _ hb e))
end
end L9

namespace L9
open PySem PySem.Spec PyProof.Rows L2 GR AD RZ WX
/-! ### what is true of each part of an expression -/
theorem kidsE_sz (d : PyData) : szs (kidsE d) < sz d := by
  unfold kidsE
  split
  · rename_i w r
    rw [sz, szs]
    split
    · have := szs_pick W2 ‹_› r
      omega
    · rw [szs]
      omega
  · exact Nat.lt_of_lt_of_le (show szs [] < 1 by rw [szs]; omega) (sz_pos d)
def allE (q : PyData → Bool) : Nat → PyData → Bool
  | 0, _ => true
  | n + 1, d => q d && (kidsE d).all (allE q n)
theorem allE_same {q : PyData → Bool} : ∀ {n m : Nat} {d : PyData}, sz d ≤ n → sz d ≤ m → allE q n d = allE q m d
  | 0, _, d, h, _ => by have := sz_pos d; omega
  | _ + 1, 0, d, _, h => by have := sz_pos d; omega
  | n + 1, m + 1, d, h1, h2 => by
    have hk := kidsE_sz d
    rw [allE, allE]
    congr 1
    rw [Bool.eq_iff_iff, List.all_eq_true, List.all_eq_true]
    have key : ∀ y, y ∈ kidsE d → allE q n y = allE q m y := fun y hy => by
      have := sz_mem hy
      exact allE_same (by omega) (by omega)
    exact ⟨fun g y hy => by rw [← key y hy]; exact g y hy, fun g y hy => by rw [key y hy]; exact g y hy⟩
def allX (q : PyData → Bool) (d : PyData) : Bool := allE q (sz d) d
theorem allX_step (q : PyData → Bool) (d : PyData) : allX q d = (q d && (kidsE d).all (allX q)) := by
  have hp := sz_pos d
  have hk := kidsE_sz d
  unfold allX
  obtain ⟨n, hn⟩ : ∃ n, sz d = n + 1 := ⟨sz d - 1, by omega⟩
  rw [hn, allE]
  congr 1
  rw [Bool.eq_iff_iff, List.all_eq_true, List.all_eq_true]
  have key : ∀ y, y ∈ kidsE d → allE q n y = allE q (sz y) y := fun y hy => by
    have := sz_mem hy
    exact allE_same (by omega) (Nat.le_refl _)
  exact ⟨fun g y hy => by rw [← key y hy]; exact g y hy, fun g y hy => by rw [key y hy]; exact g y hy⟩
theorem isX_form {d : PyData} (h : isX d = true) : hasForm d = true := by
  rw [isX_step, Bool.and_eq_true] at h
  exact h.1
theorem isX_kids {d : PyData} (h : isX d = true) : ∀ y, y ∈ kidsE d → isX y = true := by
  rw [isX_step, Bool.and_eq_true, List.all_eq_true] at h
  exact h.2
theorem fits_flat : ∀ {fs : List Str} {r : List PyData}, fitsAll fs r = true → (∀ f, f ∈ fs → f ∈ (["value", "name", "position", "extra", "free", "bound"] : List Str)) → (∀ y, y ∈ pick W2 fs r → flatD y = true) → flatDs r = true
  | [], [], _, _, _ => by rw [flatDs]
  | [], _ :: _, h, _, _ => by cases h
  | _ :: _, [], h, _, _ => by cases h
  | f :: fs, d :: ds, h, hm, hk => by
    have h' : (fitsD f d && fitsAll fs ds) = true := h
    rw [Bool.and_eq_true] at h'
    have hf := hm f List.mem_cons_self
    rw [pick] at hk
    have ih := fits_flat h'.2 (fun g hg => hm g (List.mem_cons_of_mem _ hg)) (fun y hy => hk y (List.mem_append_right _ hy))
    rw [flatDs, ih, Bool.and_true]
    have h1 := h'.1
    unfold fitsD at h1
    simp only [List.mem_cons, List.not_mem_nil, or_false] at hf
    rcases hf with rfl | rfl | rfl | rfl | rfl | rfl
    · rw [if_pos rfl] at h1
      cases d with
      | int i => rw [flatD]
      | _ => cases h1
    · rw [if_neg (by decide), if_pos rfl] at h1
      cases d with
      | str z => rw [flatD]
      | _ => cases h1
    · rw [if_neg (by decide), if_neg (by decide), if_pos rfl] at h1
      cases d with
      | int i => rw [flatD]
      | _ => cases h1
    · rw [if_neg (by decide), if_neg (by decide), if_neg (by decide), if_pos rfl] at h1
      cases d with
      | tuple xs =>
        rw [flatD]
        exact flatDs_of fun y hy => hk y (List.mem_append_left _ (by rw [if_pos rfl]; exact hy))
      | _ => cases h1
    · exact hk d (List.mem_append_left _ (by rw [if_neg (by decide), if_pos (by decide)]; exact List.mem_singleton.mpr rfl))
    · exact hk d (List.mem_append_left _ (by rw [if_neg (by decide), if_pos (by decide)]; exact List.mem_singleton.mpr rfl))
theorem table_kinds : ∀ p, p ∈ table → ∀ f, f ∈ p.2 → f ∈ (["value", "name", "position", "extra", "free", "bound"] : List Str) := by decide
theorem flat_of_sz : ∀ (n : Nat) {d : PyData}, sz d ≤ n → isX d = true → flatD d = true
  | 0, d, h, _ => by have := sz_pos d; omega
  | n + 1, d, h, hx => by
    obtain ⟨hlt, _, w, fs, r, rfl, lk, hfit, ek⟩ := kids_sz d (isX_form hx)
    rw [flatD, flatDs, flatD, Bool.true_and]
    refine fits_flat hfit (table_kinds _ (look_some lk)) fun y hy => ?_
    rw [← ek] at hy
    have := sz_mem hy
    exact flat_of_sz n (by omega) (isX_kids hx y hy)
theorem isX_flat {d : PyData} (h : isX d = true) : flatD d = true := flat_of_sz (sz d) (Nat.le_refl _) h
mutual
theorem dd_of {K : PySem.W.Frag} {ok : Addr → Prop} {H : Hp} : ∀ (x : PyData) (v : V), flatD x = true → Dp K H v x → Dd K ok H v x
  | .none, _, _, h => by cases h; exact .non
  | .bool b, _, _, h => by cases h; exact .bl b
  | .int i, _, _, h => by cases h; exact .int i
  | .str z, _, _, h => by cases h; exact .str z
  | .tuple ds, _, hf, h => by
    cases h with
    | tup h1 h2 => exact .tup h1 (dd_ofs ds _ (by rw [flatD] at hf; exact hf) h2)
  | .list ds, _, hf, h => by simp only [flatD, Bool.false_eq_true] at hf
  | .dict ds, _, hf, h => by cases h
theorem dd_ofs {K : PySem.W.Frag} {ok : Addr → Prop} {H : Hp} : ∀ (xs : List PyData) (vs : List V), flatDs xs = true → DpAll K H vs xs → DdAll K ok H vs xs
  | [], _, _, h => by cases h; exact .nil
  | x :: xs, _, hf, h => by
    rw [flatDs, Bool.and_eq_true] at hf
    cases h with
    | cons h1 h2 => exact .cons (dd_of x _ hf.1 h1) (dd_ofs xs _ hf.2 h2)
end
mutual
theorem dp_of {K : PySem.W.Frag} {ok : Addr → Prop} {H : Hp} : ∀ (x : PyData) (v : V), flatD x = true → Dd K ok H v x → Dp K H v x
  | .none, _, _, h => by cases h; exact .non
  | .bool b, _, _, h => by cases h; exact .bl b
  | .int i, _, _, h => by cases h; exact .int i
  | .str z, _, _, h => by cases h; exact .str z
  | .tuple ds, _, hf, h => by
    cases h with
    | tup h1 h2 => exact .tup h1 (dp_ofs ds _ (by rw [flatD] at hf; exact hf) h2)
  | .list ds, _, hf, h => by simp only [flatD, Bool.false_eq_true] at hf
  | .dict ds, _, hf, h => by simp only [flatD, Bool.false_eq_true] at hf
theorem dp_ofs {K : PySem.W.Frag} {ok : Addr → Prop} {H : Hp} : ∀ (xs : List PyData) (vs : List V), flatDs xs = true → DdAll K ok H vs xs → DpAll K H vs xs
  | [], _, _, h => by cases h; exact .nil
  | x :: xs, _, hf, h => by
    rw [flatDs, Bool.and_eq_true] at hf
    cases h with
    | cons h1 h2 => exact .cons (dp_of x _ hf.1 h1) (dp_ofs xs _ hf.2 h2)
end
abbrev F0 : Addr → Prop := fun _ => False
theorem isXs_flat {l : List PyData} (h : ∀ y, y ∈ l → isX y = true) : flatDs l = true := flatDs_of fun y hy => isX_flat (h y hy)
def down (l : List PyData) : List PyData := l.flatMap kidsE
theorem down_take {xs : List PyData} {i : Nat} {x : PyData} (h : xs[i]? = some x) : down (xs.take (i + 1)) = down (xs.take i) ++ kidsE x := by
  unfold down
  rw [List.take_add_one, h, List.flatMap_append]
  simp
theorem down_take_le (xs : List PyData) (i : Nat) : (down (xs.take i)).length ≤ (down xs).length := by
  have : down xs = down (xs.take i) ++ down (xs.drop i) := by
    unfold down
    rw [← List.flatMap_append, List.take_append_drop]
  rw [this, List.length_append]
  omega
theorem down_sz : ∀ l : List PyData, szs (down l) + l.length ≤ szs l
  | [] => Nat.le_refl _
  | x :: l => by
    have ih := down_sz l
    have hk := kidsE_sz x
    unfold down at ih ⊢
    rw [List.flatMap_cons, szs_append, List.length_cons, szs]
    omega
theorem down_isX {xs : List PyData} (h : ∀ x, x ∈ xs → isX x = true) : ∀ y, y ∈ down xs → isX y = true := fun y hy => by
  obtain ⟨x, hx, hy⟩ := List.mem_flatMap.mp hy
  exact isX_kids (h x hx) y hy
/-- any walk over a list: what a turn does, told by body with what is to hold behind it -/
theorem walk_body {K : PySem.W.Frag} {a : Addr} {xs : List V} {body : V → Hp → (Hp → Prop) → Prop} {H0 : Hp} {Qd : Hp → Prop} (Pv : Nat → Hp → Prop) (h0 : Pv 0 H0) (hl : ∀ i H, i ≤ xs.length → Pv i H → SqL K H a xs)
    (hs : ∀ i x H, xs[i]? = some x → Pv i H → body x H (Pv (i + 1))) (hd : ∀ H, Pv xs.length H → Qd H) :
    ∃ W : Nat → Nat → Hp → Prop, (∃ m, W 0 m H0) ∧ ∀ i m H, W i m H →
      ((Itl K a).stop i H ∧ Qd H) ∨ ((Itl K a).go i H ∧ ∃ Nx : Hp → Prop, (∀ H', Nx H' → ∃ m', m' < m ∧ W (i + 1) m' H') ∧ ∀ x H', (Itl K a).yld i H x H' → body x H' Nx) := by
  have w := walk_list (K := K) (a := a) (xs := xs)
  refine ⟨fun i m H => m = xs.length - i ∧ i ≤ xs.length ∧ Pv i H, ⟨xs.length, rfl, Nat.zero_le _, h0⟩, ?_⟩
  rintro i m H ⟨rfl, hi, p⟩
  have q := hl i H hi p
  by_cases hlt : i < xs.length
  · refine .inr ⟨w.goes i H hlt q, Pv (i + 1), fun H' p' => ⟨xs.length - (i + 1), by omega, rfl, hlt, p'⟩, fun x H' y => ?_⟩
    obtain ⟨rfl, hx⟩ := w.yields i H x H' hlt q y
    exact hs i x _ hx p
  · obtain rfl : i = xs.length := by omega
    exact .inl ⟨w.stops H q, hd H p⟩
section
variable {P : Program} {w : World} {K : PySem.W.Frag} {mg : Str → Option Value} {base : Heap}
abbrev s_one_deeper : Stmt := topS 20
abbrev N_one : List Str := ["expressions", "expression", "part"]
theorem sc_one_deeper : FnScope N_one ["expressions"] (defScope s_one_deeper) := ⟨rfl, rfl, rfl, by decide +kernel, rfl, by decide +kernel, by decide +kernel⟩
def sp_one_deeper (K : PySem.W.Frag) : Sp := fun vs H Q _ => ∃ (a : Addr) (us : List V) (xs : List PyData), vs = [.ref a] ∧ SqL K H a us ∧ DpAll K H us xs ∧ (∀ x, x ∈ xs → isX x = true) ∧ szs xs ≤ 4000000 ∧
  ∀ H' p us', Same H H' → H p = none → H' p = some (.lst us') → DpAll K H' us' (down xs) → Q (.ref p) H'
theorem ok_one_deeper {f fc : Addr} {fd fdc : FuncData} {k : Nat} (F : Fun K "one_deeper" "one_deeper" s_one_deeper f fd) (Gc : FnOk P w K mg base CX0 k fc fdc ["expression"] (sp_contained K)) (gc : mg "contained" = some (.ref fc)) (Kc : PySem.W.keepIn K (.ref fc) = true) (bc : Binds K fdc ["expression"] []) :
    FnOk P w K mg base CX0 (k + 1) f fd ["expressions"] (sp_one_deeper K) := by
  have nd := sc_one_deeper.nd
  refine F.ok sc_one_deeper (fun vs H Q E h => ?_) (fun cdv A outer s H vs Q E hr h => ?_)
  · obtain ⟨a, us, xs, rfl, _⟩ := h
    rfl
  obtain ⟨a, us, xs, rfl, hS, hA, hE, hlen, q⟩ := h
  refine ⟨_, (pss_one (ps_ret (pe_lc2 (own := [("expression", 1), ("part", 2)]) (vs1 := [2]) (wi1 := iList K (tCall (sp_contained K) [] E0 (tCons (tVar 1) tNil))) rfl nd (pi_list (pv 0)) (blkOk_by (N := N_one) (sc := defScope s_one_deeper) (by decide +kernel)) (by decide)
      (fun _ _ _ _ _ => (pg_name (i := 1) nd rfl (Or.inl rfl))) (fun _ _ _ _ _ => pts_nil)
      (fun _ _ _ _ _ => pi_list (pe_call Gc hr (by rfl) gc Kc bc .nil pass0 (pa_cons (pv 1) pa_nil))) (fun _ _ _ _ _ => (pg_name (i := 2) nd rfl (Or.inl rfl))) (fun _ _ _ _ _ => pts_nil)
      (fun _ _ _ _ _ => (pv 2))))), ?_⟩
  refine ⟨.ref a, rfl, a, rfl, ⟨us, hS⟩, fun D nD => ?_⟩
  have hxl := dpAll_len hA
  have hdl := down_sz xs
  have hds := szs_len (down xs)
  refine walk_body (xs := us) (fun i H' => ∃ acc, H' D = some (.lst acc) ∧ DpAll K H' acc (down (xs.take i)) ∧ Same H H') ?_ ?_ ?_ ?_
  · refine ⟨[], upd_same, ?_, same_upd nD⟩
    rw [List.take_zero]
    exact .nil
  · rintro i H' _ ⟨acc, hD, hdp, kk⟩
    exact kk.seq hS
  · rintro i v H' hv ⟨acc, hD, hdp, kk⟩
    obtain ⟨x, hx, hvx⟩ := dpAll_at hA hv
    have ex := hE x (List.mem_of_getElem? hx)
    have hsx := sz_mem (List.mem_of_getElem? hx)
    have hkx := kidsE_sz x
    have hkl := szs_len (kidsE x)
    refine ⟨rfl, yes_then ⟨v, rfl, v, x, F0, rfl, dd_of x v (isX_flat ex) (dp_keep (KeepT.of kk) _ _ (isX_flat ex) hvx), isX_form ex, by omega, fun H2 p us2 s2 np hp hu0 => ⟨p, rfl, ⟨us2, .inl (.inl hp)⟩, ?_⟩⟩⟩
    have fk : flatDs (kidsE x) = true := isXs_flat (isX_kids ex)
    have hu := dp_ofs _ _ fk hu0
    have hD2 := s2 _ _ hD
    have npD : D ≠ p := ne_of_none hD np
    have hul := dpAll_len hu
    have fd : flatDs (down (xs.take i)) = true := isXs_flat (down_isX fun y hy => hE y (List.mem_of_mem_take hy))
    have hdn := down_take hx
    have hle := down_take_le xs (i + 1)
    rw [hdn, List.length_append] at hle
    refine walk_body (xs := us2) (fun j H3 => ∃ acc', H3 D = some (.lst acc') ∧ DpAll K H3 acc' (down (xs.take i) ++ (kidsE x).take j) ∧ (∀ b o, b ≠ D → H2 b = some o → H3 b = some o)) ?_ ?_ ?_ ?_
    · refine ⟨acc, hD2, ?_, fun b o _ e => e⟩
      rw [List.take_zero, List.append_nil]
      exact dp_keepAll (KeepT.of s2) _ _ fd hdp
    · rintro j H3 _ ⟨acc', hD3, hdp3, k3⟩
      exact .inl (.inl (k3 _ _ npD.symm hp))
    · rintro j y H3 hy ⟨acc', hD3, hdp3, k3⟩
      obtain ⟨dj, hdj, hyd⟩ := dpAll_at hu hy
      have kt3 : KeepT H2 H3 := ⟨fun b us e => k3 _ _ (ne_of e hD2 (fun z => by cases z)) e, fun b o us e => k3 _ _ (ne_of e hD2 (fun z => by cases z)) e⟩
      have fdj := flatDs_at fk hdj
      have k4 : KeepT H3 (upd H3 D (.lst (acc' ++ [y]))) := KeepT.lst hD3
      have la := dpAll_len hdp3
      rw [List.length_append, List.length_take] at la
      have hj : j < (kidsE x).length := (List.getElem?_eq_some_iff.mp hdj).1
      refine ⟨rfl, yes_then ⟨y, rfl, acc', hD3, ?_, acc' ++ [y], upd_same, ?_, fun b o hb e => ?_⟩⟩
      · rw [sizeLine_eq]
        omega
      · rw [take_at hdj, ← List.append_assoc]
        exact dpAll_append (dp_keepAll k4 _ _ (flatDs_append fd (flatDs_take j fk)) hdp3) (.cons (dp_keep (kt3.trans k4) _ _ fdj hyd) .nil)
      · rw [upd_ne hb]
        exact k3 b o hb e
    · rintro H3 ⟨acc', hD3, hdp3, k3⟩
      rw [hul, List.take_length, ← hdn] at hdp3
      exact ⟨acc', hD3, hdp3, fun b o e => k3 b o (ne_of_none e nD) (s2 _ _ (kk _ _ e))⟩
  · rintro H' ⟨acc, hD, hdp, kk⟩
    rw [hxl, List.take_length] at hdp
    exact q H' D acc kk nD hD hdp
end
end L9

namespace L9
open PySem PySem.Spec PyProof.Rows L2 GR AD RZ WX
theorem all_down (q : PyData → Bool) : ∀ l : List PyData, l.all (allX q) = (l.all q && (down l).all (allX q))
  | [] => rfl
  | x :: l => by
    have ih := all_down q l
    unfold down at ih ⊢
    rw [List.all_cons, List.all_cons, List.flatMap_cons, List.all_append, ih, allX_step q x]
    cases q x <;> cases (kidsE x).all (allX q) <;> cases l.all q <;> cases (l.flatMap kidsE).all (allX q) <;> rfl
section
variable {P : Program} {w : World} {K : PySem.W.Frag} {mg : Str → Option Value} {base : Heap}
abbrev s_all_parts : Stmt := topS 21
theorem sc_all_parts : FnScope ["expression", "found", "level"] ["expression"] (defScope s_all_parts) := ⟨rfl, rfl, rfl, by decide +kernel, rfl, by decide +kernel, by decide +kernel⟩
def sp_ap (K : PySem.W.Frag) : Sp := fun vs H Q _ => ∃ (v : V) (d : PyData), vs = [v] ∧ Dp K H v d ∧ isX d = true ∧ sz d ≤ 4000000 ∧
  ∀ H' p us xs, Same H H' → H p = none → H' p = some (.lst us) → DpAll K H' us xs → (∀ y, y ∈ xs → isX y = true) → (∀ q, xs.all q = allX q d) → xs.length ≤ sz d → Q (.ref p) H'
theorem ok_all_parts {f fc : Addr} {fd fdc : FuncData} {k : Nat} (F : Fun K "all_parts" "all_parts" s_all_parts f fd) (Gc : FnOk P w K mg base CX0 k fc fdc ["expressions"] (sp_one_deeper K)) (gc : mg "one_deeper" = some (.ref fc)) (Kc : PySem.W.keepIn K (.ref fc) = true) (bc : Binds K fdc ["expressions"] []) :
    FnOk P w K mg base CX0 (k + 1) f fd ["expression"] (sp_ap K) := by
  have nd := sc_all_parts.nd
  refine F.ok sc_all_parts (fun vs H Q E h => ?_) (fun cdv A outer s H vs Q E hr h => ?_)
  · obtain ⟨v, x, rfl, _⟩ := h
    rfl
  obtain ⟨v, x, rfl, hd, hx, hsz, q⟩ := h
  refine ⟨_, (pss_cons (ps_set (i := 1) nd rfl (.inl rfl) (pe_lst pa_nil))
      (pss_cons (ps_set (i := 2) nd rfl (.inl rfl) (pe_lst (pa_cons (pv 0) pa_nil)))
      (pss_cons (ps_while PassesOwn.never (pt_truth (pv 2) (fun _ => rfl))
      (pss_cons (ps_expr (pe_bm PySem.F.plainAttrs_list PySem.F.slot_list_extend PySem.F.type_list_extend mt_extend (pv 1) (pa_cons (pv 2) pa_nil)))
        (pss_one (ps_set (i := 2) nd rfl (.inl rfl) (pe_call Gc hr (by rfl) gc Kc bc .nil pass0 (pa_cons (pv 2) pa_nil))))))
      (pss_one (ps_ret (pv 1)))))), ?_⟩
  refine ⟨Nat.zero_le _, fun fo nfo => ?_⟩
  have sf := same_upd (o := .lst []) nfo
  have hf0 : upd H fo (.lst []) fo = some (.lst []) := upd_same
  refine ⟨v, rfl, small_le (show 1 ≤ 1000 by decide), fun lv nlv => ?_⟩
  have sl0 := same_upd (o := .lst [v]) nlv
  have hfl := ne_of_none hf0 nlv
  have inv : ∀ m, ∃ I : L2.St → Hp → Prop, I = fun σ H' => ∃ (lv : Addr) (acc us : List V) (done xs : List PyData), σ = [some v, some (.ref fo), some (.ref lv)] ∧ H' fo = some (.lst acc) ∧ H' lv = some (.lst us) ∧ fo ≠ lv ∧ DpAll K H' acc done ∧ DpAll K H' us xs ∧ (∀ y, y ∈ xs → isX y = true) ∧ (∀ y, y ∈ done → isX y = true) ∧ (∀ q, (done.all q && xs.all (allX q)) = allX q x) ∧ done.length + szs xs ≤ sz x ∧ szs xs = m ∧ (∀ b o, b ≠ fo → H b = some o → H' b = some o) := fun m => ⟨_, rfl⟩
  refine ⟨fun m σ H' => ∃ (lv : Addr) (acc us : List V) (done xs : List PyData), σ = [some v, some (.ref fo), some (.ref lv)] ∧ H' fo = some (.lst acc) ∧ H' lv = some (.lst us) ∧ fo ≠ lv ∧ DpAll K H' acc done ∧ DpAll K H' us xs ∧ (∀ y, y ∈ xs → isX y = true) ∧ (∀ y, y ∈ done → isX y = true) ∧ (∀ q, (done.all q && xs.all (allX q)) = allX q x) ∧ done.length + szs xs ≤ sz x ∧ szs xs = m ∧ (∀ b o, b ≠ fo → H b = some o → H' b = some o), ⟨szs [x], ?_⟩, ?_⟩
  · refine ⟨lv, [], [v], [], [x], rfl, sl0 _ _ hf0, upd_same, hfl, .nil, .cons (dp_keep (KeepT.of (sf.trans sl0)) _ _ (isX_flat hx) hd) .nil, ?_, fun y hy => (nomatch hy), fun p => ?_, ?_, rfl, fun b o _ e => sl0 _ _ (sf _ _ e)⟩
    · intro y hy
      rw [List.mem_singleton.mp hy]
      exact hx
    · rw [List.all_nil, List.all_cons, List.all_nil, Bool.and_true, Bool.true_and]
    · rw [List.length_nil, szs, szs]
      omega
  · rintro m σ H' ⟨lv, acc, us, done, xs, rfl, hfo, hlv, hne, hA, hX, hE, hF, hL, hlen, rfl, kk⟩
    have lA := dpAll_len hA
    have lX := dpAll_len hX
    refine ⟨.ref lv, rfl, !us.isEmpty, .inl ⟨us, .inl (.inl hlv), rfl⟩, ?_⟩
    cases us with
    | nil =>
      have hx : xs = [] := by
        cases hX
        rfl
      subst hx
      refine iteF ⟨.ref fo, rfl, q H' fo acc done (fun b o e => kk b o (ne_of_none e nfo) e) nfo hfo hA hF (fun p => ?_) ?_⟩
      · rw [← hL p, List.all_nil, Bool.and_true]
      · rw [szs] at hlen
        omega
    | cons u0 ur =>
      have hpos : 0 < xs.length := by
        rw [← lX]
        exact Nat.succ_pos _
      have hxl := szs_len xs
      have hdn := down_sz xs
      have hu := upd_same (H := H') (a := fo) (o := .lst (acc ++ u0 :: ur))
      refine iteT ⟨fun σ' H'' => ∃ m', m' < szs xs ∧ ∃ (lv : Addr) (acc us : List V) (done xs : List PyData), σ' = [some v, some (.ref fo), some (.ref lv)] ∧ H'' fo = some (.lst acc) ∧ H'' lv = some (.lst us) ∧ fo ≠ lv ∧ DpAll K H'' acc done ∧ DpAll K H'' us xs ∧ (∀ y, y ∈ xs → isX y = true) ∧ (∀ y, y ∈ done → isX y = true) ∧ (∀ q, (done.all q && xs.all (allX q)) = allX q x) ∧ done.length + szs xs ≤ sz x ∧ szs xs = m' ∧ (∀ b o, b ≠ fo → H b = some o → H'' b = some o),
        fun σ' H'' z => z, ?_⟩
      refine ⟨.ref fo, rfl, .inl ⟨rfl, _, .inl (.inl hfo)⟩, .ref lv, rfl, fo, lv, acc, u0 :: ur, rfl, rfl, hfo, hlv, ?_, ?_⟩
      · rw [lA, lX, sizeLine_eq]
        omega
      have k1 : KeepT H' (upd H' fo (.lst (acc ++ u0 :: ur))) := KeepT.lst hfo
      have hlv1 : upd H' fo (.lst (acc ++ u0 :: ur)) lv = some (.lst (u0 :: ur)) := by
        rw [upd_ne hne.symm]
        exact hlv
      have fX := isXs_flat hE
      have fF := isXs_flat hF
      have hA1 := dpAll_append (dp_keepAll k1 _ _ fF hA) (dp_keepAll k1 _ _ fX hX)
      have hX1 := dp_keepAll k1 _ _ fX hX
      refine ⟨.ref lv, rfl, lv, u0 :: ur, xs, rfl, .inl (.inl hlv1), hX1, hE, by omega, fun H2 p us' s2 np hp hu' => ?_⟩
      have hfo2 := s2 _ _ hu
      refine ⟨szs (down xs), by omega, p, acc ++ u0 :: ur, us', done ++ xs, down xs, rfl, hfo2, hp, ne_of_none hu np, ?_, hu', down_isX hE, ?_, ?_, ?_, rfl, fun b o hb e => ?_⟩
      · exact dp_keepAll (KeepT.of s2) _ _ (flatDs_append fF fX) hA1
      · intro y hy
        rcases List.mem_append.mp hy with hy | hy
        · exact hF y hy
        · exact hE y hy
      · intro p
        rw [List.all_append, Bool.and_assoc, ← all_down, hL p]
      · rw [List.length_append]
        omega
      · refine s2 _ _ ?_
        rw [upd_ne hb]
        exact kk b o hb e
/-! ### plain, simple -/
abbrev aggW : List Str := ["count", "sum", "most", "first"]
/-- the table of an aggregate is named by a text -/
def plainP : PyData → Bool
  | .tuple (.str w :: r) => if w ∈ aggW then (match r with | .str t :: .tuple xs :: x :: _ => xs.isEmpty && PyData.eqv x (rowX t) | _ => false) else !decide (w = "let")
  | _ => false
def simpleP : PyData → Bool
  | .tuple (.str w :: _) => !decide (w ∈ aggW)
  | _ => false
end
end L9

namespace L9
open PySem PySem.Spec PyProof.Rows L2 GR AD RZ WX ZE
/-! ### what holds of all parts -/
theorem allX_of {q : PyData → Bool} {P : PyData → Prop} (hP : ∀ y, P y → q y = true ∧ ∀ z, z ∈ kidsE y → P z) : ∀ (n : Nat) (d : PyData), sz d ≤ n → P d → allX q d = true
  | 0, d, h, _ => by have := sz_pos d; omega
  | n + 1, d, h, hp => by
    obtain ⟨h1, h2⟩ := hP d hp
    rw [allX_step, h1, Bool.true_and, List.all_eq_true]
    intro y hy
    have := sz_mem hy
    have := kidsE_sz d
    exact allX_of hP n y (by omega) (h2 y hy)
theorem depthAll_mem : ∀ {ds : List PyData} {y : PyData}, y ∈ ds → y.depth ≤ PyData.depthAll ds
  | x :: ds, y, h => by
    rw [PyData.depthAll]
    rcases List.mem_cons.mp h with rfl | h
    · omega
    · have := depthAll_mem h
      omega
theorem pick_depth (W : List Str) : ∀ {fs : List Str} {ds : List PyData} {y : PyData}, y ∈ pick W fs ds → y.depth ≤ PyData.depthAll ds
  | [], ds, y, hy => by simp only [pick, List.not_mem_nil] at hy
  | f :: fs, [], y, hy => by simp only [pick, List.not_mem_nil] at hy
  | f :: fs, d :: ds, y, hy => by
    rw [pick] at hy
    simp only [PyData.depthAll]
    rcases List.mem_append.mp hy with hy | hy
    · split at hy
      · cases d with
        | tuple xs =>
          have := depthAll_mem (show y ∈ xs from hy)
          simp only [PyData.depth]
          omega
        | _ => exact (nomatch hy)
      · split at hy
        · rw [List.mem_singleton.mp hy]
          omega
        · exact (nomatch hy)
    · have := pick_depth W hy
      omega
theorem kidsE_depth {d y : PyData} (h : y ∈ kidsE d) : y.depth ≤ d.depth := by
  unfold kidsE at h
  split at h
  · split at h
    · have := pick_depth W2 h
      simp only [PyData.depth, PyData.depthAll]
      omega
    · exact (nomatch h)
  · exact (nomatch h)
theorem kidsE_sh {d : PyData} (hx : isX d = true) (h : shB d = true) : ∀ y, y ∈ kidsE d → shB y = true := (kids_sz d (isX_form hx)).2.1 h
/-- an expression that may be asked about -/
structure Xp (d : PyData) : Prop where
  x : isX d = true
  sh : shB d = true
  dep : d.depth < 40
  sz : sz d ≤ 4000000
theorem Xp.kids {d : PyData} (h : Xp d) : ∀ y, y ∈ kidsE d → Xp y := fun y hy => by
  have h1 := sz_mem hy
  have h2 := kidsE_sz d
  have h3 := h.sz
  exact ⟨isX_kids h.x y hy, kidsE_sh h.x h.sh y hy, Nat.lt_of_le_of_lt (kidsE_depth hy) h.dep, by omega⟩
def xpB (d : PyData) : Bool := isX d && (shB d && (decide (d.depth < 40) && decide (L9.sz d ≤ 4000000)))
theorem xp_iff {d : PyData} : xpB d = true ↔ Xp d := by
  unfold xpB
  simp only [Bool.and_eq_true, decide_eq_true_eq]
  exact ⟨fun ⟨a, b, c, e⟩ => ⟨a, b, c, e⟩, fun ⟨a, b, c, e⟩ => ⟨a, b, c, e⟩⟩
theorem Xp.all {d : PyData} (h : Xp d) : allX xpB d = true := allX_of (P := Xp) (fun y hy => ⟨xp_iff.mpr hy, hy.kids⟩) (L9.sz d) d (Nat.le_refl _) h
theorem xp_parts {xs : List PyData} {d : PyData} (h : ∀ q, xs.all q = allX q d) (hx : Xp d) : ∀ y, y ∈ xs → Xp y := fun y hy => xp_iff.mp (List.all_eq_true.mp ((h xpB).trans hx.all) y hy)
mutual
theorem lay_of : ∀ d : PyData, flatD d = true → shB d = true → d.canLay0 = true
  | .none, _, _ => by simp only [PyData.canLay0]
  | .bool b, _, _ => by simp only [PyData.canLay0]
  | .int i, _, _ => by simp only [PyData.canLay0]
  | .str z, _, h => by
    rw [shB, Bool.and_eq_true] at h
    simp only [PyData.canLay0, h.2]
  | .tuple ds, hf, h => by
    rw [flatD] at hf
    rw [shB] at h
    simp only [PyData.canLay0, lay_ofs ds hf h]
  | .list ds, hf, _ => by simp only [flatD, Bool.false_eq_true] at hf
  | .dict ds, hf, _ => by simp only [flatD, Bool.false_eq_true] at hf
theorem lay_ofs : ∀ ds : List PyData, flatDs ds = true → shBs ds = true → PyData.canLayAll0 ds = true
  | [], _, _ => by simp only [PyData.canLayAll0]
  | d :: ds, hf, h => by
    rw [flatDs, Bool.and_eq_true] at hf
    rw [shBs, Bool.and_eq_true] at h
    simp only [PyData.canLayAll0, lay_of d hf.1 h.1, lay_ofs ds hf.2 h.2, Bool.and_self]
end
theorem shaped_of {d : PyData} (hf : flatD d = true) (h : shB d = true) (hd : d.depth < 40) : SeqAt.shaped d = true := by
  unfold SeqAt.shaped
  rw [Bool.and_eq_true]
  exact ⟨lay_of d hf h, decide_eq_true (by omega)⟩
theorem Xp.shaped {d : PyData} (h : Xp d) : SeqAt.shaped d = true := shaped_of (isX_flat h.x) h.sh h.dep
/-- an aggregate, by its word -/
theorem agg_form {w : Str} {r : List PyData} (h : isX (.tuple (.str w :: r)) = true) (hw : w ∈ aggW) : ∃ t xs x r', r = .str t :: .tuple xs :: x :: r' ∧ x ∈ kidsE (.tuple (.str w :: r)) := by
  have hf := isX_form h
  have key : ∀ fs : List Str, look w = some fs → (∃ fs', fs = ("name" : Str) :: ("extra" : Str) :: ("bound" : Str) :: fs') → ∃ t xs x r', r = .str t :: .tuple xs :: x :: r' ∧ x ∈ kidsE (.tuple (.str w :: r)) := by
    rintro fs lk ⟨fs', rfl⟩
    rw [form_some lk] at hf
    match r, hf with
    | [], hf => cases hf
    | [_], hf => simp [fitsAll] at hf
    | [_, _], hf => simp [fitsAll] at hf
    | a :: b :: x :: r', hf =>
      have hf' : (fitsD "name" a && (fitsD "extra" b && (fitsD "bound" x && fitsAll fs' r'))) = true := hf
      rw [Bool.and_eq_true, Bool.and_eq_true] at hf'
      obtain ⟨h1, h2, _⟩ := hf'
      have h1' : isN a = true := h1
      have h2' : isTu b = true := h2
      cases a with
      | str t =>
        cases b with
        | tuple xs =>
          refine ⟨t, xs, x, r', rfl, ?_⟩
          have : kidsE (.tuple (.str w :: .str t :: .tuple xs :: x :: r')) = pick W2 ("name" :: "extra" :: "bound" :: fs') (.str t :: .tuple xs :: x :: r') := by
            show (match look w with | some fs => pick W2 fs _ | none => []) = _
            rw [lk]
          rw [this]
          simp only [pick]
          refine List.mem_append_right _ (List.mem_append_right _ (List.mem_append_left _ ?_))
          rw [if_neg (by decide), if_pos (by decide)]
          exact List.mem_singleton.mpr rfl
        | _ => cases h2'
      | _ => cases h1'
  simp only [aggW, List.mem_cons, List.not_mem_nil, or_false] at hw
  rcases hw with rfl | rfl | rfl | rfl
  · exact key ["name", "extra", "bound", "bound"] (by decide) ⟨_, rfl⟩
  · exact key ["name", "extra", "bound", "bound", "bound"] (by decide) ⟨_, rfl⟩
  · exact key ["name", "extra", "bound", "bound", "bound", "free"] (by decide) ⟨_, rfl⟩
  · exact key ["name", "extra", "bound", "bound", "free"] (by decide) ⟨_, rfl⟩
theorem isX_head {d : PyData} (h : isX d = true) : ∃ w r, d = .tuple (.str w :: r) := by
  obtain ⟨_, _, w, fs, r, rfl, _⟩ := kids_sz d (isX_form h)
  exact ⟨w, r, rfl⟩
theorem plain_agg {o t : Str} {xs : List PyData} {y : PyData} {r : List PyData} (h : o ∈ aggW) : plainP (.tuple (.str o :: .str t :: .tuple xs :: y :: r)) = (xs.isEmpty && PyData.eqv y (rowX t)) := if_pos h
theorem plain_no {o : Str} {r : List PyData} (h : o ∉ aggW) : plainP (.tuple (.str o :: r)) = !decide (o = "let") := if_neg h
theorem row_shaped {t : Str} (h : PyData.strOk t = true) : SeqAt.shaped (rowX t) = true := by
  have k1 : PyData.strOk "key" = true := by decide +kernel
  have k2 : PyData.strOk "cell" = true := by decide +kernel
  have k3 : PyData.strOk "in" = true := by decide +kernel
  unfold SeqAt.shaped rowX
  simp only [PyData.canLay0, PyData.canLayAll0, Bool.and_true, h, k1, k2, k3, Bool.true_and, PyData.depth, PyData.depthAll]
  exact decide_eq_true (by omega)
section
variable {P : Program} {w : World} {K : PySem.W.Frag} {mg : Str → Option Value} {base : Heap}
abbrev s_rows_of : Stmt := topS 22
theorem sc_rows_of : FnScope ["table"] ["table"] (defScope s_rows_of) := ⟨rfl, rfl, rfl, by decide +kernel, rfl, by decide +kernel, by decide +kernel⟩
def sp_rows_of (K : PySem.W.Frag) : Sp := fun vs H Q _ => ∃ t, vs = [.str t] ∧ ∀ H' v, Same H H' → Dp K H' v (rowX t) → Q v H'
theorem ok_rows_of {f : Addr} {fd : FuncData} {k : Nat} (F : Fun K "rows_of" "rows_of" s_rows_of f fd) : FnOk P w K mg base CX0 (k + 1) f fd ["table"] (sp_rows_of K) := by
  have nd := sc_rows_of.nd
  refine F.ok sc_rows_of (fun vs H Q E h => ?_) (fun cdv A outer s H vs Q E hr h => ?_)
  · obtain ⟨t, rfl, _⟩ := h
    rfl
  obtain ⟨t, rfl, q⟩ := h
  refine ⟨_, (pss_one (ps_ret (pe_tup (pa_cons pe_str (pa_cons (pv 0) (pa_cons (pe_tup (pa_cons pe_str pa_nil)) (pa_cons pe_str pa_nil))))))), ?_⟩
  refine ⟨.str t, rfl, small_le (show 1 ≤ 1000 by decide), fun p np => ⟨small_le (show 4 ≤ 1000 by decide), fun r nr => ?_⟩⟩
  have s1 := same_upd (o := .tup [.str "key"]) np
  have s2 := same_upd (o := .tup [.str "cell", .str t, .ref p, .str "in"]) nr
  refine q _ _ (s1.trans s2) (.tup (.inl (.inl upd_same)) (.cons (.str _) (.cons (.str t) (.cons (.tup (.inl (.inl (s2 _ _ upd_same))) (.cons (.str _) .nil)) (.cons (.str _) .nil)))))
abbrev s_is_plain_part : Stmt := topS 24
theorem sc_is_plain_part : FnScope ["part"] ["part"] (defScope s_is_plain_part) := ⟨rfl, rfl, rfl, by decide +kernel, rfl, by decide +kernel, by decide +kernel⟩
/-- a test of an expression -/
def sp_tx (K : PySem.W.Frag) (f : PyData → Bool) : Sp := fun vs H Q _ => ∃ (v : V) (x : PyData), vs = [v] ∧ Dp K H v x ∧ Xp x ∧ ∀ H', Same H H' → Q (.bl (f x)) H'
theorem ok_is_plain_part {f fr aA : Addr} {fd fdr : FuncData} {k : Nat} (F : Fun K "is_plain_part" "is_plain_part" s_is_plain_part f fd) (Gr : FnOk P w K mg base CX0 k fr fdr ["table"] (sp_rows_of K)) (gr : mg "rows_of" = some (.ref fr)) (Kr : PySem.W.keepIn K (.ref fr) = true) (br : Binds K fdr ["table"] [])
    (mAGG : mg "AGGREGATES" = some (.ref aA)) (T : KTx K aA aggW) : FnOk P w K mg base CX0 (k + 1) f fd ["part"] (sp_tx K plainP) := by
  have nd := sc_is_plain_part.nd
  refine F.ok sc_is_plain_part (fun vs H Q E h => ?_) (fun cdv A outer s H vs Q E hr h => ?_)
  · obtain ⟨v, x, rfl, _⟩ := h
    rfl
  obtain ⟨v, x, rfl, hd, hx, q⟩ := h
  refine ⟨_, (pss_cons (ps_if (pt_cmpR op_in_seq (pe_ix ix_tup (pv 0) pe_int (fun _ _ => rfl)) (pe_glob rfl mAGG (v := .ref aA) rfl) (by rfl))
      (pss_one (ps_ret (pe_and (pe_cmpR (op_eqT0 hr.units0) (pe_ix ix_tup (pv 0) pe_int (fun _ _ => rfl)) (pe_tup pa_nil) (nomark _)) (pe_one (pe_cmpR (op_eqD hr.units) (pe_ix ix_tup (pv 0) pe_int (fun _ _ => rfl)) (pe_call Gr hr (by rfl) gr Kr br .nil pass0 (pa_cons (pe_ix ix_tup (pv 0) pe_int (fun _ _ => rfl)) pa_nil)) (nomark _))))))
      pss_nil)
      (pss_one (ps_ret (pe_cmpR op_ne (pe_ix ix_tup (pv 0) pe_int (fun _ _ => rfl)) pe_str (nomark _))))), ?_⟩
  obtain ⟨wd, r, rfl⟩ := isX_head hx.x
  have hfl := isX_flat hx.x
  cases hd with
  | tup hS hA =>
  cases hA with
  | cons hw hA =>
  cases hw
  rename_i a vs
  refine ⟨.ref a, rfl, a, _, 0, .str wd, rfl, rfl, hS, at0, aA, _, rfl, .inr (T H), rfl, flat_strsW aggW, _, rfl, ?_⟩
  show if inV (.str wd) (aggW.map V.str) = true then _ else _
  rw [in_strs]
  refine ite2 (fun e1 => ?_) (fun e1 => ?_)
  · have e1 : wd ∈ aggW := by simpa using e1
    obtain ⟨t, xs, y, r', rfl, hk⟩ := agg_form hx.x e1
    have hy := hx.kids y hk
    have hst : PyData.strOk t = true := by
      have h1 := hx.sh
      rw [shB] at h1
      exact (shB_sh (shBs_mem h1 (.str t) (List.mem_cons_of_mem _ List.mem_cons_self)) t rfl).2
    cases hA with
    | @cons v1 vs1 d1 ds1 g1 hA =>
    cases g1
    cases hA with
    | @cons v2 vs2 d2 ds2 g2 hA =>
    cases hA with
    | @cons v3 vs3 d3 ds3 g3 hA =>
    have hq : ∀ H', Same H H' → Q (.bl (xs.isEmpty && PyData.eqv y (rowX t))) H' := fun H' s' => by
      have := q H' s'
      rw [← plain_agg (r := r') e1]
      exact this
    refine ⟨.ref a, rfl, a, _, 2, v2, rfl, rfl, hS, at2, Nat.zero_le _, fun p np => ?_⟩
    have sp := same_upd (o := .tup []) np
    cases g2 with
    | @tup b us _ hb hbs =>
    have lb := dpAll_len hbs
    have eem : us.isEmpty = xs.isEmpty := by
      cases us <;> cases xs <;> first | rfl | cases lb
    refine ⟨b, p, us, rfl, rfl, (KeepT.of sp).seqt hb, .inl (.inl upd_same), _, rfl, ?_⟩
    rw [eem]
    cases he : xs.isEmpty with
    | false =>
      rw [he, Bool.false_and] at hq
      exact iteF (hq _ sp)
    | true =>
      rw [he, Bool.true_and] at hq
      refine iteT ⟨.ref a, rfl, a, _, 3, v3, rfl, rfl, (KeepT.of sp).seqt hS, at3, .ref a, rfl, a, _, 1, .str t, rfl, rfl, (KeepT.of sp).seqt hS, at1, t, rfl, fun H' u s' hu => ?_⟩
      exact ⟨y, rowX t, dp_keep (KeepT.of (sp.trans s')) _ _ (isX_flat hy.x) g3, hu, hy.shaped, row_shaped hst, hq H' (sp.trans s')⟩
  · have e1 : wd ∉ aggW := fun z => e1 (by simpa using z)
    have := q H fun _ _ e => e
    rw [plain_no e1] at this
    refine ⟨.ref a, rfl, a, _, 0, .str wd, rfl, rfl, hS, at0, rfl, ?_⟩
    rw [show decide (V.str wd = V.str "let") = decide (wd = "let") from decide_eq_decide.mpr ⟨fun e => V.str.inj e, fun e => by rw [e]⟩]
    exact this
/-- truth values are being made into the list at D, f of each part -/
def BInv (f : PyData → Bool) (H1 : Hp) (D : Addr) (xs : List PyData) (i : Nat) (H : Hp) : Prop := H D = some (.lst (((xs.take i).map f).map V.bl)) ∧ Same H1 H
theorem BInv.start {f : PyData → Bool} {H1 : Hp} {D : Addr} {xs : List PyData} (nD : H1 D = none) : BInv f H1 D xs 0 (upd H1 D (.lst [])) := ⟨upd_same, same_upd nD⟩
theorem BInv.step {f : PyData → Bool} {H1 H H' : Hp} {D : Addr} {xs : List PyData} {i : Nat} {x : PyData} (B : BInv f H1 D xs i H) (nD : H1 D = none) (s : Same H H') (h : xs[i]? = some x) (hl : xs.length ≤ 4000000) :
    ∃ acc, H' D = some (.lst acc) ∧ acc.length < sizeLine ∧ BInv f H1 D xs (i + 1) (upd H' D (.lst (acc ++ [.bl (f x)]))) := by
  obtain ⟨hD, kk⟩ := B
  refine ⟨_, s _ _ hD, ?_, ?_, fun b o e => ?_⟩
  · rw [List.length_map, List.length_map, List.length_take, sizeLine_eq]
    omega
  · rw [upd_same, take_at h, List.map_append, List.map_append]
    rfl
  · rw [upd_ne (ne_of_none e nD)]
    exact s _ _ (kk _ _ e)
abbrev N_test : List Str := ["expression", "part"]
abbrev s_is_plain : Stmt := topS 23
theorem sc_is_plain : FnScope N_test ["expression"] (defScope s_is_plain) := ⟨rfl, rfl, rfl, by decide +kernel, rfl, by decide +kernel, by decide +kernel⟩
theorem all_map (f : PyData → Bool) (l : List PyData) : (l.map f).all id = l.all f := by
  rw [List.all_map]
  rfl
theorem ok_is_plain {f fc fp : Addr} {fd fdc fdp : FuncData} {k : Nat} (F : Fun K "is_plain" "is_plain" s_is_plain f fd) (Gc : FnOk P w K mg base CX0 k fc fdc ["expression"] (sp_ap K)) (gc : mg "all_parts" = some (.ref fc)) (Kc : PySem.W.keepIn K (.ref fc) = true) (bc : Binds K fdc ["expression"] [])
    (Gp : FnOk P w K mg base CX0 k fp fdp ["part"] (sp_tx K plainP)) (gp : mg "is_plain_part" = some (.ref fp)) (Kp : PySem.W.keepIn K (.ref fp) = true) (bp : Binds K fdp ["part"] []) (mall : mg "all" = none) : FnOk P w K mg base CX0 (k + 1) f fd ["expression"] (sp_tx K (allX plainP)) := by
  have nd := sc_is_plain.nd
  refine F.ok sc_is_plain (fun vs H Q E h => ?_) (fun cdv A outer s H vs Q E hr h => ?_)
  · obtain ⟨v, x, rfl, _⟩ := h
    rfl
  obtain ⟨v, x, rfl, hd, hx, q⟩ := h
  refine ⟨_, (pss_one (ps_ret (pe_callB (cr_all rfl) (by rfl) mall boot_all (pa_cons (pe_lc (own := [("part", 1)]) rfl nd (pi_list (pe_call Gc hr (by rfl) gc Kc bc .nil pass0 (pa_cons (pv 0) pa_nil))) (blkOk_by (N := N_test) (sc := defScope s_is_plain) (by decide +kernel)) (fun _ _ _ _ _ => (pg_name (i := 1) nd rfl (Or.inl rfl))) (fun _ _ _ _ _ => pts_nil)
      (te := tCall (sp_tx K plainP) [] E0 (tCons (tVar 1) tNil)) (fun _ _ _ _ _ => (pe_call Gp hr (by rfl) gp Kp bp .nil pass0 (pa_cons (pv 1) pa_nil)))) pa_nil)))), ?_⟩
  refine ⟨v, rfl, v, x, rfl, hd, hx.x, hx.sz, fun H1 p us xs s1 np hp hu hE hq hl => ⟨p, rfl, ⟨us, .inl (.inl hp)⟩, fun D nD => ?_⟩⟩
  have hX := xp_parts hq hx
  have lu := dpAll_len hu
  have hz := hx.sz
  refine walk_body (xs := us) (BInv plainP H1 D xs) (BInv.start nD) ?_ ?_ ?_
  · rintro i H' _ B
    exact .inl (.inl (B.2 _ _ hp))
  · rintro i y H' hy B
    obtain ⟨d, hdi, hyd⟩ := dpAll_at hu hy
    have ex := hX d (List.mem_of_getElem? hdi)
    exact ⟨rfl, yes_then ⟨y, rfl, y, d, rfl, dp_keep (KeepT.of B.2) _ _ (isX_flat ex.x) hyd, ex, fun H2 s2 => B.step nD s2 hdi (by omega)⟩⟩
  · rintro H' ⟨hD, kk⟩
    rw [lu, List.take_length] at hD
    refine ⟨D, _, rfl, .inl (.inl hD), ?_⟩
    rw [all_map, hq]
    exact q H' (s1.trans kk)
abbrev s_is_simple : Stmt := topS 26
theorem sc_is_simple : FnScope N_test ["expression"] (defScope s_is_simple) := ⟨rfl, rfl, rfl, by decide +kernel, rfl, by decide +kernel, by decide +kernel⟩
theorem ok_is_simple {f fc aA : Addr} {fd fdc : FuncData} {k : Nat} (F : Fun K "is_simple" "is_simple" s_is_simple f fd) (Gc : FnOk P w K mg base CX0 k fc fdc ["expression"] (sp_ap K)) (gc : mg "all_parts" = some (.ref fc)) (Kc : PySem.W.keepIn K (.ref fc) = true) (bc : Binds K fdc ["expression"] [])
    (mAGG : mg "AGGREGATES" = some (.ref aA)) (T : KTx K aA aggW) (mall : mg "all" = none) : FnOk P w K mg base CX0 (k + 1) f fd ["expression"] (sp_tx K (allX simpleP)) := by
  have nd := sc_is_simple.nd
  refine F.ok sc_is_simple (fun vs H Q E h => ?_) (fun cdv A outer s H vs Q E hr h => ?_)
  · obtain ⟨v, x, rfl, _⟩ := h
    rfl
  obtain ⟨v, x, rfl, hd, hx, q⟩ := h
  refine ⟨_, (pss_one (ps_ret (pe_callB (cr_all rfl) (by rfl) mall boot_all (pa_cons (pe_lc (own := [("part", 1)]) rfl nd (pi_list (pe_call Gc hr (by rfl) gc Kc bc .nil pass0 (pa_cons (pv 0) pa_nil))) (blkOk_by (N := N_test) (sc := defScope s_is_simple) (by decide +kernel)) (fun _ _ _ _ _ => (pg_name (i := 1) nd rfl (Or.inl rfl))) (fun _ _ _ _ _ => pts_nil)
      (te := tOp (rIn K true) (tOp (rIxT K) (tVar 1) (tC (.int 0))) (tC (.ref aA))) (fun _ _ _ _ _ => (pe_cmpR op_notIn_seq (pe_ix ix_tup (pv 1) pe_int (fun _ _ => rfl)) (pe_glob rfl mAGG (v := .ref aA) rfl) (by rfl)))) pa_nil)))), ?_⟩
  refine ⟨v, rfl, v, x, rfl, hd, hx.x, hx.sz, fun H1 p us xs s1 np hp hu hE hq hl => ⟨p, rfl, ⟨us, .inl (.inl hp)⟩, fun D nD => ?_⟩⟩
  have hX := xp_parts hq hx
  have lu := dpAll_len hu
  have hz := hx.sz
  refine walk_body (xs := us) (BInv simpleP H1 D xs) (BInv.start nD) ?_ ?_ ?_
  · rintro i H' _ B
    exact .inl (.inl (B.2 _ _ hp))
  · rintro i y H' hy B
    obtain ⟨d, hdi, hyd⟩ := dpAll_at hu hy
    have ex := hX d (List.mem_of_getElem? hdi)
    have hyd2 := dp_keep (KeepT.of B.2) _ _ (isX_flat ex.x) hyd
    obtain ⟨wd, r, rfl⟩ := isX_head ex.x
    cases hyd2 with
    | tup hS hA =>
    cases hA with
    | cons hw hA =>
    cases hw
    rename_i a vs
    refine ⟨rfl, yes_then ⟨.ref a, rfl, a, _, 0, .str wd, rfl, rfl, hS, at0, aA, _, rfl, .inr (T H'), rfl, flat_strsW aggW, ?_⟩⟩
    obtain ⟨acc, g1, g2, g3⟩ := B.step nD (fun _ _ e => e) hdi (by omega)
    refine ⟨acc, g1, g2, ?_⟩
    show BInv simpleP H1 D xs (i + 1) (upd H' D (.lst (acc ++ [.bl (!inV (.str wd) (aggW.map V.str))])))
    rw [in_strs]
    exact g3
  · rintro H' ⟨hD, kk⟩
    rw [lu, List.take_length] at hD
    refine ⟨D, _, rfl, .inl (.inl hD), ?_⟩
    rw [all_map, hq]
    exact q H' (s1.trans kk)
end
end L9

/-! Sets of texts that can be walked: what one more element does to the object, for any kind of key. -/
namespace TX
open PySem PySem.Spec PyProof.Rows L2
section
variable {P : Program} {w : World} {A : Around} {E : Value → Shared → Prop} {s : Shared} {a : Addr}
/-- the object at a is the same set with these entries, and its table is as good as before -/
structure Grown (h0 h : Heap) (a : Addr) (o : Obj) (t : SetTable) (l : List (Int × Value)) : Prop where
  same : Heap.SameBut a h0 h
  at' : ∃ es ep t', h.get? a = some { o with data := .set es ep t' } ∧ es.toList.Perm l ∧ t'.fits es.size = true ∧ (Ris t.place.toList → Ris t'.place.toList) ∧ t'.led = t.led
theorem got {h : Heap} {o : Obj} {es es' : Array (Int × Value)} {ep : Nat} {t t' : SetTable} (ho : h.get? a = some o) (hd : o.data = .set es ep t) :
    (h.update a (Obj.putSet es' t')).get? a = some { o with data := .set es' (ep + 1) t' } := store_at ho hd
/-- laid down, and laid anew where the table is too full -/
theorem tail {g : Bool → Sem Unit} (hg : ∀ (b : Bool) (s₁ : Shared) (Q' : Unit → Shared → Prop), Q' () s₁ → wpAny (model P w) A (g b) Q' E s₁) {o : Obj} {es es1 : Array (Int × Value)} {ep : Nat} {t t0 t2 : SetTable} (ho : s.heap.get? a = some o) (hd : o.data = .set es ep t)
    {l : List (Int × Value)} (pm : es1.toList.Perm l) (small : es1.size < scanBound) (fit : t2.fits es1.size = true) (ris : Ris t0.place.toList → Ris t2.place.toList) (led : t2.led = t0.led) {d : Bool} {R : Option Bool → Shared → Prop}
    (done : ∀ h', Grown s.heap h' a o t0 l → R (some true) { s with heap := h' }) :
    wpAny (model P w) A (do
        storeSet a es1 t2
        if (!d && t2.tooFull) = true then do
            g (relayAll t2 es1 (SetTable.grown es1.size)).2.2
            storeSet a (relayAll t2 es1 (SetTable.grown es1.size)).1 (relayAll t2 es1 (SetTable.grown es1.size)).2.1
            pure (some true)
          else pure (some true)) R E s := by
  have h1 := got (es' := es1) (t' := t2) ho hd
  have b1 := Heap.SameBut.update s.heap a (Obj.putSet es1 t2)
  apply wpAny_bind
  refine wpAny_storeSet_of ho hd ?_ (fits_of_scanBound small)
  by_cases full : (!d && t2.tooFull) = true
  · rw [if_pos full]
    have p2 := relayAll_perm t2 es1 (SetTable.grown es1.size)
    have small2 : (relayAll t2 es1 (SetTable.grown es1.size)).1.size < scanBound := by
      have := p2.length_eq
      rw [Array.length_toList, Array.length_toList] at this
      omega
    apply wpAny_bind
    refine hg _ _ _ ?_
    apply wpAny_bind
    refine wpAny_storeSet_of h1 rfl ?_ (fits_of_scanBound small2)
    exact wpAny_pure (done _ ⟨b1.trans (Heap.SameBut.update _ a _), _, _, _, (got (o := { o with data := .set es1 (ep + 1) t2 }) h1 rfl : _), p2.trans pm, relayAll_fits t2 es1 _, fun _ => relayAll_ris t2 es1 _, (relayAll_led t2 es1 _).trans led⟩)
  · rw [if_neg full]
    exact wpAny_pure (done _ ⟨b1, es1, _, t2, h1, pm, fit, ris, led⟩)

/-- one more element, or none where it is in -/
theorem add {K : Type} [DecidableEq K] {knd : PySem.KeyKind P w K} {o : Obj} {es : Array (Int × Value)} {ep : Nat} {t : SetTable} {k : K} {v : Value} {Q : Bool → Shared → Prop} (ho : s.heap.get? a = some o) (hd : o.data = .set es ep t) (hel : ElemsOf knd es.toList)
    (small : es.size + 1 < scanBound) (hf : t.fits es.size = true) (hk : knd.is k v = true) (hsc : v.scannable = true) (old : (∃ e ∈ es.toList, knd.is k e.2 = true) → Q false s)
    (new : (∀ e ∈ es.toList, knd.is k e.2 = false) → ∀ h', Grown s.heap h' a o t ((knd.hash k, v) :: es.toList) → Q true { s with heap := h' }) : wpAny (model P w) A (setAddHashed a v (knd.hash k)) Q E s := by
  unfold setAddHashed setAddHashedIn
  apply wpAny_holding
  apply wpAny_bind
  refine wpAny_setState_of ho hd hf ?_
  dsimp only
  rw [byScan_of hsc (by omega) hel]
  simp only [↓reduceIte]
  unfold setAddByScan
  apply wpAny_bind
  apply wpAny_bind
  apply wpAny_rule
  apply wpAny_bind
  refine wpAny_setScan_of hk ho hd hf hel ?_
  cases hfi : List.findIdx? (fun e => knd.is k e.2) es.toList with
  | some j =>
    dsimp only
    obtain ⟨hj, pj, _⟩ := List.findIdx?_eq_some_iff_getElem.mp hfi
    exact wpAny_pure (wpAny_pure (old ⟨_, List.getElem_mem hj, pj⟩))
  | none =>
    dsimp only
    have out : ∀ e ∈ es.toList, knd.is k e.2 = false := fun e he => by
      have := List.findIdx?_eq_none_iff.mp hfi e he
      simpa using this
    have pm : (layNew t es (knd.hash k) v).1.toList.Perm ((knd.hash k, v) :: es.toList) := by
      have := layNew_perm t es (knd.hash k) v
      rw [Array.toList_push] at this
      exact this.trans (List.perm_append_singleton _ _)
    have small1 : (layNew t es (knd.hash k) v).1.size < scanBound := by
      have := pm.length_eq
      rw [Array.length_toList, List.length_cons, Array.length_toList] at this
      omega
    have fit := layNew_fits t es (knd.hash k) v
    have ris := layNew_ris t es (knd.hash k) v
    have led := layNew_led t es (knd.hash k) v
    have wg : ∀ (b : Bool) {s₁ : Shared} {Q' : Unit → Shared → Prop}, Q' () s₁ → wpAny (model P w) A (match b with | true => rule "set.scan.the-table-gave-way" | false => pure ()) Q' E s₁ := fun b s₁ Q' q => by
      cases b
      · exact wpAny_pure q
      · exact wpAny_rule q
    generalize layNew t es (knd.hash k) v = Z at pm small1 fit ris led ⊢
    obtain ⟨es1, t1, dummy, gave⟩ := Z
    dsimp only at pm small1 fit ris led ⊢
    apply wpAny_bind
    refine wg _ ?_
    have gave' : ∀ (b : Bool) (s₁ : Shared) (Q' : Unit → Shared → Prop), Q' () s₁ → wpAny (model P w) A (match b with | true => rule "set.scan.the-table-gave-way" | false => pure ()) Q' E s₁ := fun b s₁ Q' q => wg b q
    by_cases pl : t1.plain = true
    · rw [if_pos pl]
      apply wpAny_bind
      rw [hashByValue_scannable 8 hsc]
      apply wpAny_pure
      cases plainKind v with
      | true =>
        simp only [if_true]
        refine tail gave' ho hd pm small1 fit ris led ?_
        intro h' G
        exact wpAny_pure (new out h' G)
      | false =>
        simp only [Bool.false_eq_true, if_false]
        refine tail gave' ho hd pm small1 (SetTable.fits_plain_off fit) ris led ?_
        intro h' G
        exact wpAny_pure (new out h' G)
    · rw [if_neg pl]
      apply wpAny_bind
      apply wpAny_pure
      simp only [↓reduceIte]
      refine tail gave' ho hd pm small1 fit ris led ?_
      intro h' G
      exact wpAny_pure (new out h' G)
end
end TX

/-! Sets of texts: new, one more, sorted. -/
namespace TX
open PySem PySem.Spec PyProof.Rows L2
/-- these entries are the texts l -/
structure Els (w : World) (es : List (Int × Value)) (l : List Str) : Prop where
  each : ∀ e ∈ es, ∃ x u, e.2 = Value.str x u ∧ e.1 = hashStr w x
  perm : (es.map fun e => PyProof.Rows.strOf e.2).Perm l
/-- the set of the texts l at a; it can be walked -/
def SetS (w : World) (h : Heap) (a : Addr) (l : List Str) : Prop :=
  ∃ o es ep t, h.get? a = some o ∧ o.ExactSet ∧ o.data = .set es ep t ∧ Els w es.toList l ∧ l.Nodup ∧ es.size < scanBound ∧ t.fits es.size = true ∧ Ris t.place.toList ∧ (w.params.followText "set-order" = true ∨ t.led = true)
theorem SetS.keep {w : World} {h h' : Heap} {a : Addr} {l : List Str} (R : SetS w h a l) (k : ∀ o, h.get? a = some o → h'.get? a = some o) : SetS w h' a l := by
  obtain ⟨o, es, ep, t, ho, r⟩ := R
  exact ⟨o, es, ep, t, k o ho, r⟩
theorem isStr {P : Program} {w : World} (x : Str) (u : Tok) : (PySem.strKind P w).is x (.str x u) = true := by
  show Value.isStrOf x (.str x u) = true
  simp [Value.isStrOf]
theorem Els.kind {P : Program} {w : World} {es : List (Int × Value)} {l : List Str} (G : Els w es l) : ElemsOf (PySem.strKind P w) es := by
  intro e he
  obtain ⟨x, u, e2, e1⟩ := G.each e he
  exact ⟨⟨x, by rw [e2]; exact isStr x u, e1⟩, by rw [e2]; rfl⟩
theorem Els.mem {P : Program} {w : World} {es : List (Int × Value)} {l : List Str} (G : Els w es l) (x : Str) : (∃ e ∈ es, (PySem.strKind P w).is x e.2 = true) ↔ x ∈ l := by
  rw [← G.perm.mem_iff, List.mem_map]
  constructor
  · rintro ⟨e, he, q⟩
    obtain ⟨y, u, e2, _⟩ := G.each e he
    refine ⟨e, he, ?_⟩
    rw [e2] at q ⊢
    exact (PySem.strKind P w).inj (.str y u) y x (isStr y u) q
  · rintro ⟨e, he, q⟩
    obtain ⟨y, u, e2, _⟩ := G.each e he
    refine ⟨e, he, ?_⟩
    rw [e2] at q ⊢
    rw [← q]
    exact isStr y u
theorem Els.more {P : Program} {w : World} {es es' : List (Int × Value)} {l : List Str} {x : Str} {u : Tok} (G : Els w es l) (p : es'.Perm (((PySem.strKind P w).hash x, Value.str x u) :: es)) : Els w es' (x :: l) := by
  constructor
  · intro e he
    rcases List.mem_cons.mp (p.mem_iff.mp he) with rfl | he
    · exact ⟨x, u, rfl, rfl⟩
    · exact G.each e he
  · exact (p.map _).trans (G.perm.cons x)
/-- x put in -/
def put (x : Str) (l : List Str) : List Str := if x ∈ l then l else x :: l
theorem mem_put {x y : Str} {l : List Str} : y ∈ put x l ↔ y = x ∨ y ∈ l := by
  unfold put
  by_cases h : x ∈ l
  · rw [if_pos h]
    exact ⟨.inr, fun z => z.elim (fun e => e ▸ h) id⟩
  · rw [if_neg h, List.mem_cons]
theorem put_nodup {x : Str} {l : List Str} (h : l.Nodup) : (put x l).Nodup := by
  unfold put
  by_cases q : x ∈ l
  · rw [if_pos q]
    exact h
  · rw [if_neg q]
    exact List.nodup_cons.mpr ⟨q, h⟩
theorem put_length {x : Str} {l : List Str} : (put x l).length ≤ l.length + 1 := by
  unfold put
  by_cases q : x ∈ l
  · rw [if_pos q]
    omega
  · rw [if_neg q, List.length_cons]
    exact Nat.le_refl _
section
variable {P : Program} {w : World} {A : Around} {E : Value → Shared → Prop} {s : Shared} {a : Addr} {l : List Str}
theorem SetS.typeIs (R : SetS w s.heap a l) : s.TypeIs (.ref a) "set" := by
  obtain ⟨o, es, ep, t, ho, hx, _⟩ := R
  exact ⟨o, ho, hx.1⟩
theorem call_add {x : Str} {u : Tok} {Q : Value → Shared → Prop} (R : SetS w s.heap a l) (small : l.length + 1 < scanBound) (hQ : ∀ h', Heap.SameBut a s.heap h' → SetS w h' a (put x l) → Q .none { s with heap := h', toks := s.toks + 1 }) :
    wpAny (model P w) A (call (.builtin "set.add") [.ref a, .str x u]) Q E s := by
  refine wpAny_call_entry F.slot_set_add R.typeIs F.entry_set_add ?_ (F.args_set_add_2 _ _)
  obtain ⟨o, es, ep, t, ho, hx, hd, G, nd, hb, hf, hr, hl⟩ := R
  unfold Builtin.«set.add» Builtin.Frozenset.oneOther
  simp only [List.isEmpty_nil, bind_assoc]
  unfold Builtin.Frozenset.addrOf setAdd
  apply wpAny_bind
  apply wpAny_pure
  try dsimp only
  apply wpAny_bind
  apply wpAny_pure
  try dsimp only
  apply wpAny_bind
  apply wpAny_holding
  apply wpAny_bind
  refine (PySem.strKind P w).pyHash (isStr x u) ?_
  have sz : es.size = l.length := by
    have := G.perm.length_eq
    rw [List.length_map, Array.length_toList] at this
    exact this
  refine add (s := { s with toks := s.toks + 1 }) (knd := PySem.strKind P w) (k := x) (v := .str x u) ho hd G.kind (by omega) hf (isStr x u) rfl ?_ ?_
  · intro hin
    show wpAny _ _ (ret Value.none) _ _ _
    refine wpAny_pure ⟨_, rfl, hQ s.heap (Heap.SameBut.refl a s.heap) ?_⟩
    unfold put
    rw [if_pos ((G.mem x).1 hin)]
    exact ⟨o, es, ep, t, ho, hx, hd, G, nd, hb, hf, hr, hl⟩
  · intro out h' N
    show wpAny _ _ (ret Value.none) _ _ _
    refine wpAny_pure ⟨_, rfl, hQ h' N.same ?_⟩
    have hn : x ∉ l := fun z => by
      obtain ⟨e, he, q⟩ := (G.mem (P := P) x).2 z
      rw [out e he] at q
      cases q
    unfold put
    rw [if_neg hn]
    obtain ⟨es1, ep1, t1, h1, p1, f1, r1, l1⟩ := N.at'
    have sz1 : es1.size = es.size + 1 := by
      have := p1.length_eq
      rw [Array.length_toList, List.length_cons, Array.length_toList] at this
      exact this
    exact ⟨_, es1, ep1, t1, h1, hx, rfl, G.more (P := P) p1, List.nodup_cons.mpr ⟨hn, nd⟩, by omega, f1, r1 hr, hl.imp id fun z => l1.trans z⟩
theorem fresh {h : Heap} (w : World) : SetS w (h.push { cls := .type "set", dict := none, data := .set #[] 0 (.fresh 0 0 (!w.params.followText "set-order")) }) h.objs.size [] := by
  refine ⟨_, #[], 0, _, Heap.get?_push_size _ rfl, ⟨rfl, rfl, rfl⟩, rfl, ⟨fun e he => by simp at he, .nil⟩, .nil, by decide, by rfl, .nil, ?_⟩
  show _ ∨ (!w.params.followText "set-order") = true
  cases w.params.followText "set-order"
  · exact .inr rfl
  · exact .inl rfl
/-- sorted(it) -/
theorem call_sorted {Q : Value → Shared → Prop} (R : SetS w s.heap a l) (hh : A.handled = none) (h64 : l.length < 64)
    (hQ : ∀ s' p (out : Array Value) (c : Nat) (ys : List Str), (∀ b o, s.heap.get? b = some o → s'.heap.get? b = some o) → s'.gens = s.gens → s'.os = s.os → s.heap.objs.size ≤ p → s'.heap.get? p = some (seqObj "list" out c) → StrsAre out.toList ys → ys.Perm l → sortedS ys = true → Q (.ref p) s') :
    wpAny (model P w) A (call (.builtin "sorted") [.ref a]) Q E s := by
  obtain ⟨o, es, ep, t, ho, hx, hd, G, nd, hb, hf, hr, hl⟩ := R
  refine Calls.call_function_entry kind_sorted plain_sorted entry_sorted (args_sorted1 _) ?_
  unfold Builtin.«sorted»
  apply wpAny_bind (m := checkCount "sorted" 1 1 _)
  apply wpAny_pure
  apply wpAny_bind
  refine collect_set (A := A.in1) hh ⟨o, ho, hx.1, hd⟩ hf hb hr hl fun s1 vs k1 hz g1 o1 pm => ?_
  have hS : StrsAre vs (vs.map PyProof.Rows.strOf) := strsAre_map vs fun v hv => by
    obtain ⟨e, he, rfl⟩ := List.mem_map.mp (pm.mem_iff.mp hv)
    obtain ⟨x, u, e2, _⟩ := G.each e he
    exact ⟨x, u, e2⟩
  have pl : (vs.map PyProof.Rows.strOf).Perm l := by
    have q := pm.map PyProof.Rows.strOf
    rw [List.map_map] at q
    exact q.trans G.perm
  have hv : vs.length = l.length := by
    have := pl.length_eq
    rw [List.length_map] at this
    exact this
  apply wpAny_bind
  refine wpAny_newList ?_ (by rw [hv, sizeLine_eq]; omega)
  have hL : (s1.heap.push (seqObj "list" vs.toArray 0)).get? s1.heap.objs.size = some (seqObj "list" vs.toArray 0) := Heap.get?_push_size _ rfl
  apply wpAny_bind
  apply wpAny_holding
  refine wpAny_call_entry slot_list_sort ⟨_, hL, rfl⟩ entry_list_sort (list_sort_treeK strKind_oneLt hL hS.keysOf (fun v₁ v₂ rest e => keyKind_strs (by rw [← e]; exact hS)) (by rw [hv]; exact h64) fun st' hp hs => ⟨_, rfl, ?_⟩) (args_list_sort _)
  obtain ⟨ys, y1, y2, y3⟩ := sorted_out_str hS hp hs
  obtain ⟨c, hc⟩ := sortedHeap_at (vs := vs) (out := (arrOf st').map (·.2)) hL
  refine wpAny_pure ⟨_, rfl, hQ _ s1.heap.objs.size _ c ys (fun b u e => ?_) g1 o1 hz hc y1 (y2.trans pl) y3⟩
  have q := k1 b u e
  have lt := Heap.lt_size q
  show (sortedHeap (s1.heap.push (seqObj "list" vs.toArray 0)) s1.heap.objs.size vs _).get? b = some u
  rw [sortedHeap_old (Nat.ne_of_lt lt) (by rw [size_push']; exact Nat.lt_succ_of_lt lt)]
  exact Heap.get?_push_of_some _ q
end
end TX

/-! Sets of texts as things of the hand layer: a comprehension, sorted. -/
namespace TX
open PySem PySem.Spec PyProof.Rows L2
/-- the set of the texts l at a -/
def SetSO (w : World) (a : Addr) (l : List Str) : HO := .ext fun h => SetS w h a l
theorem so_new {w : World} {P : Program} {H : Hp} {h : Heap} {a : Addr} {l : List Str} (R : SetS w h a l) : ObjOk P w H h a (SetSO w a l) := by
  have ⟨o, _, _, _, ho, _⟩ := R
  exact ⟨R, ⟨o, ho⟩, fun h1 h2 p k => SetS.keep p k⟩
section
variable {X : Cx} {pins : List (Addr × Obj)} {σ : L2.St} {H : Hp} {s : Shared} {a : Addr} {l : List Str}
theorem so_get (I : Inv X pins σ H s) (ha : H a = some (SetSO X.w a l)) : SetS X.w s.heap a l := (I.hok a _ ha).1
theorem so_add {E : Value → Shared → Prop} {x : Str} {u : Tok} {Q : Value → Shared → Prop} (I : Inv X pins σ H s) (ha : H a = some (SetSO X.w a l)) (small : l.length + 1 < scanBound)
    (h : ∀ s', Inv X pins σ (upd H a (SetSO X.w a (put x l))) s' → Q .none s') : wpAny (model X.prog X.w) X.A (call (.builtin "set.add") [.ref a, .str x u]) Q E s := by
  refine call_add (so_get I ha) small fun h' sb new => ?_
  have there : ∃ o, h'.get? a = some o := by
    have ⟨o, _, _, _, ho, _⟩ := new
    exact ⟨o, ho⟩
  exact h _ (I.write (e := a) (t' := s.toks + 1) (by rw [ha]; trivial) (.inl rfl) (fun b o hb ho => (sb.2 b hb).trans ho) there (so_new new))
/-- sorted(a set of texts), fewer than 64 -/
def rSortedSS (w : World) : List V → Hp → VK → Prop := fun vs H Q => ∃ (a : Addr) (l : List Str), vs = [V.ref a] ∧ H a = some (SetSO w a l) ∧ l.length < 64 ∧ ∀ (ys : List Str) (p : Addr), ys.Perm l → sortedS ys = true → H p = none → Q (.ref p) (upd H p (.lst (ys.map V.str)))
theorem cr_sortedSS (hc : X.calm = true) : CallR X (.builtin "sorted") (rSortedSS X.w) := by
  intro pins s σ H vs us Q I r h
  obtain ⟨a, l, rfl, ha, h64, q⟩ := h
  rw [Vals.ref1 r]
  refine call_sorted (so_get I ha) (I.ok.hd hc) h64 fun s' p out c ys k g o hp hg hi hy hs => ?_
  have hlen : (ys.map V.str).length ≤ sizeLine := by
    rw [List.length_map, hy.length_eq, sizeLine_eq]
    omega
  have hn : H p = none := I.hok.fresh hp
  have J : Inv X pins σ (upd H p (.lst (ys.map V.str))) { s with heap := s'.heap, gens := s'.gens, drawn := s'.drawn, toks := s'.toks } :=
    I.call (ch := []) (Un.laid k hp hn) (I.hok.laid k hp ⟨hlen, out.toList, c, vals_of_strs hi, hg⟩) (by rw [g]; exact I.bare) (fun _ z => nomatch z)
  have e : s' = { s with heap := s'.heap, gens := s'.gens, drawn := s'.drawn, toks := s'.toks } := by
    cases s'
    cases s
    cases o
    rfl
  rw [e]
  exact ⟨.ref p, _, J, rfl, q ys p hy hs hn⟩
end
end TX

/-! {elt for target in iter if ..}, elt a text. -/
namespace TX
open PySem PySem.Spec PyProof.Rows L2 PpSet
/-- the element goes into the set at D -/
def Into (w : World) (D : Addr) (Nx : Hp → Prop) : VK := fun y H => ∃ (z : Str) (l : List Str), y = .str z ∧ H D = some (SetSO w D l) ∧ l.length + 1 < scanBound ∧ Nx (upd H D (SetSO w D (put z l)))
/-- one turn: target, tests, element -/
def Turn (w : World) (g : TG) (tt : TT) (te : TE) (vs : List Nat) (σ : L2.St) (D : Addr) (Nx : Hp → Prop) (x : V) (H : Hp) : Prop :=
  g x (wipe σ vs) H fun σ2 H2 => wipe σ2 vs = wipe σ vs ∧ tt σ2 H2 fun b H3 => if b = true then te σ2 H3 (Into w D Nx) else Nx H3
/-- the set comprehension's reading: W i m what holds before turn i, m falls -/
def tScS (w : World) (wi : TI) (g : TG) (tt : TT) (te : TE) (vs : List Nat) : TE := fun σ H Q => wi σ H fun J H1 => ∀ D, H1 D = none → ∃ W : Nat → Nat → Hp → Prop, (∃ m, W 0 m (upd H1 D (SetSO w D []))) ∧ ∀ i m H, W i m H →
  (J.stop i H ∧ Q (.ref D) H) ∨ (J.go i H ∧ ∃ Nx : Hp → Prop, (∀ H', Nx H' → ∃ m', m' < m ∧ W (i + 1) m' H') ∧ ∀ x H', J.yld i H x H' → Turn w g tt te vs σ D Nx x H')
section
variable {X : Cx}
theorem pe_scS {elt tg iter : Expr} {ifs : List Expr} {scope : Scope} {own : List (PySem.Str × Nat)} {pos : Pos} {wi : TI} {g : TG} {tt : TT} {te : TE} (hc : X.calm = true) (hN : X.N.Nodup) (hi : PI X tg iter wi) (ok : BlkOk X.N X.env.scope scope own)
    (hg : ∀ (s : Shared) (H : Hp) (C : Addr) (cl : List (PySem.Str × Addr)) (fp : List Addr), PG (X.blk s H scope (compEnvC scope cl C X.env) fp) tg g) (ht : ∀ (s : Shared) (H : Hp) (C : Addr) (cl : List (PySem.Str × Addr)) (fp : List Addr), PTs (X.blk s H scope (compEnvC scope cl C X.env) fp) ifs tt)
    (he : ∀ (s : Shared) (H : Hp) (C : Addr) (cl : List (PySem.Str × Addr)) (fp : List Addr), PE (X.blk s H scope (compEnvC scope cl C X.env) fp) elt te) (hs : ∀ x, foldedSetIterable iter X.env x = pure x := by intro _; rfl) :
    PE X (.SetComp elt [⟨tg, iter, ifs, 0⟩] scope pos) (tScS X.w wi g tt te (own.map (·.2))) := by
  refine ⟨fun pins s σ H Q I h => ?_⟩
  rw [eval_SetComp]
  have free : ∀ y ∈ scope.names, y.2 = .free → ∃ c, X.env.cells.lookup y.1 = some c := fun y hy e => (ok.free y hy e).elim (fun k => I.ok.has _ (.inl k)) (fun k => I.ok.has _ (.inr k))
  refine wpAny_comprehension_free rfl hs (closure_ok free) ok.kind (fun y hy e => by rw [ok.uniq y hy, e]) (thn (hi.run pins s σ H _ I h) fun xv s1 hx => thn hx fun itv s2 h2 => ?_)
  obtain ⟨it, fp, tn, J, H2, e, I2, T, st2, f2, q⟩ := h2
  subst e
  refine newSet_ok (newEnv_comp ?_)
  -- the new set is tracked
  obtain ⟨D, hD⟩ : ∃ D, s2.heap.objs.size = D := ⟨_, rfl⟩
  rw [hD]
  obtain ⟨W, ⟨m0, w0⟩, turn⟩ := q D (I2.hok.fresh (Nat.le_of_eq hD))
  obtain ⟨s3, hs3⟩ : ∃ s3 : Shared, ({ s2 with heap := s2.heap.push { cls := .type "set", dict := none, data := .set #[] 0 (.fresh 0 0 (!X.w.params.followText "set-order")) } } : Shared) = s3 := ⟨_, rfl⟩
  have h3 : s3.heap = s2.heap.push { cls := .type "set", dict := none, data := .set #[] 0 (.fresh 0 0 (!X.w.params.followText "set-order")) } := by rw [← hs3]
  obtain ⟨H3, hH3⟩ : ∃ H3, upd H2 D (SetSO X.w D []) = H3 := ⟨_, rfl⟩
  have I3 : Inv X pins σ H3 s3 := by
    rw [← hs3, ← hH3]
    refine I2.laid (t' := s2.toks) (fun b o e => Heap.get?_push_of_some _ e) (Nat.le_of_eq hD) ?_
    rw [← hD]
    exact so_new (fresh X.w)
  rw [hs3]
  rw [hH3] at w0
  -- what the iterator stands upon is not tracked
  have foot : ∀ b ∈ fp, FpOk X pins H3 b ∧ b < s3.heap.objs.size := fun b hb => by
    obtain ⟨o, e, _⟩ := T.obj _ _ st2 b hb
    have lt := Heap.lt_size e
    refine ⟨⟨?_, (f2 b hb).2⟩, ?_⟩
    · rw [← hH3, upd_ne (by rw [← hD]; exact Nat.ne_of_lt lt)]
      exact (f2 b hb).1
    · rw [h3, Heap.size_push]
      exact Nat.lt_succ_of_lt lt
  have st3 : tn 0 s3.heap := T.keep _ _ _ st2 fun b _ o e => by
    rw [h3]
    exact Heap.get?_push_of_some _ e
  have I4 := block_start I3 ok hN foot
  have pg := hg s3 H3 s3.heap.objs.size (cellsFrom (s3.heap.objs.size + 1) scope.names (cloFrom X.env.cells scope.names [])) fp
  have pt := ht s3 H3 s3.heap.objs.size (cellsFrom (s3.heap.objs.size + 1) scope.names (cloFrom X.env.cells scope.names [])) fp
  have pe := he s3 H3 s3.heap.objs.size (cellsFrom (s3.heap.objs.size + 1) scope.names (cloFrom X.env.cells scope.names [])) fp
  show codeAny _ _ (.compStart (.SetComp elt [⟨tg, iter, ifs, 0⟩] scope pos) 0 (.ref it) (.ref D) (compEnvC scope (cellsFrom (s3.heap.objs.size + 1) scope.names (cloFrom X.env.cells scope.names [])) s3.heap.objs.size X.env)) _ { s3 with heap := pushCells (s3.heap.push { cls := .type "dict", data := .dict #[] }) scope.names }
  have bare : ∀ b ∈ fp, H3 b = none := fun b hb => (foot b hb).1.1
  generalize hce : compEnvC scope (cellsFrom (s3.heap.objs.size + 1) scope.names (cloFrom X.env.cells scope.names [])) s3.heap.objs.size X.env = ce at I4 pg pt pe ⊢
  have cL : ce.locals = s3.heap.objs.size := by
    subst hce
    rfl
  generalize hs4 : ({ s3 with heap := pushCells (s3.heap.push { cls := .type "dict", data := .dict #[] }) scope.names } : Shared) = s4 at I4 ⊢
  have st4 : tn 0 s4.heap := T.keep _ _ _ st3 fun b _ o e => by
    rw [← hs4]
    exact pushCells_keeps _ _ _ _ (Heap.get?_push_of_some _ e)
  -- in the block as well
  have stat : ∀ {σ' : L2.St} {H' : Hp} {s' : Shared}, Inv (X.blk s3 H3 scope ce fp) [] σ' H' s' → (∀ b ∈ fp, H' b = none) → ∀ b ∈ fp, FpOk (X.blk s3 H3 scope ce fp) [] H' b := fun {σ' H' s'} I' hn b hb =>
    ⟨hn b hb, (I'.ok.exf b hb).1, I'.ok.exfs b hb, .inl hb, fun x c e => (I'.ok.exf b hb).2 x c e, fun p hp => absurd (show p ∈ ([] : List (Addr × Obj)) ++ [] from hp) (by simp)⟩
  refine (fun (loop : codeAny (model X.prog X.w) X.A (.compLoop (.SetComp elt [⟨tg, iter, ifs, 0⟩] scope pos) 0 (.ref it) (.ref D) ce) _ s4) => codeAny_compStart_set loop (T.self X.A 0 _ _ _ st4 loop)) ?_
  refine compLoopS_any (fun n s' => ∃ i H', Inv (X.blk s3 H3 scope ce fp) [] (wipe σ (own.map (·.2))) H' s' ∧ tn i s'.heap ∧ (∀ b ∈ fp, H' b = none) ∧ W i n H') ?_ m0 ⟨0, H3, I4, st4, bare, w0⟩
  rintro n s5 ⟨i, H5, I5, st5, n5, w5⟩
  rcases turn i n H5 w5 with ⟨stop, fin⟩ | ⟨go, Nx, hNx, step⟩
  · refine thnF (T.done (X.blk s3 H3 scope ce fp) rfl rfl rfl hc i [] s5 _ H5 (fun _ _ => False) I5 (stat I5 n5) st5 stop) fun r s6 ⟨hr, I6⟩ => ?_
    subst hr
    have I7 : Inv X pins σ H5 s6 := I3.call' (ch := fp) I6.os I6.base I6.hok I6.bare fun b hb => ⟨(foot b hb).1.2.2.2.1, (foot b hb).1.2.1, (foot b hb).1.2.2.2.2.1, (foot b hb).1.2.2.2.2.2⟩
    have gone : H5 s3.heap.objs.size = none := by
      have z : H5 ce.locals = none := I6.free
      rw [cL] at z
      exact z
    obtain ⟨m, hn, _⟩ := I6.loc
    have hn : s6.heap.Ns ce.locals m := hn
    rw [cL] at hn
    refine ⟨m, hn, fun h'' sb => ?_⟩
    obtain ⟨f0, f1, f2', f3, f4, f5⟩ := I3.fpOk (Nat.le_refl _) gone
    exact ⟨.ref D, H5, I7.turned (t' := s6.toks) (fun b o hb e => (sb.2 b hb).trans e) f0 f1 f3 f4 f5, rfl, fin⟩
  · refine thnF (T.item (X.blk s3 H3 scope ce fp) rfl rfl rfl hc i [] s5 _ H5 (fun _ _ => False) I5 (stat I5 n5) st5 go) fun r s6 ⟨u, hr, h6⟩ => ?_
    subst hr
    refine thnF h6 fun _ s7 ⟨x, H7, I7, r7, y7, st7, n7⟩ => ?_
    have I7' := I7.pinned (stat I7 n7) (T.obj _ _ st7)
    refine thnF (pg.run _ s7 _ H7 x u _ I7' r7 (step x H7 y7)) fun _ s8 ⟨σ8, H8, I8, hw8, q8⟩ => ?_
    refine thnF (pt.run _ s8 σ8 H8 _ I8 q8) fun b s9 ⟨H9, I9, q9⟩ => ?_
    have next : ∀ {s' : Shared} {H' : Hp}, Inv (X.blk s3 H3 scope ce fp) ([] ++ pinsAt fp s7.heap) σ8 H' s' → Nx H' → ∃ m, m < n ∧ ∃ i H', Inv (X.blk s3 H3 scope ce fp) [] (wipe σ (own.map (·.2))) H' s' ∧ tn i s'.heap ∧ (∀ b ∈ fp, H' b = none) ∧ W i m H' := fun {s' H'} I' nx => by
      obtain ⟨m', hm, w'⟩ := hNx H' nx
      have pinned : ∀ b ∈ fp, ∀ o, s7.heap.get? b = some o → s'.heap.get? b = some o ∧ H' b = none := fun b hb o e => by
        have z := I'.pin (b, o) (List.mem_append_right _ (List.mem_append_right _ (mem_pinsAt hb e)))
        exact ⟨z.1, z.2.1⟩
      have len : (wipe σ (own.map (·.2))).length = σ8.length := by rw [← hw8, wipe_length]
      refine ⟨m', hm, i + 1, H', (I'.unpinned (pins := [])).weak len (fun j v e => ?_), T.keep _ _ _ st7 fun b hb o e => (pinned b hb o e).1, fun b hb => ?_, w'⟩
      · rw [← hw8] at e
        exact (wipe_some e).1
      · obtain ⟨o, e, _⟩ := T.obj _ _ st7 b hb
        exact (pinned b hb o e).2
    cases b with
    | false =>
      simp only [Bool.false_eq_true, if_false] at q9 ⊢
      exact next I9 q9
    | true =>
      simp only [if_true] at q9 ⊢
      refine thnF (pe.run _ s9 σ8 H9 _ I9 q9) fun z s10 ⟨yv, H10, I10, r10, zt, l0, ey, hD10, hz10, nx⟩ => ?_
      subst ey
      obtain ⟨tk, rfl⟩ : ∃ tk, z = Value.str zt tk := r10
      exact so_add (X := X.blk s3 H3 scope ce fp) I10 hD10 hz10 fun s11 I11 => next I11 nx
end
end TX

namespace L9
open PySem PySem.Spec PyProof.Rows L2 GR AD RZ WX ZE TX
/-! ### free keys -/
abbrev W1 : List Str := ["free"]
def kidsF : PyData → List PyData
  | .tuple (.str w :: r) => (match look w with | some fs => pick W1 fs r | none => [])
  | _ => []
def isKey : PyData → Bool
  | .tuple (.str w :: _) => decide (w = "key")
  | _ => false
theorem pick_sub : ∀ (fs : List Str) (ds : List PyData), (pick W1 fs ds).Sublist (pick W2 fs ds)
  | [], _ => by simp only [pick]; exact List.Sublist.refl _
  | _ :: _, [] => by simp only [pick]; exact List.Sublist.refl _
  | f :: fs, d :: ds => by
    have ih := pick_sub fs ds
    rw [pick, pick]
    refine List.Sublist.append ?_ ih
    by_cases e : f = "extra"
    · rw [if_pos e, if_pos e]
      exact List.Sublist.refl _
    · rw [if_neg e, if_neg e]
      by_cases e2 : f ∈ W1
      · rw [if_pos e2, if_pos (by simp only [W1, W2, List.mem_cons, List.not_mem_nil, or_false] at e2 ⊢; exact .inl e2)]
        exact List.Sublist.refl _
      · rw [if_neg e2]
        exact List.nil_sublist _
theorem kidsF_sub (x : PyData) : (kidsF x).Sublist (kidsE x) := by
  unfold kidsF
  split
  · rename_i w r
    show (match look w with | some fs => pick W1 fs r | none => []).Sublist (match look w with | some fs => pick W2 fs r | none => [])
    cases look w with
    | none => exact List.Sublist.refl _
    | some fs => exact pick_sub fs r
  · exact List.nil_sublist _
theorem szs_sub {a b : List PyData} (h : a.Sublist b) : szs a ≤ szs b := by
  induction h with
  | slnil => exact Nat.le_refl _
  | cons x _ ih => rw [szs]; omega
  | cons_cons x _ ih => rw [szs, szs]; omega
theorem kidsF_sz (d : PyData) : szs (kidsF d) < sz d := Nat.lt_of_le_of_lt (szs_sub (kidsF_sub d)) (kidsE_sz d)
def keyE : Nat → PyData → Bool
  | 0, _ => false
  | n + 1, d => isKey d || (kidsF d).any (keyE n)
theorem any_cong {α : Type} {f g : α → Bool} : ∀ {l : List α}, (∀ x, x ∈ l → f x = g x) → l.any f = l.any g
  | [], _ => rfl
  | x :: l, h => by rw [List.any_cons, List.any_cons, h x List.mem_cons_self, any_cong fun y hy => h y (List.mem_cons_of_mem _ hy)]
theorem keyE_same : ∀ {n m : Nat} {d : PyData}, sz d ≤ n → sz d ≤ m → keyE n d = keyE m d
  | 0, _, d, h, _ => by have := sz_pos d; omega
  | _ + 1, 0, d, _, h => by have := sz_pos d; omega
  | n + 1, m + 1, d, h1, h2 => by
    have hk := kidsF_sz d
    rw [keyE, keyE]
    congr 1
    exact any_cong fun y hy => by
      have := sz_mem hy
      exact keyE_same (by omega) (by omega)
def keyX (d : PyData) : Bool := keyE (sz d) d
theorem keyX_step (d : PyData) : keyX d = (isKey d || (kidsF d).any keyX) := by
  have hp := sz_pos d
  have hk := kidsF_sz d
  unfold keyX
  obtain ⟨n, hn⟩ : ∃ n, sz d = n + 1 := ⟨sz d - 1, by omega⟩
  rw [hn, keyE]
  congr 1
  exact any_cong fun y hy => by
    have := sz_mem hy
    exact keyE_same (by omega) (Nat.le_refl _)
theorem dpAll_split {K : PySem.W.Frag} {H : Hp} : ∀ {a b : List V} {ds : List PyData}, DpAll K H (a ++ b) ds → ∃ d1 d2, ds = d1 ++ d2 ∧ DpAll K H a d1 ∧ DpAll K H b d2
  | [], b, ds, h => ⟨[], ds, rfl, .nil, h⟩
  | v :: a, b, _, .cons h t => by
    obtain ⟨d1, d2, rfl, h1, h2⟩ := dpAll_split t
    exact ⟨_ :: d1, d2, rfl, .cons h h1, h2⟩
theorem dpAll_last {K : PySem.W.Frag} {H : Hp} {us : List V} {xs : List PyData} (h : DpAll K H us xs) (hne : us ≠ []) : ∃ y d xs', xs = xs' ++ [d] ∧ us[us.length - 1]? = some y ∧ DpAll K H us.dropLast xs' ∧ Dp K H y d := by
  have e := List.dropLast_concat_getLast hne
  rw [← e] at h
  obtain ⟨d1, d2, rfl, g1, g2⟩ := dpAll_split h
  cases g2 with
  | cons g3 g4 =>
  cases g4
  refine ⟨us.getLast hne, _, d1, rfl, ?_, g1, g3⟩
  rw [← List.getLast?_eq_getElem?, List.getLast?_eq_getLast hne]
section
variable {P : Program} {w : World} {K : PySem.W.Frag} {mg : Str → Option Value} {base : Heap}
abbrev s_contained_free : Stmt := topS 18
theorem sc_contained_free : FnScope ["expression"] ["expression"] (defScope s_contained_free) := ⟨rfl, rfl, rfl, by decide +kernel, rfl, by decide +kernel, by decide +kernel⟩
def sp_cf (K : PySem.W.Frag) : Sp := fun vs H Q _ => ∃ (v : V) (x : PyData), vs = [v] ∧ Dp K H v x ∧ Xp x ∧ ∀ H' p us, Same H H' → H p = none → H' p = some (.lst us) → DpAll K H' us (kidsF x) → Q (.ref p) H'
theorem ok_contained_free {f fc : Addr} {fd fdc : FuncData} {k : Nat} (F : Fun K "contained_free" "contained_free" s_contained_free f fd) (Gc : FnOk P w K mg base CX0 k fc fdc ["expression", "wanted"] (sp_contained_of K)) (gc : mg "contained_of" = some (.ref fc)) (Kc : PySem.W.keepIn K (.ref fc) = true) (bc : Binds K fdc ["expression", "wanted"] []) :
    FnOk P w K mg base CX0 (k + 1) f fd ["expression"] (sp_cf K) := by
  have nd := sc_contained_free.nd
  refine F.ok sc_contained_free (fun vs H Q E h => ?_) (fun cdv A outer s H vs Q E hr h => ?_)
  · obtain ⟨v, x, rfl, _⟩ := h
    rfl
  obtain ⟨v, x, rfl, hd, hx, q⟩ := h
  refine ⟨_, (pss_one (ps_ret (pe_call Gc hr (by rfl) gc Kc bc .nil pass0 (pa_cons (pv 0) (pa_cons (pe_tup (pa_cons pe_str pa_nil)) pa_nil))))), ?_⟩
  have hfl := isX_flat hx.x
  have hz := hx.sz
  have hkz := kidsF_sz x
  have hkl := szs_len (kidsF x)
  have hkx : ∀ y, y ∈ kidsF x → isX y = true := fun y hy => isX_kids hx.x y ((kidsF_sub x).subset hy)
  obtain ⟨_, _, wd, fs, rest, rfl, lk, hfit, _⟩ := kids_sz x (isX_form hx.x)
  have hk : kidsF (.tuple (.str wd :: rest)) = pick W1 fs rest := by
    show (match look wd with | some fs => pick W1 fs rest | none => []) = _
    rw [lk]
  cases hd with
  | tup hS hA =>
  rename_i a vs
  refine ⟨.ref a, rfl, Nat.le_trans (show 1 ≤ 2 by decide) le2, fun t nt => ?_⟩
  have st := same_upd (o := .tup [.str "free"]) nt
  refine ⟨a, t, wd, fs, W1, rest, F0, rfl, dd_of _ _ hfl (dp_keep (KeepT.of st) _ _ hfl (.tup hS hA)), look_some lk, fits_of hfit, ?_, .inl (.inl upd_same), fun H' p us s1 np hp hu => ?_⟩
  · rw [← hk]
    omega
  · rw [← hk] at hu
    exact q H' p us (st.trans s1) (st.free np) hp (dp_ofs _ _ (isXs_flat hkx) hu)
abbrev s_has_free_key : Stmt := topS 25
theorem sc_has_free_key : FnScope ["expression", "todo", "part"] ["expression"] (defScope s_has_free_key) := ⟨rfl, rfl, rfl, by decide +kernel, rfl, by decide +kernel, by decide +kernel⟩
/-- what is still to do: the list at td -/
def FInv (K : PySem.W.Frag) (x : PyData) (v : V) (td : Addr) (H0 : Hp) (m : Nat) (σ : L2.St) (H : Hp) : Prop :=
  ∃ (z : Option V) (us : List V) (xs : List PyData), σ = [some v, some (.ref td), z] ∧ H td = some (.lst us) ∧ DpAll K H us xs ∧ (∀ y, y ∈ xs → Xp y) ∧ m = szs xs ∧ m ≤ 4000000 ∧ keyX x = xs.any keyX ∧ (∀ b o, b ≠ td → H0 b = some o → H b = some o)
theorem ok_has_free_key {f fc : Addr} {fd fdc : FuncData} {k : Nat} (F : Fun K "has_free_key" "has_free_key" s_has_free_key f fd) (Gc : FnOk P w K mg base CX0 k fc fdc ["expression"] (sp_cf K)) (gc : mg "contained_free" = some (.ref fc)) (Kc : PySem.W.keepIn K (.ref fc) = true) (bc : Binds K fdc ["expression"] []) :
    FnOk P w K mg base CX0 (k + 1) f fd ["expression"] (sp_tx K keyX) := by
  have nd := sc_has_free_key.nd
  refine F.ok sc_has_free_key (fun vs H Q E h => ?_) (fun cdv A outer s H vs Q E hr h => ?_)
  · obtain ⟨v, x, rfl, _⟩ := h
    rfl
  obtain ⟨v, x, rfl, hd, hx, q⟩ := h
  refine ⟨_, (pss_cons (ps_set (i := 1) nd rfl (.inl rfl) (pe_lst (pa_cons (pv 0) pa_nil)))
      (pss_cons (ps_while PassesOwn.never (pt_truth (pv 1) (fun _ => rfl))
      (pss_cons (ps_set (i := 2) nd rfl (.inl rfl) (pe_bm0 PySem.F.plainAttrs_list PySem.F.slot_list_pop PySem.F.type_list_pop mt_pop (pv 1)))
        (pss_cons (ps_if (pt_cmpR op_eq (pe_ix ix_tup (pv 2) pe_int (fun _ _ => rfl)) pe_str (nomark _))
        (pss_one (ps_ret pe_bl))
        pss_nil)
        (pss_one (ps_expr (pe_bm PySem.F.plainAttrs_list PySem.F.slot_list_extend PySem.F.type_list_extend mt_extend (pv 1) (pa_cons (pe_call Gc hr (by rfl) gc Kc bc .nil pass0 (pa_cons (pv 2) pa_nil)) pa_nil)))))))
      (pss_one (ps_ret pe_bl)))), ?_⟩
  refine ⟨v, rfl, small_le (show 1 ≤ 1000 by decide), fun td ntd => ?_⟩
  have sl0 := same_upd (o := .lst [v]) ntd
  have hsz : szs [x] ≤ 4000000 := by
    have := hx.sz
    rw [szs, szs]
    omega
  refine ⟨FInv K x v td H, ⟨szs [x], none, [v], [x], rfl, upd_same, .cons (dp_keep (KeepT.of sl0) _ _ (isX_flat hx.x) hd) .nil, ?_, rfl, hsz, ?_, fun b o _ e => sl0 _ _ e⟩, ?_⟩
  · intro y hy
    rw [List.mem_singleton.mp hy]
    exact hx
  · rw [List.any_cons, List.any_nil, Bool.or_false]
  · rintro m σ H' ⟨z, us, xs, rfl, hu, hA, hE, rfl, hm, hf, kk⟩
    have lu := dpAll_len hA
    have fin : ∀ H2, (∀ b o, b ≠ td → H' b = some o → H2 b = some o) → Same H H2 := fun H2 s2 b o e => s2 _ _ (ne_of_none e ntd) (kk _ _ (ne_of_none e ntd) e)
    refine ⟨.ref td, rfl, !us.isEmpty, .inl ⟨us, .inl (.inl hu), rfl⟩, ?_⟩
    cases hus : us with
    | nil =>
      subst hus
      cases hA
      rw [List.any_nil] at hf
      refine iteF ?_
      have := q H' (fin H' fun b o _ e => e)
      rw [hf] at this
      exact this
    | cons u0 ur =>
      have hne : us ≠ [] := by
        rw [hus]
        exact List.cons_ne_nil _ _
      rw [← hus]
      have full : (!us.isEmpty) = true := by
        rw [hus]
        rfl
      rw [full]
      obtain ⟨y, d, xs', rfl, hy, hA', hyd⟩ := dpAll_last hA hne
      have ed := hE d (List.mem_append_right _ (List.mem_singleton.mpr rfl))
      have hE' : ∀ y, y ∈ xs' → Xp y := fun y hy => hE y (List.mem_append_left _ hy)
      have fx' : flatDs xs' = true := isXs_flat fun y hy => (hE' y hy).x
      have hse : szs (xs' ++ [d]) = szs xs' + sz d := by rw [szs_append, szs, szs]; omega
      rw [hse] at hm
      have hkz := kidsF_sz d
      have hkl := szs_len (kidsF d)
      have hxl := szs_len xs'
      have hkp : ∀ y, y ∈ kidsF d → Xp y := fun y hy => ed.kids y ((kidsF_sub d).subset hy)
      rw [List.any_append, List.any_cons, List.any_nil, Bool.or_false, keyX_step d] at hf
      refine iteT ⟨fun σ' H'' => ∃ m', m' < szs (xs' ++ [d]) ∧ FInv K x v td H m' σ' H'', fun σ' H'' h => h, ?_⟩
      refine ⟨.ref td, rfl, .inl ⟨rfl, _, .inl (.inl hu)⟩, td, us, y, rfl, rfl, hu, hy, ?_⟩
      have k1 : KeepT H' (upd H' td (.lst us.dropLast)) := KeepT.lst hu
      have hu1 : upd H' td (.lst us.dropLast) td = some (.lst us.dropLast) := upd_same
      have keep1 : ∀ b o, b ≠ td → H' b = some o → upd H' td (.lst us.dropLast) b = some o := fun b o hb e => by
        rw [upd_ne hb]
        exact e
      have hA1 := dp_keepAll k1 _ _ fx' hA'
      have hyd1 := dp_keep k1 _ _ (isX_flat ed.x) hyd
      revert k1 hu1 keep1 hA1 hyd1
      generalize upd H' td (.lst us.dropLast) = H1
      intro k1 hu1 keep1 hA1 hyd1
      obtain ⟨wd, r, rfl⟩ := isX_head ed.x
      have hyd2 := hyd1
      cases hyd2 with
      | tup hS hB =>
      cases hB with
      | cons hw hB =>
      cases hw
      rename_i a vs
      have hik : isKey (.tuple (.str wd :: r)) = decide (wd = "key") := rfl
      rw [hik] at hf
      refine ⟨.ref a, rfl, a, _, 0, .str wd, rfl, rfl, hS, at0, rfl, _, rfl, ite2 (fun e1 => ?_) (fun e1 => ?_)⟩
      · have e1 : wd = "key" := by simpa using e1
        have := q H1 (fin H1 keep1)
        rw [hf, decide_eq_true e1, Bool.true_or, Bool.or_true] at this
        exact this
      · have e1 : wd ≠ "key" := fun z => e1 (by simpa using z)
        rw [decide_eq_false e1, Bool.false_or, ← List.any_append] at hf
        refine ⟨.ref td, rfl, .inl ⟨rfl, _, .inl (.inl hu1)⟩, .ref a, rfl, .ref a, _, rfl, hyd1, ed, fun H2 p us2 s2 np hp hu2 => ?_⟩
        have htd2 := s2 _ _ hu1
        have l1 := dpAll_len hA1
        have l2 := dpAll_len hu2
        have k2 : KeepT H2 (upd H2 td (.lst (us.dropLast ++ us2))) := KeepT.lst htd2
        refine ⟨td, p, us.dropLast, us2, rfl, rfl, htd2, hp, ?_, szs (xs' ++ kidsF (.tuple (.str wd :: r))), ?_, some (.ref a), us.dropLast ++ us2, xs' ++ kidsF (.tuple (.str wd :: r)), rfl, upd_same, ?_, ?_, rfl, ?_, hf, fun b o hb e => ?_⟩
        · rw [l1, l2, sizeLine_eq]
          omega
        · rw [szs_append, hse]
          omega
        · exact dpAll_append (dp_keepAll ((KeepT.of s2).trans k2) _ _ fx' hA1) (dp_keepAll k2 _ _ (isXs_flat fun y hy => (hkp y hy).x) hu2)
        · intro y hy
          rcases List.mem_append.mp hy with hy | hy
          · exact hE' y hy
          · exact hkp y hy
        · rw [szs_append]
          omega
        · rw [upd_ne hb]
          exact s2 _ _ (keep1 _ _ hb (kk _ _ hb e))
/-! ### variables -/
def varName : PyData → Option Str
  | .tuple (.str w :: .str z :: _) => if w = "var" then some z else none
  | _ => none
/-- what is true of each variable -/
def varQ (q : Str → Bool) (d : PyData) : Bool := match varName d with
  | some z => q z
  | none => true
theorem varName_no {w : Str} {r : List PyData} (h : w ≠ "var") : varName (.tuple (.str w :: r)) = none := by
  cases r with
  | nil => rfl
  | cons a r => cases a <;> first | rfl | exact if_neg h
theorem isX_var {r : List PyData} (h : isX (.tuple (.str "var" :: r)) = true) : ∃ z, r = [.str z] ∧ isN (.str z) = true := by
  have hf := isX_form h
  rw [form_some (show look "var" = some (["name"] : List Str) by decide)] at hf
  match r, hf with
  | [a], hf =>
    have hf' : (fitsD "name" a && true) = true := hf
    rw [Bool.and_true] at hf'
    have h1 : isN a = true := hf'
    cases a with
    | str z => exact ⟨z, rfl, h1⟩
    | _ => cases h1
  | [], hf => cases hf
  | _ :: _ :: _, hf => simp [fitsAll] at hf
theorem nodup_le : ∀ {l m : List Str}, l.Nodup → (∀ z, z ∈ l → z ∈ m) → l.length ≤ m.length
  | [], _, _, _ => Nat.zero_le _
  | a :: l, m, h, s => by
    obtain ⟨h1, h2⟩ := List.nodup_cons.mp h
    have ha := s a List.mem_cons_self
    have := nodup_le (m := m.erase a) h2 fun z hz => by
      have hne : z ≠ a := fun e => h1 (e ▸ hz)
      exact (List.mem_erase_of_ne hne).mpr (s z (List.mem_cons_of_mem _ hz))
    rw [List.length_erase_of_mem ha] at this
    have pos : 0 < m.length := List.length_pos_of_mem ha
    rw [List.length_cons]
    omega
theorem all_varQ (q : Str → Bool) : ∀ l : List PyData, l.all (varQ q) = (l.filterMap varName).all q
  | [] => rfl
  | x :: l => by
    rw [List.all_cons, List.filterMap_cons, all_varQ q l]
    unfold varQ
    cases varName x <;> rfl
abbrev s_variables_of : Stmt := topS 27
abbrev N_vars : List Str := ["expression", "part"]
theorem sc_variables_of : FnScope N_vars ["expression"] (defScope s_variables_of) := ⟨rfl, rfl, rfl, by decide +kernel, rfl, by decide +kernel, by decide +kernel⟩
def sp_vs (K : PySem.W.Frag) : Sp := fun vs H Q _ => ∃ (v : V) (x : PyData) (S : List Str), vs = [v] ∧ Dp K H v x ∧ Xp x ∧ S.length ≤ 60 ∧ allX (varQ fun z => decide (z ∈ S)) x = true ∧
  ∀ (H' : Hp) (p : Addr) (ys : List Str), Same H H' → H p = none → H' p = some (.tup (ys.map V.str)) → ys.length ≤ 60 → (∀ q, ys.all q = allX (varQ q) x) → Q (.ref p) H'
theorem ok_variables_of {f fc : Addr} {fd fdc : FuncData} {k : Nat} (F : Fun K "variables_of" "variables_of" s_variables_of f fd) (Gc : FnOk P w K mg base CX0 k fc fdc ["expression"] (sp_ap K)) (gc : mg "all_parts" = some (.ref fc)) (Kc : PySem.W.keepIn K (.ref fc) = true) (bc : Binds K fdc ["expression"] [])
    (msorted : mg "sorted" = none) (mtuple : mg "tuple" = none) : FnOk P w K mg base CX0 (k + 1) f fd ["expression"] (sp_vs K) := by
  have nd := sc_variables_of.nd
  refine F.ok sc_variables_of (fun vs H Q E h => ?_) (fun cdv A outer s H vs Q E hr h => ?_)
  · obtain ⟨v, x, S, rfl, _⟩ := h
    rfl
  obtain ⟨v, x, S, rfl, hd, hxp, hS60, hSx, q⟩ := h
  refine ⟨_, (pss_one (ps_ret (pe_callTy call_tuple_of (by rfl) mtuple boot_tuple (pa_cons (pe_callB (cr_sortedSS rfl) (by rfl) msorted boot_sorted (pa_cons (pe_scS (own := [("part", 1)]) rfl nd (pi_list (pe_call Gc hr (by rfl) gc Kc bc .nil pass0 (pa_cons (pv 0) pa_nil))) (blkOk_by (N := N_vars) (sc := defScope s_variables_of) (by decide +kernel))
      (fun _ _ _ _ _ => (pg_name (i := 1) nd rfl (Or.inl rfl)))
      (tt := tTest (tOp rEq (tOp (rIxT K) (tVar 1) (tC (.int 0))) (tC (.str "var")))) (fun _ _ _ _ _ => pts_one (pt_cmpR op_eq (pe_ix ix_tup (pv 1) pe_int (fun _ _ => rfl)) pe_str (nomark _)))
      (te := tOp (rIxT K) (tVar 1) (tC (.int 1))) (fun _ _ _ _ _ => (pe_ix ix_tup (pv 1) pe_int (fun _ _ => rfl)))) pa_nil)) pa_nil)))), ?_⟩
  refine ⟨v, rfl, v, x, rfl, hd, hxp.x, hxp.sz, fun H1 p us xs s1 np hp hu hE hq hl => ⟨p, rfl, ⟨us, .inl (.inl hp)⟩, fun D nD => ?_⟩⟩
  have lu := dpAll_len hu
  have hvz : ∀ z, z ∈ xs.filterMap varName → z ∈ S := fun z hz => by
    have h1 := (hq (varQ fun z => decide (z ∈ S))).trans hSx
    rw [all_varQ, List.all_eq_true] at h1
    exact of_decide_eq_true (h1 z hz)
  refine walk_body (xs := us) (fun i H' => ∃ l, H' D = some (SetSO w D l) ∧ l.Nodup ∧ (∀ z, z ∈ l ↔ z ∈ (xs.take i).filterMap varName) ∧ Same H1 H') ?_ ?_ ?_ ?_
  · refine ⟨[], upd_same, .nil, fun z => ?_, same_upd nD⟩
    rw [List.take_zero]
    exact Iff.rfl
  · rintro i H' _ ⟨l, hl, hn, hm, kk⟩
    exact .inl (.inl (kk _ _ hp))
  · rintro i y H' hy ⟨l, hl, hn, hm, kk⟩
    obtain ⟨d, hdi, hyd⟩ := dpAll_at hu hy
    have ex := hE d (List.mem_of_getElem? hdi)
    have hyd2 := dp_keep (KeepT.of kk) _ _ (isX_flat ex) hyd
    have vt : (xs.take (i + 1)).filterMap varName = (xs.take i).filterMap varName ++ (varName d).toList := by
      rw [take_at hdi, List.filterMap_append, List.filterMap_cons]
      cases varName d <;> rfl
    obtain ⟨wd, rest, rfl⟩ := isX_head ex
    cases hyd2 with
    | tup hS hA =>
    cases hA with
    | cons hw hA =>
    cases hw
    rename_i a vs
    refine ⟨rfl, .ref a, rfl, a, _, 0, .str wd, rfl, rfl, hS, at0, rfl, _, rfl, ite2 (fun e1 => ?_) (fun e1 => ?_)⟩
    · have e1 : wd = "var" := by simpa using e1
      subst e1
      obtain ⟨z, rfl, hzz⟩ := isX_var ex
      cases hA with
      | cons hw hA =>
      cases hw
      refine ⟨.ref a, rfl, a, _, 1, .str z, rfl, rfl, hS, at1, z, l, rfl, hl, ?_, put z l, upd_same, put_nodup hn, fun z' => ?_, fun b o e => ?_⟩
      · have := nodup_le (m := S) hn fun z' hz' => hvz z' (by
          have h1 := (hm z').mp hz'
          obtain ⟨y, hy, e⟩ := List.mem_filterMap.mp h1
          exact List.mem_filterMap.mpr ⟨y, List.mem_of_mem_take hy, e⟩)
        show _ < 4096
        omega
      · rw [mem_put, vt, List.mem_append, hm z']
        have : (varName (.tuple [.str "var", .str z])).toList = [z] := by
          unfold varName
          simp
        rw [this, List.mem_singleton]
        exact Or.comm
      · rw [upd_ne (ne_of_none e nD)]
        exact kk _ _ e
    · have e1 : wd ≠ "var" := fun z => e1 (by simpa using z)
      refine ⟨l, hl, hn, fun z => ?_, kk⟩
      rw [vt, varName_no e1, hm z]
      simp
  · rintro H' ⟨l, hl, hn, hm, kk⟩
    rw [lu, List.take_length] at hm
    have h6 := nodup_le (m := S) hn fun z' hz' => hvz z' ((hm z').mp hz')
    refine ⟨D, l, rfl, hl, by omega, fun ys r hperm hsrt nr => ?_⟩
    have sr := same_upd (o := .lst (ys.map V.str)) nr
    refine ⟨r, ys.map V.str, rfl, .inl ⟨.inl (.inl upd_same), fun t nt => ?_⟩⟩
    have st := same_upd (o := .tup (ys.map V.str)) nt
    refine q _ t ys (s1.trans (kk.trans (sr.trans st))) ((s1.trans (kk.trans sr)).free nt) upd_same (by rw [hperm.length_eq]; omega) fun p => ?_
    rw [← hq (varQ p), all_varQ, Bool.eq_iff_iff, List.all_eq_true, List.all_eq_true]
    exact ⟨fun g z hz => g z (hperm.mem_iff.mpr ((hm z).mpr hz)), fun g z hz => g z ((hm z).mp (hperm.mem_iff.mp hz))⟩
end
end L9

/-! Words that the hand layer lacks: a dict made and walked at once, a dict that takes another's entries. -/
namespace L9
open PySem PySem.Spec PyProof.Rows L2 GR AD RZ WX ZE TX
/-- what an expression gives is locked from here on -/
def tFrz (t : TE) : TE := fun σ H Q => t σ H fun v H1 => ∃ (d : Addr) (u : HO), v = .ref d ∧ H1 d = some u ∧ Mut (some u) ∧ ∀ od, Q (.ref d) (upd H1 d (.frz od u))
def mergeD (kvs more : List (Key × V)) : List (Key × V) := more.foldl (fun acc kv => putK acc kv.1 kv.2) kvs
theorem kv_merge : ∀ {more : List (Key × V)} {ms : List (Key × Value)} {kvs : List (Key × V)} {vs : List (Key × Value)}, KV kvs vs → KV more ms → KV (mergeD kvs more) (merged vs ms)
  | [], _, kvs, vs, h, g => by
    cases g
    exact h
  | kv :: more, _, kvs, vs, h, g => by
    cases g with
    | @cons p q ps qs g1 g2 =>
    have e : q.1 = kv.1 := g1.1.symm
    have := kv_merge (KV.put h kv.1 g1.2) g2
    rw [← e] at this
    unfold mergeD merged
    rw [List.foldl_cons, List.foldl_cons, ← e]
    exact this
theorem mergeK_le : ∀ {more kvs : List (Key × V)}, (mergeD kvs more).length ≤ kvs.length + more.length
  | [], kvs => Nat.le_refl _
  | kv :: more, kvs => by
    have := mergeK_le (more := more) (kvs := putK kvs kv.1 kv.2)
    have h2 := length_putK kvs kv.1 kv.2
    unfold mergeD at this ⊢
    rw [List.foldl_cons, List.length_cons]
    omega
def rDUpd : V → List V → Hp → VK → Prop := fun x vs H Q => ∃ (d e : Addr) (kvs more : List (Key × V)), x = .ref d ∧ vs = [.ref e] ∧ d ≠ e ∧ H d = some (.dK kvs) ∧ H e = some (.dK more) ∧ kvs.length + more.length ≤ sizeLine ∧ Q .non (upd H d (.dK (mergeD kvs more)))
section
variable {X : L2.Cx}
theorem pe_frz {e : Expr} {t : TE} (h : PE X e t) : PE X e (tFrz t) := by
  refine ⟨fun pins s σ H Q I hw => ?_⟩
  refine thn (h.run pins s σ _ _ I hw) fun v s1 ⟨x, H1, I1, r, d, u, ex, hd, mu, q⟩ => ?_
  subst ex
  obtain ⟨od, I2⟩ := I1.lock hd mu
  exact ⟨.ref d, _, I2, r, q od⟩
theorem mt_dupd : MtR X "dict.update" rDUpd := by
  intro pins s σ H x vs v us Q I rx rv h
  obtain ⟨d, e, kvs, more, rfl, rfl, hne, hd, he, hz, q⟩ := h
  cases rx
  obtain ⟨u, rfl, ru⟩ := rv.one
  cases ru
  obtain ⟨z1, hd1, vs1, rel1, dd1⟩ := dk_rd I.hok (.inl hd)
  obtain ⟨z2, hd2, vs2, rel2, dd2⟩ := dk_rd I.hok (.inl he)
  have l1 := rel1.length
  have l2 := rel2.length
  refine call_meetsIn PySem.F.slot_dict_update dd1.typeIs PySem.F.entry_dict_update (PySem.F.args_dict_update_2 _ _) (meets_dict_update (mixKind X.prog X.w) d e hne hd2)
    ⟨vs1, vs2, dd1, dd2, by omega, fun h' dd' _ hs => ⟨.non, _, ?_, rfl, q⟩⟩
  have hx : ∃ q, h'.get? d = some q := let ⟨q, _, _, hq, _⟩ := dd'; ⟨q, hq⟩
  have hle := mergeK_le (kvs := kvs) (more := more)
  exact d_write I (by rw [hd]; exact True.intro) hs hx (dk_new (by omega) hd1 (kv_merge rel1 rel2) dd')
end
end L9

namespace L9
open PySem PySem.Spec PyProof.Rows L2 GR AD RZ WX ZE TX
/-! ### statements, by their form -/
abbrev tableS : List (Str × List Str) := [("let", ["name", "keyless"]), ("need", ["keyless"]), ("put", ["name", "keyless", "name", "keyless"]), ("each", ["name", "row", "name", "row"]), ("tell", ["keyless"])]
def lookS (w : Str) : Option (List Str) := (tableS.find? fun p => decide (p.1 = w)).map (·.2)
def fitsS (f : Str) (d : PyData) : Bool := if f = "name" then isN d else isX d && (allX plainP d && (if f = "row" then allX simpleP d else !keyX d))
def fitsAllS : List Str → List PyData → Bool
  | [], [] => true
  | f :: fs, d :: ds => fitsS f d && fitsAllS fs ds
  | _, _ => false
def isSt : PyData → Bool
  | .tuple (.str w :: r) => (match lookS w with | some fs => fitsAllS fs r | none => false)
  | _ => false
/-- what may be asked about: a thing that is, or is not, an expression -/
structure Yp (d : PyData) : Prop where
  sh : shB d = true
  dep : d.depth < 40
  sz : sz d ≤ 4000000
theorem Yp.xp {d : PyData} (h : Yp d) (x : isX d = true) : Xp d := ⟨x, h.sh, h.dep, h.sz⟩
/-- the tableS of kinds, as it is written -/
structure TabS (K : PySem.W.Frag) (w : World) (fA : Addr) (es : Array DictEntry) (n : Nat) : Prop where
  at' : K.lookup fA = some ⟨.type "dict", none, .dict es n, #[]⟩
  keys : PySem.W.KeysLit w.params es.toList
  low : (fA == sysModules) = false
  yes : ∀ wd fs, (wd, fs) ∈ tableS → ∃ p, findBy Value.isStrOf es wd = some (.ref p) ∧ KTx K p fs
  no : ∀ wd, lookS wd = none → findBy Value.isStrOf es wd = none
theorem lookS_some {w : Str} {fs : List Str} (h : lookS w = some fs) : (w, fs) ∈ tableS := by
  unfold lookS at h
  obtain ⟨p, hp, rfl⟩ := Option.map_eq_some_iff.mp h
  have h1 := List.find?_some hp
  have h2 := List.mem_of_find?_eq_some hp
  rw [decide_eq_true_eq] at h1
  rw [← h1]
  exact h2
theorem formS_some {z : Str} {r : List PyData} {fs : List Str} (h : lookS z = some fs) : isSt (.tuple (.str z :: r)) = fitsAllS fs r := by
  show (match lookS z with | some fs => fitsAllS fs r | none => false) = _
  rw [h]
theorem formS_none {z : Str} {r : List PyData} (h : lookS z = none) : isSt (.tuple (.str z :: r)) = false := by
  show (match lookS z with | some fs => fitsAllS fs r | none => false) = _
  rw [h]
theorem fitsAllS_len : ∀ {fs : List Str} {ds : List PyData}, fs.length ≠ ds.length → fitsAllS fs ds = false
  | [], [], h => absurd rfl h
  | [], _ :: _, _ => rfl
  | _ :: _, [], _ => rfl
  | f :: fs, d :: ds, h => by
    show (fitsS f d && fitsAllS fs ds) = false
    rw [fitsAllS_len (fs := fs) (ds := ds) (fun e => h (by rw [List.length_cons, List.length_cons, e])), Bool.and_false]
/-- the answers so far -/
def fitsUpS (fs : List Str) (ds : List PyData) (i : Nat) : List Bool := ((fs.zip ds).take i).map fun p => fitsS p.1 p.2
theorem fitsAllS_zip : ∀ {fs : List Str} {ds : List PyData}, fs.length = ds.length → fitsAllS fs ds = ((fs.zip ds).map fun p => fitsS p.1 p.2).all id
  | [], [], _ => rfl
  | f :: fs, d :: ds, h => by
    show (fitsS f d && fitsAllS fs ds) = _
    rw [fitsAllS_zip (fs := fs) (ds := ds) (by simpa using h), List.zip_cons_cons, List.map_cons, List.all_cons]
    rfl
theorem tableS_len : ∀ p, p ∈ tableS → p.2.length ≤ 6 := by decide
section
variable {P : Program} {w : World} {K : PySem.W.Frag} {mg : Str → Option Value} {base : Heap}
abbrev s_fits2 : Stmt := topS 32
theorem sc_fits2 : FnScope ["kind", "part"] ["kind", "part"] (defScope s_fits2) := ⟨rfl, rfl, rfl, by decide +kernel, rfl, by decide +kernel, by decide +kernel⟩
def sp_fitsS (K : PySem.W.Frag) : Sp := fun vs H Q _ => ∃ (z : Str) (v : V) (d : PyData) (ok : Addr → Prop), vs = [.str z, v] ∧ Dd K ok H v d ∧ Yp d ∧ ∀ H', Same H H' → Q (.bl (fitsS z d)) H'
theorem ok_fits2 {f fn fx fp fi fk : Addr} {fd dn dx dp di dk : FuncData} {k : Nat} (F : Fun K "fits" "fits" s_fits2 f fd)
    (Gn : FnOk P w K mg base CX0 k fn dn ["thing"] (sp_isS K isN)) (gn : mg "is_name" = some (.ref fn)) (Kn : PySem.W.keepIn K (.ref fn) = true) (bn : Binds K dn ["thing"] [])
    (Gx : FnOk P w K mg base CX0 k fx dx ["thing"] (sp_isx K)) (gx : mg "is_expression" = some (.ref fx)) (Kx : PySem.W.keepIn K (.ref fx) = true) (bx : Binds K dx ["thing"] [])
    (Gp : FnOk P w K mg base CX0 k fp dp ["expression"] (sp_tx K (allX plainP))) (gp : mg "is_plain" = some (.ref fp)) (Kp : PySem.W.keepIn K (.ref fp) = true) (bp : Binds K dp ["expression"] [])
    (Gi : FnOk P w K mg base CX0 k fi di ["expression"] (sp_tx K (allX simpleP))) (gi : mg "is_simple" = some (.ref fi)) (Ki : PySem.W.keepIn K (.ref fi) = true) (bi : Binds K di ["expression"] [])
    (Gk : FnOk P w K mg base CX0 k fk dk ["expression"] (sp_tx K keyX)) (gk : mg "has_free_key" = some (.ref fk)) (Kk : PySem.W.keepIn K (.ref fk) = true) (bk : Binds K dk ["expression"] []) :
    FnOk P w K mg base CX0 (k + 1) f fd ["kind", "part"] (sp_fitsS K) := by
  have nd := sc_fits2.nd
  refine F.ok sc_fits2 (fun vs H Q E h => ?_) (fun cdv A outer s H vs Q E hr h => ?_)
  · obtain ⟨z, v, d, ok, rfl, _⟩ := h
    rfl
  obtain ⟨z, v, d, ok, rfl, hd, hy, q⟩ := h
  refine ⟨_, (pss_cons (ps_if (pt_cmpR op_eq (pv 0) pe_str (nomark _)) (pss_one (ps_ret (pe_call Gn hr (by rfl) gn Kn bn .nil pass0 (pa_cons (pv 1) pa_nil)))) pss_nil)
      (pss_cons (ps_if (PW.pt (pw_or (pt_not (pt_val (pe_call Gx hr (by rfl) gx Kx bx .nil pass0 (pa_cons (pv 1) pa_nil)))) (pw_or1 (pt_not (pt_val (pe_call Gp hr (by rfl) gp Kp bp .nil pass0 (pa_cons (pv 1) pa_nil))))))) (pss_one (ps_ret pe_bl)) pss_nil)
      (pss_cons (ps_if (pt_cmpR op_eq (pv 0) pe_str (nomark _)) (pss_one (ps_ret (pe_call Gi hr (by rfl) gi Ki bi .nil pass0 (pa_cons (pv 1) pa_nil)))) pss_nil)
      (pss_one (ps_ret (pe_not (pe_call Gk hr (by rfl) gk Kk bk .nil pass0 (pa_cons (pv 1) pa_nil)))))))), ?_⟩
  unfold fitsS at q
  refine ⟨.str z, rfl, rfl, _, rfl, ite2 (fun e1 => ?_) (fun e1 => ?_)⟩
  · have e1 : z = "name" := by simpa using e1
    simp only [if_pos e1] at q
    exact ⟨v, rfl, v, d, ok, rfl, hd, shB_sh hy.sh, q⟩
  have e1 : z ≠ "name" := fun x => e1 (by simpa using x)
  simp only [if_neg e1] at q
  refine ⟨v, rfl, v, d, ok, rfl, hd, hy.sh, hy.sz, fun H1 s1 => ⟨_, rfl, ?_⟩⟩
  cases hx : isX d with
  | false =>
    simp only [hx, Bool.false_and] at q
    exact iteT (iteT (q H1 s1))
  | true =>
  simp only [hx, Bool.true_and] at q
  have xp := hy.xp hx
  have hdp := dp_of d v (isX_flat hx) hd
  refine iteF ⟨v, rfl, v, d, rfl, dp_keep (KeepT.of s1) _ _ (isX_flat hx) hdp, xp, fun H2 s2 => ⟨_, rfl, ?_⟩⟩
  have s12 := s1.trans s2
  cases hp : allX plainP d with
  | false =>
    simp only [hp, Bool.false_and] at q
    exact iteT (q H2 s12)
  | true =>
  simp only [hp, Bool.true_and] at q
  refine iteF ⟨.str z, rfl, rfl, _, rfl, ite2 (fun e2 => ?_) (fun e2 => ?_)⟩
  · have e2 : z = "row" := by simpa using e2
    simp only [if_pos e2] at q
    exact ⟨v, rfl, v, d, rfl, dp_keep (KeepT.of s12) _ _ (isX_flat hx) hdp, xp, fun H3 s3 => q H3 (s12.trans s3)⟩
  · have e2 : z ≠ "row" := fun x => e2 (by simpa using x)
    simp only [if_neg e2] at q
    exact ⟨v, rfl, v, d, rfl, dp_keep (KeepT.of s12) _ _ (isX_flat hx) hdp, xp, fun H3 s3 => ⟨_, rfl, q H3 (s12.trans s3)⟩⟩
end
section
variable {P : Program} {w : World} {K : PySem.W.Frag} {mg : Str → Option Value} {base : Heap}
abbrev s_is_statement : Stmt := topS 31
abbrev N_ist : List Str := ["thing", "kinds", "kind", "part"]
theorem sc_is_statement : FnScope N_ist ["thing"] (defScope s_is_statement) := ⟨rfl, rfl, rfl, by decide +kernel, rfl, by decide +kernel, by decide +kernel⟩
def sp_ist (K : PySem.W.Frag) : Sp := fun vs H Q _ => ∃ (v : V) (d : PyData) (ok : Addr → Prop), vs = [v] ∧ Dd K ok H v d ∧ (∀ ds, d = .tuple ds → ∀ y, y ∈ ds → Yp y) ∧ ∀ H', Same H H' → Q (.bl (isSt d)) H'
theorem ok_is_statement {f fw ff fA : Addr} {fd dw df : FuncData} {k : Nat} {es : Array DictEntry} {n : Nat} (F : Fun K "is_statement" "is_statement" s_is_statement f fd) (Gw : FnOk P w K mg base CX0 k fw dw ["thing"] (sp_word K)) (gw : mg "word_of" = some (.ref fw)) (Kw : PySem.W.keepIn K (.ref fw) = true) (bw : Binds K dw ["thing"] [])
    (Gf : FnOk P w K mg base CX0 k ff df ["kind", "part"] (sp_fitsS K)) (gf : mg "fits_statements" = some (.ref ff)) (Kf : PySem.W.keepIn K (.ref ff) = true) (bf : Binds K df ["kind", "part"] [])
    (mFIELDS : mg "FIELDS_statements" = some (.ref fA)) (T : TabS K w fA es n) (mlen : mg "len" = none) (mzip : mg "zip" = none) (mall : mg "all" = none) : FnOk P w K mg base CX0 (k + 1) f fd ["thing"] (sp_ist K) := by
  have nd := sc_is_statement.nd
  refine F.ok sc_is_statement (fun vs H Q E h => ?_) (fun cdv A outer s H vs Q E hr h => ?_)
  · obtain ⟨v, d, ok, rfl, _⟩ := h
    rfl
  obtain ⟨v, d, ok, rfl, hd, hsh, q⟩ := h
  refine ⟨_, (pss_cons (ps_set (i := 1) nd rfl (.inl rfl) (FG.pe_kget (pe_glob rfl mFIELDS (v := .ref fA) rfl) (pe_call Gw hr (by rfl) gw Kw bw .nil pass0 (pa_cons (pv 0) pa_nil)) ⟨by rfl, by rfl, by rfl, by rfl⟩))
      (pss_cons (ps_if (PW.pt (pw_or (pt_cmpR op_isN (pv 1) pe_non (nomark _)) (pw_or1 (pt_cmpR op_ne (pe_callB call_len_seq (by rfl) mlen PySem.boot_len (pa_cons (pv 0) pa_nil)) (pe_op op_add pe_int (pe_callB call_len_seq (by rfl) mlen PySem.boot_len (pa_cons (pv 1) pa_nil))) (nomark _)))))
        (pss_one (ps_ret pe_bl))
        pss_nil)
      (pss_one (ps_ret (pe_callB (cr_all rfl) (by rfl) mall boot_all (pa_cons (pe_lc (own := [("kind", 2), ("part", 3)]) (g := gTup K 2 (gCons (gName 2) (gCons (gName 3) gNil))) (tt := tYes) (te := tCall (sp_fitsS K) [] E0 (tCons (tVar 2) (tCons (tVar 3) tNil))) rfl nd
          (pi_zipA (by rfl) mzip (pa_cons (pv 1) (pa_cons (pe_slice L2.sl_tup (pv 0) (po_some pe_int) po_none) pa_nil))) (blkOk_by (N := N_ist) (sc := defScope s_is_statement) (by decide +kernel))
          (fun _ _ _ _ _ => (pg_tup rfl (pgs_cons (pg_name (i := 2) (x := "kind") nd rfl (Or.inl rfl)) (pgs_cons (pg_name (i := 3) (x := "part") nd rfl (Or.inl rfl)) pgs_nil))))
          (fun _ _ _ _ _ => pts_nil) (fun _ _ _ _ _ => (pe_call Gf hr (by rfl) gf Kf bf .nil pass0 (pa_cons (pv 2) (pa_cons (pv 3) pa_nil))))) pa_nil)))))), ?_⟩
  refine ⟨fA, es, n, rfl, T.at', T.keys, T.low, v, rfl, v, d, ok, rfl, hd, ?_⟩
  cases hd with
  | tup hs ha =>
    rename_i a xs ds
    cases ha with
    | nil => exact ⟨.non, .inl ⟨rfl, rfl⟩, .non, rfl, rfl, _, rfl, iteT (iteT (q H fun _ _ e => e))⟩
    | cons h1 r1 =>
      rename_i v1 vs1 d1 ds1
      cases h1 with
      | str z =>
        cases hlk : lookS z with
        | none =>
          refine ⟨.non, .inr ⟨z, rfl, .inr ⟨T.no z hlk, rfl⟩⟩, .non, rfl, rfl, _, rfl, iteT (iteT ?_)⟩
          have := q H fun _ _ e => e
          rw [formS_none hlk] at this
          exact this
        | some fs =>
          have hq : ∀ H', Same H H' → Q (.bl (fitsAllS fs ds1)) H' := fun H' s => by
            have := q H' s
            rw [formS_some hlk] at this
            exact this
          obtain ⟨p, hp1, hp2⟩ := T.yes z fs (lookS_some hlk)
          have hlen := r1.len
          have hf6 : fs.length ≤ 6 := tableS_len _ (lookS_some hlk)
          refine ⟨.ref p, .inr ⟨z, rfl, .inl ⟨.ref p, hp1, rfl⟩⟩, .ref p, rfl, rfl, _, rfl, ?_⟩
          rw [decide_eq_false (fun z => nomatch z)]
          refine iteF ⟨.ref a, rfl, a, _, rfl, .inr hs, .ref p, rfl, p, _, rfl, .inr (hp2 H), 1, _, rfl, rfl, rfl, _, rfl, ?_⟩
          by_cases c : fs.length = ds1.length
          case neg =>
            rw [fitsAllS_len c] at hq
            rw [show (!decide (V.int (((V.str z :: vs1).length : Nat) : Int) = V.int (1 + (((fs.map V.str).length : Nat) : Int)))) = true from by
              rw [decide_eq_false (fun e => c (by injection e with e; rw [List.length_cons, List.length_map] at e; omega))]; rfl]
            exact iteT (hq H fun _ _ e => e)
          rw [show (!decide (V.int (((V.str z :: vs1).length : Nat) : Int) = V.int (1 + (((fs.map V.str).length : Nat) : Int)))) = false from by
            rw [decide_eq_true (by congr 1; rw [List.length_cons, List.length_map]; omega)]; rfl]
          refine iteF ⟨.ref p, rfl, .ref a, rfl, 1, rfl, a, _, rfl, hs, ?_, fun c1 nc => ?_⟩
          · rw [List.length_cons]
            rintro ⟨e, _⟩
            have : HT.sIx (vs1.length + 1) 0 (some 1) = min 1 (vs1.length + 1) := HT.sIx_nat _ _ 1
            rw [this] at e
            omega
          have hcut : cutV (.str z :: vs1) (some 1) none = vs1 := by
            unfold cutV
            rw [HT.sIx_none, show HT.sIx (V.str z :: vs1).length 0 (some 1) = min 1 (V.str z :: vs1).length from HT.sIx_nat _ _ 1, List.length_cons, show min 1 (vs1.length + 1) = 1 by omega, List.drop_succ_cons, List.drop_zero, show vs1.length + 1 - 1 = vs1.length by omega, List.take_length]
          rw [hcut]
          have sc := same_upd (o := .tup vs1) nc
          have hc1 : upd H c1 (.tup vs1) c1 = some (.tup vs1) := upd_same
          revert sc hc1
          generalize upd H c1 (.tup vs1) = H1
          intro sc hc1
          refine ⟨p, c1, fs.map V.str, vs1, rfl, .inr ⟨hp2 H1, .inl (.inl hc1), fun D nD => ?_⟩⟩
          refine lc_it (walk_zipT (xs := fs.map V.str) (ys := vs1) (n := fs.length) (by rw [List.length_map]) (by omega)) (fun i H' => H' D = some (.lst ((fitsUpS fs ds1 i).map V.bl)) ∧ ∀ b o, b ≠ D → H1 b = some o → H' b = some o) ?_ ?_ ?_ ?_
          · exact ⟨upd_same, fun b o nb e => by rw [upd_ne nb]; exact e⟩
          · rintro i H' _ ⟨_, kp⟩
            exact ⟨hp2 H', .inl (.inl (kp _ _ (ne_of_none hc1 nD) hc1))⟩
          · rintro i x H2 H' hi ⟨hD, kp⟩ ⟨T1, x1, y1, rfl, hT, rfl, hx1, hy1⟩
            replace hx1 : (fs.map V.str)[i]? = some x1 := hx1
            replace hy1 : vs1[i]? = some y1 := hy1
            rw [List.getElem?_map] at hx1
            obtain ⟨fi, hfi, rfl⟩ := Option.map_eq_some_iff.mp hx1
            have sT := same_upd (o := .tup [.str fi, y1]) hT
            have s12 : Same H1 H2 := fun b o e => kp b o (ne_of_none e nD) e
            have s02 := sc.trans (s12.trans sT)
            obtain ⟨di, hdi, hyd⟩ := dd_at (r1.keep (KeepO.of s02)) hy1
            have hDT := sT _ _ hD
            refine ⟨_, _, rfl, .inl (.inl upd_same), rfl, _, _, rfl, _, _, rfl, rfl, rfl, yes_then ⟨.str fi, rfl, y1, rfl, fi, y1, di, ok, rfl, hyd, hsh _ rfl di (List.mem_cons_of_mem _ (List.mem_of_getElem? hdi)), fun H3 s3 => ⟨_, s3 _ _ hDT, small1000 ?_, ?_, fun b o nb e => ?_⟩⟩⟩
            · unfold fitsUpS
              rw [List.length_map, List.length_map, List.length_take]
              omega
            · have hz : (fs.zip ds1)[i]? = some (fi, di) := List.getElem?_zip_eq_some.mpr ⟨hfi, hdi⟩
              unfold fitsUpS
              rw [take_at hz, List.map_append, List.map_append]
              exact upd_same
            · rw [upd_ne nb]
              exact s3 _ _ (sT _ _ (kp b o nb e))
          · rintro H2 ⟨hD, kp⟩
            have s12 : Same H1 H2 := fun b o e => kp b o (ne_of_none e nD) e
            have hzl : fs.length = (fs.zip ds1).length := by
              rw [List.length_zip]
              omega
            unfold fitsUpS at hD
            rw [hzl, List.take_length] at hD
            refine ⟨D, (fs.zip ds1).map fun p => fitsS p.1 p.2, rfl, .inl (.inl hD), ?_⟩
            rw [← fitsAllS_zip c]
            exact hq H2 (sc.trans s12)
      | _ => exact ⟨.non, .inl ⟨rfl, rfl⟩, .non, rfl, rfl, _, rfl, iteT (iteT (q H fun _ _ e => e))⟩
  | _ => exact ⟨.non, .inl ⟨rfl, rfl⟩, .non, rfl, rfl, _, rfl, iteT (iteT (q H fun _ _ e => e))⟩
end
end L9

namespace L9
open PySem PySem.Spec PyProof.Rows L2 GR AD RZ WX ZE TX
theorem isSt_inv {d : PyData} (h : isSt d = true) : ∃ w fs r, d = .tuple (.str w :: r) ∧ lookS w = some fs ∧ fitsAllS fs r = true := by
  unfold isSt at h
  split at h
  · rename_i w r
    split at h
    · rename_i fs hl
      exact ⟨w, fs, r, rfl, hl, h⟩
    · cases h
  · cases h
/-- what a statement names with let -/
def letsL : PyData → List Str
  | .tuple (.str w :: .str z :: _) => if w = "let" then [z] else []
  | _ => []
/-- its expressions -/
def exprs : List Str → List PyData → List PyData
  | f :: fs, d :: ds => (if f = "name" then [] else [d]) ++ exprs fs ds
  | _, _ => []
def kidsS : PyData → List PyData
  | .tuple (.str w :: r) => (match lookS w with | some fs => exprs fs r | none => [])
  | _ => []
theorem kidsS_some {w : Str} {fs : List Str} {r : List PyData} (h : lookS w = some fs) : kidsS (.tuple (.str w :: r)) = exprs fs r := by
  show (match lookS w with | some fs => exprs fs r | none => []) = _
  rw [h]
theorem fitsAllS_eq {fs : List Str} {ds : List PyData} (h : fitsAllS fs ds = true) : fs.length = ds.length := by
  by_cases c : fs.length = ds.length
  · exact c
  · rw [fitsAllS_len c] at h
    cases h
theorem fitsAllS_at : ∀ {fs : List Str} {ds : List PyData}, fitsAllS fs ds = true → ∀ {i : Nat} {f : Str} {d : PyData}, fs[i]? = some f → ds[i]? = some d → fitsS f d = true
  | [], _, _, i, f, d, h1, _ => by simp at h1
  | _ :: _, [], h, _, _, _, _, _ => by cases h
  | x :: fs, y :: ds, h, i, f, d, h1, h2 => by
    have h' : (fitsS x y && fitsAllS fs ds) = true := h
    rw [Bool.and_eq_true] at h'
    cases i with
    | zero =>
      cases h1
      cases h2
      exact h'.1
    | succ i => exact fitsAllS_at h'.2 (by simpa using h1) (by simpa using h2)
theorem exprs_isX : ∀ {fs : List Str} {ds : List PyData}, fitsAllS fs ds = true → ∀ x, x ∈ exprs fs ds → isX x = true ∧ allX plainP x = true ∧ x ∈ ds
  | [], _, _, x, h => by simp only [exprs, List.not_mem_nil] at h
  | _ :: _, [], h, _, _ => by cases h
  | f :: fs, y :: ds, h, x, hx => by
    have h' : (fitsS f y && fitsAllS fs ds) = true := h
    rw [Bool.and_eq_true] at h'
    rw [exprs] at hx
    rcases List.mem_append.mp hx with hx | hx
    · by_cases e : f = "name"
      · rw [if_pos e] at hx
        exact (nomatch hx)
      · rw [if_neg e, List.mem_singleton] at hx
        subst hx
        have h1 := h'.1
        unfold fitsS at h1
        rw [if_neg e, Bool.and_eq_true, Bool.and_eq_true] at h1
        exact ⟨h1.1, h1.2.1, List.mem_cons_self⟩
    · obtain ⟨a, b, c⟩ := exprs_isX h'.2 x hx
      exact ⟨a, b, List.mem_cons_of_mem _ c⟩
theorem exprs_take : ∀ {fs : List Str} {ds : List PyData} {i : Nat} {f : Str} {d : PyData}, fs[i]? = some f → ds[i]? = some d → exprs (fs.take (i + 1)) (ds.take (i + 1)) = exprs (fs.take i) (ds.take i) ++ (if f = "name" then [] else [d])
  | [], _, i, f, d, h, _ => by simp at h
  | _ :: _, [], i, f, d, _, h => by simp at h
  | x :: fs, y :: ds, 0, f, d, h1, h2 => by
    cases h1
    cases h2
    simp [exprs]
  | x :: fs, y :: ds, i + 1, f, d, h1, h2 => by
    have ih := exprs_take (fs := fs) (ds := ds) (i := i) (by simpa using h1) (by simpa using h2)
    rw [List.take_succ_cons, List.take_succ_cons, List.take_succ_cons, List.take_succ_cons, exprs, exprs, ih, List.append_assoc]
theorem exprs_len : ∀ {fs : List Str} {ds : List PyData}, (exprs fs ds).length ≤ fs.length
  | [], ds => by simp [exprs]
  | f :: fs, [] => by simp [exprs]
  | f :: fs, d :: ds => by
    have := exprs_len (fs := fs) (ds := ds)
    rw [exprs, List.length_append, List.length_cons]
    split <;> simp <;> omega
/-- a statement that may be asked about -/
structure Sp' (d : PyData) : Prop where
  st : isSt d = true
  ys : ∀ ds, d = .tuple ds → ∀ y, y ∈ ds → Yp y
theorem Sp'.kids {d : PyData} (h : Sp' d) : ∀ y, y ∈ kidsS d → Xp y := fun y hy => by
  obtain ⟨w, fs, r, rfl, lk, hf⟩ := isSt_inv h.st
  rw [kidsS_some lk] at hy
  obtain ⟨a, _, c⟩ := exprs_isX hf y hy
  exact (h.ys _ rfl y (List.mem_cons_of_mem _ c)).xp a
theorem let_inv {w : Str} {fs : List Str} {r : List PyData} (lk : lookS w = some fs) (hf : fitsAllS fs r = true) (e : w = "let") : ∃ z x, r = [.str z, x] := by
  subst e
  have : fs = (["name", "keyless"] : List Str) := Option.some.inj (lk.symm.trans (show lookS "let" = some (["name", "keyless"] : List Str) by decide))
  subst this
  match r, hf with
  | [a, b], hf =>
    have h' : (fitsS "name" a && (fitsS "keyless" b && true)) = true := hf
    rw [Bool.and_eq_true] at h'
    have h1 : isN a = true := by
      have := h'.1
      unfold fitsS at this
      rw [if_pos rfl] at this
      exact this
    cases a with
    | str z => exact ⟨z, b, rfl⟩
    | _ => cases h1
  | [], hf => cases hf
  | [_], hf => simp [fitsAllS] at hf
  | _ :: _ :: _ :: _, hf => simp [fitsAllS] at hf
theorem letsL_no {w : Str} {r : List PyData} (h : w ≠ "let") : letsL (.tuple (.str w :: r)) = [] := by
  cases r with
  | nil => rfl
  | cons a r => cases a <;> first | rfl | exact if_neg h
theorem same_upd2 {H : Hp} {p : Addr} {o1 o2 : HO} (n : H p = none) : Same H (upd (upd H p o1) p o2) := fun b o e => by
  rw [upd_ne (ne_of_none e n), upd_ne (ne_of_none e n)]
  exact e
section
variable {P : Program} {w : World} {K : PySem.W.Frag} {mg : Str → Option Value} {base : Heap}
abbrev s_names_let : Stmt := topS 35
theorem sc_names_let : FnScope ["statement"] ["statement"] (defScope s_names_let) := ⟨rfl, rfl, rfl, by decide +kernel, rfl, by decide +kernel, by decide +kernel⟩
abbrev letK (d : PyData) : List (Key × V) := (letsL d).map fun z => ((.inr z : Key), V.bl true)
/-- d[0] is a text of the tuple -/
def sp_nl (K : PySem.W.Frag) : Sp := fun vs H Q _ => ∃ (v : V) (d : PyData) (ok : Addr → Prop), vs = [v] ∧ Dd K ok H v d ∧ isSt d = true ∧ ∀ H' p, Same H H' → H p = none → H' p = some (.dK (letK d)) → Q (.ref p) H'
theorem ok_names_let {f : Addr} {fd : FuncData} {k : Nat} (F : Fun K "names_let" "names_let" s_names_let f fd) : FnOk P w K mg base CX0 (k + 1) f fd ["statement"] (sp_nl K) := by
  have nd := sc_names_let.nd
  refine F.ok sc_names_let (fun vs H Q E h => ?_) (fun cdv A outer s H vs Q E hr h => ?_)
  · obtain ⟨v, d, ok, rfl, _⟩ := h
    rfl
  obtain ⟨v, d, ok, rfl, hd, hs, q⟩ := h
  refine ⟨_, (pss_cons (ps_if (pt_cmpR op_eq (pe_ix ix_tup (pv 0) pe_int (fun _ _ => rfl)) pe_str (nomark _))
      (pss_one (ps_ret (pe_disp (pps_cons (pe_ix ix_tup (pv 0) pe_int (fun _ _ => rfl)) pe_bl pps_nil) (by decide) rfl (by simp) (by decide))))
      pss_nil)
      (pss_one (ps_ret pe_dnewK))), ?_⟩
  obtain ⟨wd, fs, r, rfl, lk, hf⟩ := isSt_inv hs
  cases hd with
  | tup hS hA =>
  cases hA with
  | cons hw hA =>
  cases hw
  rename_i a vs
  refine ⟨.ref a, rfl, a, _, 0, .str wd, rfl, rfl, hS, at0, rfl, _, rfl, ite2 (fun e1 => ?_) (fun e1 => ?_)⟩
  · have e1 : wd = "let" := by simpa using e1
    obtain ⟨z, x, rfl⟩ := let_inv lk hf e1
    cases hA with
    | cons hw hA =>
    cases hw
    have hl : letK (.tuple (.str wd :: [.str z, x])) = [(.inr z, .bl true)] := by
      show ((if wd = "let" then [z] else []).map _) = _
      rw [if_pos e1]
      rfl
    rw [hl] at q
    exact fun p np => ⟨.ref a, rfl, a, _, 1, .str z, rfl, rfl, (KeepT.of (same_upd np)).seqt hS, at1, upd_same, [(.inr z, .bl true)], rfl, Nat.le_of_ble_eq_true rfl, q _ p (same_upd2 np) np upd_same⟩
  · have e1 : wd ≠ "let" := fun z => e1 (by simpa using z)
    have hl : letK (.tuple (.str wd :: r)) = [] := by
      show (letsL (.tuple (.str wd :: r))).map _ = _
      rw [letsL_no e1]
      rfl
    rw [hl] at q
    exact fun p np => q _ p (same_upd np) np upd_same
end
end L9

namespace L9
open PySem PySem.Spec PyProof.Rows L2 GR AD RZ WX ZE TX
/-- any walk over a tuple: what a turn does, told by body with what is to hold behind it -/
theorem walk_bodyT {K : PySem.W.Frag} {a : Addr} {xs : List V} {body : V → Hp → (Hp → Prop) → Prop} {H0 : Hp} {Qd : Hp → Prop} (Pv : Nat → Hp → Prop) (h0 : Pv 0 H0) (hl : ∀ i H, i ≤ xs.length → Pv i H → SqT K H a xs)
    (hs : ∀ i x H, xs[i]? = some x → Pv i H → body x H (Pv (i + 1))) (hd : ∀ H, Pv xs.length H → Qd H) :
    ∃ W : Nat → Nat → Hp → Prop, (∃ m, W 0 m H0) ∧ ∀ i m H, W i m H →
      ((Itt K a).stop i H ∧ Qd H) ∨ ((Itt K a).go i H ∧ ∃ Nx : Hp → Prop, (∀ H', Nx H' → ∃ m', m' < m ∧ W (i + 1) m' H') ∧ ∀ x H', (Itt K a).yld i H x H' → body x H' Nx) := by
  have w := walk_tup (K := K) (a := a) (xs := xs)
  refine ⟨fun i m H => m = xs.length - i ∧ i ≤ xs.length ∧ Pv i H, ⟨xs.length, rfl, Nat.zero_le _, h0⟩, ?_⟩
  rintro i m H ⟨rfl, hi, p⟩
  have q := hl i H hi p
  by_cases hlt : i < xs.length
  · refine .inr ⟨w.goes i H hlt q, Pv (i + 1), fun H' p' => ⟨xs.length - (i + 1), by omega, rfl, hlt, p'⟩, fun x H' y => ?_⟩
    obtain ⟨rfl, hx⟩ := w.yields i H x H' hlt q y
    exact hs i x _ hx p
  · obtain rfl : i = xs.length := by omega
    exact .inl ⟨w.stops H q, hd H p⟩
theorem fitsAllS_take : ∀ {fs : List Str} {ds : List PyData}, fitsAllS fs ds = true → ∀ i, fitsAllS (fs.take i) (ds.take i) = true
  | _, _, _, 0 => by rw [List.take_zero, List.take_zero]; rfl
  | [], [], _, i + 1 => rfl
  | [], _ :: _, h, _ + 1 => by cases h
  | _ :: _, [], h, _ + 1 => by cases h
  | f :: fs, d :: ds, h, i + 1 => by
    have h' : (fitsS f d && fitsAllS fs ds) = true := h
    rw [Bool.and_eq_true] at h'
    show (fitsS f d && fitsAllS (fs.take i) (ds.take i)) = true
    rw [h'.1, fitsAllS_take h'.2 i]
    rfl
def FldsS (K : PySem.W.Frag) (w : World) (fA : Addr) : Prop := ∀ wd fs, (wd, fs) ∈ tableS → ∃ p, KDct K w fA wd (.ref p) ∧ ∀ H, SqT K H p (fs.map V.str)
section
variable {P : Program} {w : World} {K : PySem.W.Frag} {mg : Str → Option Value} {base : Heap}
abbrev s_expressions_in : Stmt := topS 37
abbrev N_ein : List Str := ["statement", "kinds", "kind", "part"]
theorem sc_expressions_in : FnScope N_ein ["statement"] (defScope s_expressions_in) := ⟨rfl, rfl, rfl, by decide +kernel, rfl, by decide +kernel, by decide +kernel⟩
def sp_ein (K : PySem.W.Frag) : Sp := fun vs H Q _ => ∃ (v : V) (d : PyData) (ok : Addr → Prop), vs = [v] ∧ Dd K ok H v d ∧ Sp' d ∧ ∀ H' p us, Same H H' → H p = none → H' p = some (.lst us) → DpAll K H' us (kidsS d) → (kidsS d).length ≤ 6 → Q (.ref p) H'
theorem ok_expressions_in {f fA : Addr} {fd : FuncData} {k : Nat} (F : Fun K "expressions_in" "expressions_in" s_expressions_in f fd) (mFIELDS : mg "FIELDS_statements" = some (.ref fA)) (T : FldsS K w fA) (mzip : mg "zip" = none) : FnOk P w K mg base CX0 (k + 1) f fd ["statement"] (sp_ein K) := by
  have nd := sc_expressions_in.nd
  refine F.ok sc_expressions_in (fun vs H Q E h => ?_) (fun cdv A outer s H vs Q E hr h => ?_)
  · obtain ⟨v, d, ok, rfl, _⟩ := h
    rfl
  obtain ⟨v, d, ok, rfl, hd, hs, q⟩ := h
  refine ⟨_, (pss_cons (ps_set (i := 1) nd rfl (.inl rfl) (pe_ix ix_kdict (pe_glob rfl mFIELDS (v := .ref fA) rfl) (pe_ix ix_tup (pv 0) pe_int (fun _ _ => rfl)) (fun _ _ => rfl)))
      (pss_one (ps_ret (pe_lc (own := [("kind", 2), ("part", 3)]) (g := gTup K 2 (gCons (gName 2) (gCons (gName 3) gNil))) (tt := tTest (tOp rNe (tVar 2) (tC (.str "name")))) (te := tVar 3) rfl nd
        (pi_zipA (by rfl) mzip (pa_cons (pv 1) (pa_cons (pe_slice L2.sl_tup (pv 0) (po_some pe_int) po_none) pa_nil))) (blkOk_by (N := N_ein) (sc := defScope s_expressions_in) (by decide +kernel))
        (fun _ _ _ _ _ => (pg_tup rfl (pgs_cons (pg_name (i := 2) (x := "kind") nd rfl (Or.inl rfl)) (pgs_cons (pg_name (i := 3) (x := "part") nd rfl (Or.inl rfl)) pgs_nil))))
        (fun _ _ _ _ _ => pts_one (pt_cmpR op_ne (pv 2) pe_str (nomark _))) (fun _ _ _ _ _ => (pv 3)))))), ?_⟩
  obtain ⟨wd, fs, r, rfl, lk, hf⟩ := isSt_inv hs.st
  rw [kidsS_some lk] at q
  have hlen := fitsAllS_eq hf
  have hf6 : fs.length ≤ 6 := tableS_len _ (lookS_some lk)
  have hx6 := exprs_len (fs := fs) (ds := r)
  have hex := exprs_isX hf
  cases hd with
  | tup hS hA =>
  cases hA with
  | cons hw hA =>
  cases hw
  rename_i a vs
  obtain ⟨fp, hK, hF⟩ := T wd fs (lookS_some lk)
  have hl0 := hA.len
  refine ⟨.ref a, rfl, a, _, 0, .str wd, rfl, rfl, hS, at0, fA, wd, .ref fp, rfl, rfl, hK, ?_⟩
  refine ⟨.ref fp, rfl, .ref a, rfl, 1, rfl, a, _, rfl, hS, ?_, fun c nc => ?_⟩
  · rw [List.length_cons]
    rintro ⟨e, _⟩
    have : HT.sIx (vs.length + 1) 0 (some 1) = min 1 (vs.length + 1) := HT.sIx_nat _ _ 1
    rw [this] at e
    omega
  have hcut : cutV (.str wd :: vs) (some 1) none = vs := by
    unfold cutV
    rw [HT.sIx_none, show HT.sIx (V.str wd :: vs).length 0 (some 1) = min 1 (V.str wd :: vs).length from HT.sIx_nat _ _ 1, List.length_cons, show min 1 (vs.length + 1) = 1 by omega, List.drop_succ_cons, List.drop_zero, show vs.length + 1 - 1 = vs.length by omega, List.take_length]
  rw [hcut]
  have sc := same_upd (o := .tup vs) nc
  have hc1 : upd H c (.tup vs) c = some (.tup vs) := upd_same
  revert sc hc1
  generalize upd H c (.tup vs) = H1
  intro sc hc1
  refine ⟨fp, c, fs.map V.str, vs, rfl, .inr ⟨hF H1, .inl (.inl hc1), fun D nD => ?_⟩⟩
  have hA1 := hA.keep (KeepO.of sc)
  refine lc_it (walk_zipT (xs := fs.map V.str) (ys := vs) (n := fs.length) (by rw [List.length_map]) (by omega)) (fun i H' => ∃ us, H' D = some (.lst us) ∧ DpAll K H' us (exprs (fs.take i) (r.take i)) ∧ ∀ b o, b ≠ D → H1 b = some o → H' b = some o) ?_ ?_ ?_ ?_
  · refine ⟨[], upd_same, ?_, fun b o nb e => by rw [upd_ne nb]; exact e⟩
    simp only [List.take_zero, exprs]
    exact .nil
  · rintro i H' _ ⟨us, _, _, kp⟩
    exact ⟨hF H', .inl (.inl (kp _ _ (ne_of_none hc1 nD) hc1))⟩
  · rintro i x H2 H' hi ⟨us, hD, hU, kp⟩ ⟨T1, x1, y1, rfl, hT, rfl, hx1, hy1⟩
    replace hx1 : (fs.map V.str)[i]? = some x1 := hx1
    replace hy1 : vs[i]? = some y1 := hy1
    rw [List.getElem?_map] at hx1
    obtain ⟨fi, hfi, rfl⟩ := Option.map_eq_some_iff.mp hx1
    have sT := same_upd (o := .tup [.str fi, y1]) hT
    have s12 : Same H1 H2 := fun b o e => kp b o (ne_of_none e nD) e
    obtain ⟨di, hdi, hyd⟩ := dd_at (hA1.keep (KeepO.of (s12.trans sT))) hy1
    have hDT := sT _ _ hD
    have hxt := exprs_take hfi hdi
    have lu := dpAll_len hU
    have hle := exprs_len (fs := fs.take i) (ds := r.take i)
    have h2 : (fs.take i).length ≤ fs.length := by
      rw [List.length_take]
      omega
    have fl : flatDs (exprs (fs.take i) (r.take i)) = true := flatDs_of fun y hy => by
      have hfz := fitsAllS_take hf i
      exact isX_flat (exprs_isX hfz y hy).1
    have hU2 := dp_keepAll (KeepT.of sT) _ _ fl hU
    refine ⟨_, _, rfl, .inl (.inl upd_same), rfl, _, _, rfl, _, _, rfl, rfl, rfl, .str fi, rfl, rfl, _, rfl, ?_⟩
    rw [show decide (V.str fi = V.str "name") = decide (fi = "name") from decide_eq_decide.mpr ⟨fun e => V.str.inj e, fun e => by rw [e]⟩]
    by_cases e1 : fi = "name"
    · rw [decide_eq_true e1]
      refine iteF ⟨us, hDT, ?_, fun b o nb e => sT _ _ (kp b o nb e)⟩
      rw [hxt, if_pos e1, List.append_nil]
      exact hU2
    · rw [decide_eq_false e1]
      have hfi2 := fitsAllS_at hf hfi hdi
      unfold fitsS at hfi2
      rw [if_neg e1, Bool.and_eq_true] at hfi2
      have fd := isX_flat hfi2.1
      have k3 : KeepT (upd H2 T1 (.tup [.str fi, y1])) (upd (upd H2 T1 (.tup [.str fi, y1])) D (.lst (us ++ [y1]))) := KeepT.lst hDT
      refine iteT ⟨y1, rfl, us, hDT, small1000 (by omega), us ++ [y1], upd_same, ?_, fun b o nb e => ?_⟩
      · rw [hxt, if_neg e1]
        exact dpAll_append (dp_keepAll k3 _ _ fl hU2) (.cons (dp_keep k3 _ _ fd (dp_of di y1 fd hyd)) .nil)
      · rw [upd_ne nb]
        exact sT _ _ (kp b o nb e)
  · rintro H2 ⟨us, hD, hU, kp⟩
    rw [List.take_length, hlen, List.take_length] at hU
    exact q H2 D us (sc.trans fun b o e => kp b o (ne_of_none e nD) e) (sc.free nD) hD hU (by omega)
end
end L9

namespace L9
open PySem PySem.Spec PyProof.Rows L2 GR AD RZ WX ZE TX
section
variable {P : Program} {w : World} {K : PySem.W.Frag} {mg : Str → Option Value} {base : Heap}
abbrev s_names_used : Stmt := topS 36
abbrev N_nus : List Str := ["statement", "part", "name"]
theorem sc_names_used : FnScope N_nus ["statement"] (defScope s_names_used) := ⟨rfl, rfl, rfl, by decide +kernel, rfl, by decide +kernel, by decide +kernel⟩
/-- its variables are among S -/
def varsIn (S : List Str) (d : PyData) : Prop := ∀ x, x ∈ kidsS d → allX (varQ fun z => decide (z ∈ S)) x = true
def sp_nus (K : PySem.W.Frag) : Sp := fun vs H Q _ => ∃ (v : V) (d : PyData) (ok : Addr → Prop) (S : List Str), vs = [v] ∧ Dd K ok H v d ∧ Sp' d ∧ S.length ≤ 60 ∧ varsIn S d ∧
  ∀ (H' : Hp) (p : Addr) (zs : List Str), Same H H' → H p = none → H' p = some (.lst (zs.map V.str)) → zs.length ≤ 360 → (∀ q, zs.all q = (kidsS d).all (allX (varQ q))) → Q (.ref p) H'
theorem ok_names_used {f fe fv : Addr} {fd de dv : FuncData} {k : Nat} (F : Fun K "names_used" "names_used" s_names_used f fd) (Ge : FnOk P w K mg base CX0 k fe de ["statement"] (sp_ein K)) (ge : mg "expressions_in" = some (.ref fe)) (Ke : PySem.W.keepIn K (.ref fe) = true) (be : Binds K de ["statement"] [])
    (Gv : FnOk P w K mg base CX0 k fv dv ["expression"] (sp_vs K)) (gv : mg "variables_of" = some (.ref fv)) (Kv : PySem.W.keepIn K (.ref fv) = true) (bv : Binds K dv ["expression"] []) : FnOk P w K mg base CX0 (k + 1) f fd ["statement"] (sp_nus K) := by
  have nd := sc_names_used.nd
  refine F.ok sc_names_used (fun vs H Q E h => ?_) (fun cdv A outer s H vs Q E hr h => ?_)
  · obtain ⟨v, d, ok, S, rfl, _⟩ := h
    rfl
  obtain ⟨v, d, ok, S, rfl, hd, hs, hS60, hv, q⟩ := h
  refine ⟨_, (pss_one (ps_ret (pe_lc2 (own := [("part", 1), ("name", 2)]) (vs1 := [2]) (wi1 := iTup K (tCall (sp_vs K) [] E0 (tCons (tVar 1) tNil))) rfl nd (pi_list (pe_call Ge hr (by rfl) ge Ke be .nil pass0 (pa_cons (pv 0) pa_nil))) (blkOk_by (N := N_nus) (sc := defScope s_names_used) (by decide +kernel)) (by decide)
      (fun _ _ _ _ _ => (pg_name (i := 1) nd rfl (Or.inl rfl))) (fun _ _ _ _ _ => pts_nil)
      (fun _ _ _ _ _ => pi_tup (pe_call Gv hr (by rfl) gv Kv bv .nil pass0 (pa_cons (pv 1) pa_nil))) (fun _ _ _ _ _ => (pg_name (i := 2) nd rfl (Or.inl rfl))) (fun _ _ _ _ _ => pts_nil)
      (fun _ _ _ _ _ => (pv 2))))), ?_⟩
  refine ⟨v, rfl, v, d, ok, rfl, hd, hs, fun H1 a us s1 na ha hA hl6 => ?_⟩
  refine ⟨a, rfl, ⟨us, .inl (.inl ha)⟩, fun D nD => ?_⟩
  have hxl := dpAll_len hA
  refine walk_body (xs := us) (fun i H' => ∃ zs : List Str, H' D = some (.lst (zs.map V.str)) ∧ zs.length ≤ 60 * i ∧ (∀ q, zs.all q = ((kidsS d).take i).all (allX (varQ q))) ∧ Same H1 H') ?_ ?_ ?_ ?_
  · refine ⟨[], upd_same, Nat.zero_le _, fun q => ?_, same_upd nD⟩
    rw [List.take_zero]
    rfl
  · rintro i H' _ ⟨zs, hD, hz, hq, kk⟩
    exact .inl (.inl (kk _ _ ha))
  · rintro i y H' hy ⟨zs, hD, hz, hq, kk⟩
    obtain ⟨x, hx, hyx⟩ := dpAll_at hA hy
    have hmem := List.mem_of_getElem? hx
    have ex := hs.kids x hmem
    have hi6 : i < (kidsS d).length := (List.getElem?_eq_some_iff.mp hx).1
    refine ⟨rfl, yes_then ⟨y, rfl, y, x, S, rfl, dp_keep (KeepT.of kk) _ _ (isX_flat ex.x) hyx, ex, hS60, hv x hmem, fun H2 p ys s2 np hp hl60 hqs => ⟨p, rfl, ⟨ys.map V.str, .inl (.inl hp)⟩, ?_⟩⟩⟩
    have hD2 := s2 _ _ hD
    have npD : D ≠ p := ne_of_none hD np
    refine walk_bodyT (xs := ys.map V.str) (fun j H3 => H3 D = some (.lst ((zs ++ ys.take j).map V.str)) ∧ (∀ b o, b ≠ D → H2 b = some o → H3 b = some o)) ?_ ?_ ?_ ?_
    · rw [List.take_zero, List.append_nil]
      exact ⟨hD2, fun b o _ e => e⟩
    · rintro j H3 _ ⟨_, k3⟩
      exact .inl (.inl (k3 _ _ npD.symm hp))
    · rintro j u H3 hu ⟨hD3, k3⟩
      rw [List.getElem?_map] at hu
      obtain ⟨z, hzj, rfl⟩ := Option.map_eq_some_iff.mp hu
      refine ⟨rfl, yes_then ⟨.str z, rfl, _, hD3, small1000 ?_, ?_, fun b o hb e => ?_⟩⟩
      · rw [List.length_map, List.length_append, List.length_take]
        omega
      · rw [upd_same, take_at hzj, ← List.append_assoc, List.map_append (l₁ := zs ++ ys.take j)]
        rfl
      · rw [upd_ne hb]
        exact k3 b o hb e
    · rintro H3 ⟨hD3, k3⟩
      rw [List.length_map, List.take_length] at hD3
      refine ⟨zs ++ ys, hD3, ?_, fun q => ?_, fun b o e => k3 b o (ne_of_none e nD) (s2 _ _ (kk _ _ e))⟩
      · rw [List.length_append]
        omega
      · rw [List.all_append, hq, hqs, take_at hx, List.all_append, List.all_cons, List.all_nil, Bool.and_true]
  · rintro H' ⟨zs, hD, hz, hq, kk⟩
    rw [hxl, List.take_length] at hq
    exact q H' D zs (s1.trans kk) (s1.free nD) hD (by omega) hq
/-! ### what is known -/
/-- the dict at a holds the names kn -/
def KnAt (H : Hp) (a : Addr) (kn : List Str) : Prop := ∃ kvs, H a = some (.dK kvs) ∧ kvs.map (·.1) = kn.map (Sum.inr : Str → Key)
theorem valV_keys : ∀ {kvs : List (Key × V)} {k : Key}, (valV kvs k).isSome = true ↔ k ∈ kvs.map Prod.fst
  | [], k => by
    rw [valV_nil]
    simp
  | p :: kvs, k => by
    have ih := valV_keys (kvs := kvs) (k := k)
    by_cases e : p.1 = k
    · rw [valV_pos e]
      simp [e]
    · rw [valV_neg e, ih, List.map_cons, List.mem_cons]
      exact ⟨.inr, fun h => h.resolve_left fun x => e x.symm⟩
theorem KnAt.has {H : Hp} {a : Addr} {kn : List Str} (h : KnAt H a kn) (z : Str) : ∃ o, DGet H a (.str z) o ∧ o.isSome = decide (z ∈ kn) := by
  obtain ⟨kvs, h1, h2⟩ := h
  refine ⟨_, DGet.k (k := .inr z) h1, ?_⟩
  rw [Bool.eq_iff_iff, valV_keys, h2, decide_eq_true_eq, List.mem_map]
  exact ⟨fun ⟨x, hx, e⟩ => by cases e; exact hx, fun hz => ⟨z, hz, rfl⟩⟩
theorem KnAt.put {H : Hp} {a : Addr} {kn : List Str} {kvs : List (Key × V)} (h1 : H a = some (.dK kvs)) (h2 : kvs.map (·.1) = kn.map (Sum.inr : Str → Key)) {zs : List Str} (hz : zs.length ≤ 1) (hn : ∀ z, z ∈ zs → z ∉ kn) :
    (mergeD kvs (zs.map fun z => ((.inr z : Key), V.bl true))).map (·.1) = (kn ++ zs).map (Sum.inr : Str → Key) := by
  match zs, hz with
  | [], _ => rw [List.append_nil]; exact h2
  | [z], _ =>
    have hk : valV kvs (.inr z) = none := by
      cases c : valV kvs (.inr z) with
      | none => rfl
      | some x =>
        have h3 := (valV_keys (kvs := kvs) (k := .inr z)).mp (by rw [c]; rfl)
        rw [h2] at h3
        obtain ⟨y, hy, e⟩ := List.mem_map.mp h3
        cases e
        exact (hn z (List.mem_singleton.mpr rfl) hy).elim
    show (putK kvs (.inr z) (.bl true)).map (·.1) = _
    rw [putK_new _ hk, List.map_append, h2, List.map_append]
    rfl
theorem letsL_le (d : PyData) : (letsL d).length ≤ 1 := by
  unfold letsL
  split
  · split <;> simp
  · simp
end
end L9

namespace L9
open PySem PySem.Spec PyProof.Rows L2 GR AD RZ WX ZE TX
def mayF (d : PyData) (kn : List Str) : Bool := !(letsL d).any (fun z => decide (z ∈ kn)) && (kidsS d).all (allX (varQ fun z => decide (z ∈ kn)))
/-- a transaction, from its statements, behind the names kn -/
def goT : List Str → List PyData → Bool
  | _, [] => true
  | kn, d :: ds => isSt d && (mayF d kn && goT (kn ++ letsL d) ds)
section
variable {P : Program} {w : World} {K : PySem.W.Frag} {mg : Str → Option Value} {base : Heap}
abbrev s_may_follow : Stmt := topS 34
abbrev N_mf : List Str := ["statement", "known", "name"]
theorem sc_may_follow : FnScope N_mf ["statement", "known"] (defScope s_may_follow) := ⟨rfl, rfl, rfl, by decide +kernel, rfl, by decide +kernel, by decide +kernel⟩
def sp_mf (K : PySem.W.Frag) : Sp := fun vs H Q _ => ∃ (v : V) (d : PyData) (ok : Addr → Prop) (a : Addr) (kn S : List Str), vs = [v, .ref a] ∧ Dd K ok H v d ∧ Sp' d ∧ KnAt H a kn ∧ S.length ≤ 60 ∧ varsIn S d ∧ ∀ H', Same H H' → Q (.bl (mayF d kn)) H'
theorem KnAt.keep {H H' : Hp} {a : Addr} {kn : List Str} (h : KnAt H a kn) (s : Same H H') : KnAt H' a kn := by
  obtain ⟨kvs, h1, h2⟩ := h
  exact ⟨kvs, s _ _ h1, h2⟩
theorem ok_may_follow {f fl fu : Addr} {fd dl du : FuncData} {k : Nat} (F : Fun K "may_follow" "may_follow" s_may_follow f fd) (Gl : FnOk P w K mg base CX0 k fl dl ["statement"] (sp_nl K)) (gl : mg "names_let" = some (.ref fl)) (Kl : PySem.W.keepIn K (.ref fl) = true) (bl : Binds K dl ["statement"] [])
    (Gu : FnOk P w K mg base CX0 k fu du ["statement"] (sp_nus K)) (gu : mg "names_used" = some (.ref fu)) (Ku : PySem.W.keepIn K (.ref fu) = true) (bu : Binds K du ["statement"] []) (mall : mg "all" = none) (many : mg "any" = none) : FnOk P w K mg base CX0 (k + 1) f fd ["statement", "known"] (sp_mf K) := by
  have nd := sc_may_follow.nd
  refine F.ok sc_may_follow (fun vs H Q E h => ?_) (fun cdv A outer s H vs Q E hr h => ?_)
  · obtain ⟨v, d, ok, a, kn, S, rfl, _⟩ := h
    rfl
  obtain ⟨v, d, ok, a, kn, S, rfl, hd, hs, hk, hS60, hv, q⟩ := h
  have hu1 := hu_of hr
  refine ⟨_, (pss_cons (ps_if (pt_val (pe_callB (cr_any rfl) (by rfl) many boot_any (pa_cons (pe_lc (own := [("name", 2)]) (tt := tYes) (te := tDIn (tVar 2) (tVar 1)) rfl nd (pi_keys (pe_frz (pe_call Gl hr (by rfl) gl Kl bl .nil pass0 (pa_cons (pv 0) pa_nil)))) (blkOk_by (N := N_mf) (sc := defScope s_may_follow) (by decide +kernel)) (fun _ _ _ _ _ => (pg_name (i := 2) nd rfl (Or.inl rfl))) (fun _ _ _ _ _ => pts_nil) (fun _ _ _ _ _ => pe_cmp (pc_din hu1 (pv 2) (pv 1)))) pa_nil)))
      (pss_one (ps_ret pe_bl))
      pss_nil)
      (pss_one (ps_ret (pe_callB (cr_all rfl) (by rfl) mall boot_all (pa_cons (pe_lc (own := [("name", 2)]) (tt := tYes) (te := tDIn (tVar 2) (tVar 1)) rfl nd (pi_list (pe_call Gu hr (by rfl) gu Ku bu .nil pass0 (pa_cons (pv 0) pa_nil))) (blkOk_by (N := N_mf) (sc := defScope s_may_follow) (by decide +kernel)) (fun _ _ _ _ _ => (pg_name (i := 2) nd rfl (Or.inl rfl))) (fun _ _ _ _ _ => pts_nil) (fun _ _ _ _ _ => pe_cmp (pc_din hu1 (pv 2) (pv 1)))) pa_nil))))), ?_⟩
  refine ⟨v, rfl, v, d, ok, rfl, hd, hs.st, fun H1 p s1 np hp => ⟨p, _, rfl, hp, trivial, fun od => ⟨p, od, rfl, .inl ⟨letK d, upd_same, fun D nD => ?_⟩⟩⟩⟩
  have s2 : Same H (upd H1 p (.frz od (.dK (letK d)))) := fun b o e => by
    rw [upd_ne (ne_of_none e np)]
    exact s1 _ _ e
  have hp2 : upd H1 p (.frz od (.dK (letK d))) p = some (.frz od (.dK (letK d))) := upd_same
  revert s2 hp2 nD
  generalize upd H1 p (.frz od (.dK (letK d))) = H2
  intro nD s2 hp2
  have hll := letsL_le d
  refine lc_it walk_keys (fun i H' => H' D = some (.lst (((letsL d).take i).map fun z => V.bl (decide (z ∈ kn)))) ∧ Same H2 H') ?_ ?_ ?_ ?_
  · exact ⟨upd_same, same_upd nD⟩
  · rintro i H' _ ⟨_, kk⟩
    exact kk _ _ hp2
  · rintro i x H' H'' hi ⟨hD, kk⟩ ⟨rfl, ky, u, hku, rfl⟩
    rw [List.getElem?_map] at hku
    obtain ⟨z, hz, e⟩ := Option.map_eq_some_iff.mp hku
    cases e
    obtain ⟨o, g1, g2⟩ := (hk.keep (s2.trans kk)).has z
    refine ⟨rfl, yes_then ⟨.str z, rfl, .ref a, rfl, a, o, rfl, g1, _, hD, small1000 ?_, ?_, fun b o e => ?_⟩⟩
    · rw [List.length_map, List.length_take]
      omega
    · rw [upd_same, take_at hz, List.map_append, g2]
      rfl
    · rw [upd_ne (ne_of_none e nD)]
      exact kk _ _ e
  · rintro H3 ⟨hD, kk⟩
    rw [List.length_map, List.take_length] at hD
    refine ⟨D, (letsL d).map fun z => decide (z ∈ kn), rfl, .inl (.inl (by rw [hD, List.map_map]; rfl)), ?_⟩
    have s3 := s2.trans kk
    rw [List.any_map]
    refine ⟨_, rfl, ?_⟩
    show if ((letsL d).any fun z => decide (z ∈ kn)) = true then _ else _
    unfold mayF at q
    cases c : (letsL d).any fun z => decide (z ∈ kn) with
    | true =>
      rw [c] at q
      exact iteT (q H3 s3)
    | false =>
    rw [c] at q
    simp only [Bool.not_false, Bool.true_and] at q
    refine iteF ⟨v, rfl, v, d, ok, S, rfl, hd.keep (KeepO.of s3), hs, hS60, hv, fun H4 pn zs s4 npn hpn hzl hzq => ⟨pn, rfl, ⟨_, .inl (.inl hpn)⟩, fun D2 nD2 => ?_⟩⟩
    refine walk_body (xs := zs.map V.str) (fun i H' => H' D2 = some (.lst (((zs.take i).map fun z => decide (z ∈ kn)).map V.bl)) ∧ Same H4 H') ?_ ?_ ?_ ?_
    · exact ⟨upd_same, same_upd nD2⟩
    · rintro i H' _ ⟨_, k4⟩
      exact .inl (.inl (k4 _ _ hpn))
    · rintro i y H' hy ⟨hD2, k4⟩
      rw [List.getElem?_map] at hy
      obtain ⟨z, hz, rfl⟩ := Option.map_eq_some_iff.mp hy
      obtain ⟨o, g1, g2⟩ := (hk.keep (s3.trans (s4.trans k4))).has z
      refine ⟨rfl, yes_then ⟨.str z, rfl, .ref a, rfl, a, o, rfl, g1, _, hD2, small1000 ?_, ?_, fun b o e => ?_⟩⟩
      · rw [List.length_map, List.length_map, List.length_take]
        omega
      · rw [upd_same, take_at hz, List.map_append, List.map_append, g2]
        rfl
      · rw [upd_ne (ne_of_none e nD2)]
        exact k4 _ _ e
    · rintro H5 ⟨hD2, k4⟩
      rw [List.length_map, List.take_length] at hD2
      refine ⟨D2, _, rfl, .inl (.inl hD2), ?_⟩
      rw [List.all_map]
      have := q H5 (s3.trans (s4.trans k4))
      rw [← hzq] at this
      exact this
abbrev s_is_transaction : Stmt := topS 30
theorem sc_is_transaction : FnScope ["thing", "known", "statement"] ["thing"] (defScope s_is_transaction) := ⟨rfl, rfl, rfl, by decide +kernel, rfl, by decide +kernel, by decide +kernel⟩
theorem small1000' {n : Nat} (h : n ≤ 8000000) : n ≤ sizeLine := by
  rw [sizeLine_eq]
  omega
mutual
/-- a text of the data is among S -/
def txS (S : List Str) : PyData → Bool
  | .tuple ds => txSs S ds
  | .str z => decide (z ∈ S)
  | _ => true
def txSs (S : List Str) : List PyData → Bool
  | [] => true
  | d :: ds => txS S d && txSs S ds
end
theorem txSs_mem {S : List Str} : ∀ {ds : List PyData}, txSs S ds = true → ∀ d, d ∈ ds → txS S d = true
  | [], _, d, h => (nomatch h)
  | x :: ds, h, d, hd => by
    rw [txSs, Bool.and_eq_true] at h
    rcases List.mem_cons.mp hd with rfl | hd
    · exact h.1
    · exact txSs_mem h.2 d hd
theorem pick_tx (W : List Str) {S : List Str} : ∀ {fs : List Str} {ds : List PyData}, (∀ d, d ∈ ds → txS S d = true) → ∀ y, y ∈ pick W fs ds → txS S y = true
  | [], _, _, y, hy => by simp only [pick, List.not_mem_nil] at hy
  | f :: fs, [], _, y, hy => by simp only [pick, List.not_mem_nil] at hy
  | f :: fs, d :: ds, h, y, hy => by
    rw [pick] at hy
    have hd := h d List.mem_cons_self
    rcases List.mem_append.mp hy with hy | hy
    · split at hy
      · cases d with
        | tuple xs =>
          rw [txS] at hd
          exact txSs_mem hd y hy
        | _ => exact (nomatch hy)
      · split at hy
        · rw [List.mem_singleton.mp hy]
          exact hd
        · exact (nomatch hy)
    · exact pick_tx W (fun x hx => h x (List.mem_cons_of_mem _ hx)) y hy
theorem txS_vars {S : List Str} {d : PyData} (h : txS S d = true) : allX (varQ fun z => decide (z ∈ S)) d = true := by
  refine allX_of (P := fun y => txS S y = true) (fun y hy => ⟨?_, fun z hz => ?_⟩) (sz d) d (Nat.le_refl _) h
  · unfold varQ
    cases c : varName y with
    | none => rfl
    | some z =>
      unfold varName at c
      split at c
      · rename_i w z' r
        split at c
        · cases c
          rw [txS, txSs, txSs, Bool.and_eq_true, Bool.and_eq_true] at hy
          exact hy.2.1
        · cases c
      · cases c
  · unfold kidsE at hz
    split at hz
    · rename_i w r
      split at hz
      · rw [txS, txSs, Bool.and_eq_true] at hy
        exact pick_tx W2 (txSs_mem hy.2) z hz
      · exact (nomatch hz)
    · exact (nomatch hz)
theorem txS_in {S : List Str} {d : PyData} (h : txS S d = true) (hs : isSt d = true) : varsIn S d := fun x hx => by
  obtain ⟨w, fs, r, rfl, lk, hf⟩ := isSt_inv hs
  rw [kidsS_some lk] at hx
  rw [txS, txSs, Bool.and_eq_true] at h
  exact txS_vars (txSs_mem h.2 x (exprs_isX hf x hx).2.2)
/-- what may be asked whether it is a statement -/
structure Zp (S : List Str) (d : PyData) : Prop where
  tx : txS S d = true
  ys : ∀ ds, d = .tuple ds → ∀ y, y ∈ ds → Yp y
def sp_it (K : PySem.W.Frag) : Sp := fun vs H Q _ => ∃ (a : Addr) (us : List V) (ds : List PyData) (ok : Addr → Prop) (S : List Str), vs = [.ref a] ∧ SqT K H a us ∧ DdAll K ok H us ds ∧ (∀ d, d ∈ ds → Zp S d) ∧ S.length ≤ 60 ∧ ds.length ≤ 4000000 ∧ ∀ H', Same H H' → Q (.bl (goT [] ds)) H'
def TInv (K : PySem.W.Frag) (ok : Addr → Prop) (a kA : Addr) (H0 : Hp) (ds : List PyData) (i : Nat) (σ : L2.St) (H : Hp) : Prop :=
  ∃ (y : Option V) (kn : List Str), σ = [some (.ref a), some (.ref kA), y] ∧ KnAt H kA kn ∧ kn.length ≤ i ∧ goT [] ds = goT kn (ds.drop i) ∧ (∀ b o, b ≠ kA → H0 b = some o → H b = some o)
theorem ok_is_transaction {f fl fs fm : Addr} {fd dl dS dm : FuncData} {k : Nat} (F : Fun K "is_transaction" "is_transaction" s_is_transaction f fd) (Gl : FnOk P w K mg base CX0 k fl dl ["statement"] (sp_nl K)) (gl : mg "names_let" = some (.ref fl)) (Kl : PySem.W.keepIn K (.ref fl) = true) (bl : Binds K dl ["statement"] [])
    (Gs : FnOk P w K mg base CX0 k fs dS ["thing"] (sp_ist K)) (gs : mg "is_statement" = some (.ref fs)) (Ks : PySem.W.keepIn K (.ref fs) = true) (bs : Binds K dS ["thing"] [])
    (Gm : FnOk P w K mg base CX0 k fm dm ["statement", "known"] (sp_mf K)) (gm : mg "may_follow" = some (.ref fm)) (Km : PySem.W.keepIn K (.ref fm) = true) (bm : Binds K dm ["statement", "known"] []) (misi : mg "isinstance" = none) (mtuple : mg "tuple" = none) : FnOk P w K mg base CX0 (k + 1) f fd ["thing"] (sp_it K) := by
  have nd := sc_is_transaction.nd
  refine F.ok sc_is_transaction (fun vs H Q E h => ?_) (fun cdv A outer s H vs Q E hr h => ?_)
  · obtain ⟨a, us, ds, ok, S, rfl, _⟩ := h
    rfl
  obtain ⟨a, us, ds, ok, S, rfl, hS, hA, hZ, hS60, hl1000, q⟩ := h
  refine ⟨_, (pss_cons (ps_if (pt_not (pt_val (pe_callB call_isi (by rfl) misi boot_isinstance (pa_cons (pv 0) (pa_cons (pe_bltn (v := .ty "tuple") (by rfl) mtuple boot_tuple rfl) pa_nil)))))
      (pss_one (ps_ret pe_bl))
      pss_nil)
      (pss_cons (ps_set (i := 1) nd rfl (.inl rfl) pe_dnewK)
      (pss_cons (ps_for PassesOwn.never rfl (pi_tup (pv 0)) (pg_name (i := 2) nd rfl (Or.inl rfl))
      (pss_cons (ps_if (PW.pt (pw_or (pt_not (pt_val (pe_call Gs hr (by rfl) gs Ks bs .nil pass0 (pa_cons (pv 2) pa_nil)))) (pw_or1 (pt_not (pt_val (pe_call Gm hr (by rfl) gm Km bm .nil pass0 (pa_cons (pv 2) (pa_cons (pv 1) pa_nil))))))))
        (pss_one (ps_ret pe_bl))
        pss_nil)
        (pss_one (ps_expr (pe_bm PySem.F.plainAttrs_dict PySem.F.slot_dict_update PySem.F.type_dict_update mt_dupd (pv 1) (pa_cons (pe_call Gl hr (by rfl) gl Kl bl .nil pass0 (pa_cons (pv 2) pa_nil)) pa_nil))))))
      (pss_one (ps_ret pe_bl))))), ?_⟩
  have hd : Dd K ok H (.ref a) (.tuple ds) := .tup hS hA
  have lu := hA.len
  refine ⟨.ref a, rfl, .ref a, .ty "tuple", _, _, _, rfl, .ty "tuple", hd.ty, kit_t K _, _, rfl, iteF ?_⟩
  refine fun kA nk => ⟨.ref a, rfl, a, rfl, ⟨us, (KeepT.of (same_upd nk)).seqt hS⟩, ?_⟩
  have s0 := same_upd (o := .dK []) nk
  have hk0 : KnAt (upd H kA (.dK [])) kA [] := ⟨[], upd_same, rfl⟩
  revert s0 hk0
  generalize upd H kA (.dK []) = H1
  intro s0 hk0
  obtain ⟨kvs0, hk00, _⟩ := id hk0
  have keepO : ∀ {H' : Hp}, (∀ b o, b ≠ kA → H1 b = some o → H' b = some o) → KeepO (fun b => ok b ∧ b ≠ kA) H1 H' := fun kk =>
    ⟨fun b xs e => kk _ _ (ne_of e hk00 fun z => nomatch z) e, fun b o xs e => kk _ _ (ne_of e hk00 fun z => nomatch z) e, fun b o hb e => kk _ _ hb.2 e⟩
  have hAo := (hA.off nk).keep (KeepO.of s0)
  have hS1 := (KeepT.of s0).seqt hS
  refine for_it (walk_tup (xs := us)) (TInv K ok a kA H1 ds) ⟨none, [], rfl, hk0, Nat.le_refl _, rfl, fun b o _ e => e⟩ ?_ ?_ ?_
  · rintro i σ H' _ ⟨y, kn, rfl, _, _, _, kk⟩
    exact (keepO kk).seqt hS1
  · rintro i x σ H0' H' hi ⟨y, kn, rfl, hk, hkl, hg, kk⟩ ⟨rfl, hx⟩
    obtain ⟨d, hdi, hxd⟩ := dd_at hAo hx
    have hz := hZ d (List.mem_of_getElem? hdi)
    have hi2 : i < ds.length := (List.getElem?_eq_some_iff.mp hdi).1
    have hxd1 := hxd.keep (keepO kk)
    have fin : ∀ H2, Same H' H2 → Same H H2 := fun H2 s2 b o e => s2 _ _ (kk _ _ (ne_of_none e nk) (s0 _ _ e))
    rw [List.drop_eq_getElem_cons hi2, (List.getElem?_eq_some_iff.mp hdi).2, goT] at hg
    refine ⟨x, rfl, x, d, _, rfl, hxd1, hz.ys, fun H2 s2 => ⟨_, rfl, ?_⟩⟩
    cases c1 : isSt d with
    | false =>
      rw [c1, Bool.false_and] at hg
      have := q H2 (fin H2 s2)
      rw [hg] at this
      exact iteT (iteT this)
    | true =>
    rw [c1, Bool.true_and] at hg
    have hsp : Sp' d := ⟨c1, hz.ys⟩
    refine iteF ⟨x, rfl, .ref kA, rfl, x, d, _, kA, kn, S, rfl, hxd1.keep (KeepO.of s2), hsp, hk.keep s2, hS60, txS_in hz.tx c1, fun H3 s3 => ⟨_, rfl, ?_⟩⟩
    have s23 := s2.trans s3
    cases c2 : mayF d kn with
    | false =>
      rw [c2, Bool.false_and] at hg
      have := q H3 (fin H3 s23)
      rw [hg] at this
      exact iteT this
    | true =>
    rw [c2, Bool.true_and] at hg
    have hk3 := hk.keep s23
    have hty : tyV K "dict" (.ref kA) H3 := by
      obtain ⟨kvs, g1, _⟩ := hk3
      exact .inr (.inr (.inl ⟨rfl, .inl ⟨kvs, g1⟩⟩))
    refine iteF ⟨.ref kA, rfl, hty, x, rfl, x, d, _, rfl, hxd1.keep (KeepO.of s23), c1, fun H4 p s4 np hp => ?_⟩
    obtain ⟨kvs, g1, g2⟩ := hk3
    have g4 := s4 _ _ g1
    have hll := letsL_le d
    have hkv : kvs.length = kn.length := by
      have := congrArg List.length g2
      rwa [List.length_map, List.length_map] at this
    have hnot : ∀ z, z ∈ letsL d → z ∉ kn := by
      unfold mayF at c2
      rw [Bool.and_eq_true, Bool.not_eq_true'] at c2
      intro z hz2 hzk
      have := List.any_eq_false.mp c2.1 z hz2
      exact this (decide_eq_true hzk)
    refine ⟨kA, p, kvs, _, rfl, rfl, ne_of_none g1 np, g4, hp, ?_, some x, kn ++ letsL d, rfl, ⟨_, upd_same, KnAt.put g4 g2 hll hnot⟩, ?_, hg, fun b o hb e => ?_⟩
    · rw [List.length_map]
      exact small1000' (by omega)
    · rw [List.length_append]
      omega
    · rw [upd_ne hb]
      exact s4 _ _ (s23 _ _ (kk b o hb e))
  · rintro σ H' ⟨y, kn, rfl, hk, hkl, hg, kk⟩
    rw [lu, List.drop_length] at hg
    have := q H' fun b o e => kk _ _ (ne_of_none e nk) (s0 _ _ e)
    rw [hg] at this
    exact this
end
end L9

/-! == and != of any data with a known tuple: a dict is no tuple and no text. -/
namespace DN
open PySem PySem.SeqAt PySem.W PySem.Spec PyProof.Rows
open PySem.AutoSeq1 (wpAny_loadPart')
open PySem.MeetsSeq PySem.MeetsSeq2 PySem.MeetsSeq3
section
variable {prog : Program} {w : World} {A : Around} {E : Value → Shared → Prop} {s : Shared}
theorem dict_eq_no {l : Addr} {b : Value} {T : String} (tl : s.TypeIs (.ref l) "dict") (tb : s.TypeIs b T) (hs : isSubtype (.type T) (.type "dict") = pure false) {Q : Value → Shared → Prop} (h : Q .notImplemented s) :
    wpAny (model prog w) A (call (.builtin "dict.__eq__") [.ref l, b]) Q E s := by
  refine wpAny_call_entry PySem.F.slot_dict_eq tl PySem.F.entry_dict_eq ?_ (PySem.F.args_dict_eq_2 _ _)
  show wpAny _ _ (Builtin.Dict.dictSlotArgs "__eq__" ⟨[.ref l, b], []⟩ >>= _) _ _ s
  refine wpAny_bind ?_
  unfold Builtin.Dict.dictSlotArgs
  refine wpAny_bind (wpAny_notOrdered_dict tl ?_)
  show wpAny _ _ (pure (Value.ref l, b)) _ _ s
  refine wpAny_pure ?_
  refine wpAny_bind (wpAny_isInstance (T := T) tb hs ?_)
  simp only [Bool.not_false, if_true]
  refine wpAny_bind (wpAny_rule ?_)
  exact wpAny_pure ⟨_, rfl, h⟩
theorem dict_ne_no {l : Addr} {b : Value} {T : String} (tl : s.TypeIs (.ref l) "dict") (tb : s.TypeIs b T) (hs : isSubtype (.type T) (.type "dict") = pure false) {Q : Value → Shared → Prop} (h : Q .notImplemented s) :
    wpAny (model prog w) A (call (.builtin "dict.__ne__") [.ref l, b]) Q E s := by
  refine wpAny_call_entry PySem.F.slot_dict_ne tl PySem.F.entry_dict_ne ?_ (PySem.F.args_dict_ne_2 _ _)
  show wpAny _ _ (Builtin.Dict.dictSlotArgs "__ne__" ⟨[.ref l, b], []⟩ >>= _) _ _ s
  refine wpAny_bind ?_
  unfold Builtin.Dict.dictSlotArgs
  refine wpAny_bind (wpAny_notOrdered_dict tl ?_)
  show wpAny _ _ (pure (Value.ref l, b)) _ _ s
  refine wpAny_pure ?_
  refine wpAny_bind (wpAny_isInstance (T := T) tb hs ?_)
  simp only [Bool.not_false, if_true]
  refine wpAny_bind (wpAny_rule ?_)
  exact wpAny_pure ⟨_, rfl, h⟩
end
theorem tuple_eq_dict (l b : Addr) (items : Array Value) (n : Nat) (dd dd2 : Option Addr) (sl sl2 : Array (Option Value)) (D : Data) :
    Meets (Builtin.«tuple.__eq__» ⟨[.ref l, .ref b], []⟩) (fun _ R s => s.heap.get? l = some { cls := .type "tuple", dict := dd, data := .seq items n, slots := sl } ∧ s.heap.get? b = some { cls := .type "dict", dict := dd2, data := D, slots := sl2 } ∧ R (.ok (.ret .notImplemented)) s) :=
  .of_wp fun prog w A R s h => by obtain ⟨hp, g, d, tk, os⟩ := s; obtain ⟨hl, hb, h⟩ := h; have f1 := F.sub_dict_tuple; wp_walk using wpAny_loadPart' hl, wpAny_loadPart' hb; exact ⟨_, rfl, h⟩
theorem tuple_ne_dict (l b : Addr) (items : Array Value) (n : Nat) (dd dd2 : Option Addr) (sl sl2 : Array (Option Value)) (D : Data) :
    Meets (Builtin.«tuple.__ne__» ⟨[.ref l, .ref b], []⟩) (fun _ R s => s.heap.get? l = some { cls := .type "tuple", dict := dd, data := .seq items n, slots := sl } ∧ s.heap.get? b = some { cls := .type "dict", dict := dd2, data := D, slots := sl2 } ∧ R (.ok (.ret .notImplemented)) s) :=
  .of_wp fun prog w A R s h => by obtain ⟨hp, g, d, tk, os⟩ := s; obtain ⟨hl, hb, h⟩ := h; have f1 := F.sub_dict_tuple; wp_walk using wpAny_loadPart' hl, wpAny_loadPart' hb; exact ⟨_, rfl, h⟩
theorem str_eq_dict (z : Str) (u : Tok) (l : Addr) (c : Value) (es : Array DictEntry) (ep : Nat) (dd : Option Addr) (sl : Array (Option Value)) :
    Meets (Builtin.«str.__eq__» ⟨[.str z u, .ref l], []⟩) (fun _ R s => s.heap.get? l = some { cls := c, dict := dd, data := .dict es ep, slots := sl } ∧ R (.ok (.ret .notImplemented)) s) :=
  .of_wp fun prog w A R s h => by obtain ⟨hp, g, d, tk, os⟩ := s; obtain ⟨hl, h⟩ := h; wp_walk using wpAny_loadPart' hl, wpAny_load hl; exact ⟨_, rfl, h⟩
/-- a dict at l -/
def IsD (h : Heap) (l : Addr) : Prop := ∃ dd es ep sl, h.get? l = some { cls := .type "dict", dict := dd, data := .dict es ep, slots := sl }
section
variable {A : Around} {s : Shared}
theorem ne_dict_tuple {l b : Addr} {items : Array Value} (hl : IsD s.heap l) (hb : s.heap.IsTuple b items) : l ≠ b := fun e => by
  subst e
  obtain ⟨dd, es, ep, sl, ho⟩ := hl
  obtain ⟨o2, ho2, hc2, _⟩ := hb
  rw [ho] at ho2
  cases ho2
  exact absurd hc2 (by simp)
theorem rc_dict_tuple {l b : Addr} {items : Array Value} (hl : IsD s.heap l) (hb : s.heap.IsTuple b items) (hu : A.units < cLine) : RcAt A s (.ref l) (.ref b) false := fun prog w E Q h => by
  have hne := ne_dict_tuple hl hb
  obtain ⟨dd, es, ep, sl, ho⟩ := hl
  obtain ⟨⟨cls2, dd2, data2, sl2⟩, ho2, hc2, n2, hd2⟩ := id hb
  simp only at hc2 hd2
  subst hc2 hd2
  exact (rc_eq_decline_or (k := false) ⟨_, ho, rfl⟩ ⟨_, ho2, rfl⟩ (by decide) F.sub_tuple_dict F.slot_dict_eq F.slot_tuple_eq_refl
    (fun _ hq => dict_eq_no (show s.TypeIs (.ref l) "dict" from ⟨_, ho, rfl⟩) (show s.TypeIs (.ref b) "tuple" from ⟨_, ho2, rfl⟩) F.sub_tuple_dict hq)
    (fun _ hq => call_meets F.slot_tuple_eq_refl ⟨_, ho2, rfl⟩ F.entry_tuple_eq (F.args_tuple_eq_2 _ _) (tuple_eq_dict b l items n2 dd2 dd sl2 sl _) ⟨ho2, ho, hq⟩)
    (fun _ hq => wpAny_isSame_ref_other hne ho ho2 (by simp) hq) (.inr hu) h)
theorem eq_dict_tuple {l b : Addr} {items : Array Value} (hl : IsD s.heap l) (hb : s.heap.IsTuple b items) (hu : A.units < cLine) : EqAt A s (.ref l) (.ref b) false := .of_refs (ne_dict_tuple hl hb) (rc_dict_tuple hl hb hu)
theorem rcn_dict_tuple {l b : Addr} {items : Array Value} (hl : IsD s.heap l) (hb : s.heap.IsTuple b items) (hu : A.units < cLine) : RcNeAt A s (.ref l) (.ref b) true := fun prog w E Q h => by
  have hne := ne_dict_tuple hl hb
  obtain ⟨dd, es, ep, sl, ho⟩ := hl
  obtain ⟨⟨cls2, dd2, data2, sl2⟩, ho2, hc2, n2, hd2⟩ := id hb
  simp only at hc2 hd2
  subst hc2 hd2
  exact (rc_ne_decline_or (k := false) ⟨_, ho, rfl⟩ ⟨_, ho2, rfl⟩ (by decide) F.sub_tuple_dict F.slot_dict_ne F.slot_tuple_ne_refl
    (fun _ hq => dict_ne_no (show s.TypeIs (.ref l) "dict" from ⟨_, ho, rfl⟩) (show s.TypeIs (.ref b) "tuple" from ⟨_, ho2, rfl⟩) F.sub_tuple_dict hq)
    (fun _ hq => call_meets F.slot_tuple_ne_refl ⟨_, ho2, rfl⟩ F.entry_tuple_ne (F.args_tuple_ne_2 _ _) (tuple_ne_dict b l items n2 dd2 dd sl2 sl _) ⟨ho2, ho, hq⟩)
    (fun _ hq => wpAny_isSame_ref_other hne ho ho2 (by simp) hq) (.inr hu) h)
theorem eq_dict_str {l : Addr} (z : Str) (u : Tok) (hl : IsD s.heap l) (hu : A.units < cLine) : EqAt A s (.ref l) (.str z u) false := fun prog w E Q h => by
  obtain ⟨dd, es, ep, sl, ho⟩ := hl
  unfold eqBool
  refine wpAny_holding ?_
  refine wpAny_ite_split (fun hab => absurd (eq_of_beq hab) nofun) (fun _ => ?_)
  refine wpAny_bind (rc_eq_decline_or (k := false) ⟨_, ho, rfl⟩ (typeIs_str s z u) (by decide) F.sub_str_dict F.slot_dict_eq F.slot_str_eq_refl
    (fun _ hq => dict_eq_no (show s.TypeIs (.ref l) "dict" from ⟨_, ho, rfl⟩) (typeIs_str s z u) F.sub_str_dict hq)
    (fun _ hq => call_meets F.slot_str_eq_refl (typeIs_str s z u) F.entry_str_eq (F.args_str_eq_2 _ _) (str_eq_dict z u l _ es ep dd sl) ⟨ho, hq⟩)
    (fun _ hq => wpAny_of_eq (rfl : isSame (.ref l) (.str z u) = pure false) hq) (.inr hu) (wpAny_truthy_bool h))
end
end DN
namespace DN
open PySem PySem.SeqAt PySem.W PySem.Spec PyProof.Rows
mutual
/-- texts and tuples of such -/
def tx : PyData → Bool
  | .str z => PyData.strOk z
  | .tuple ys => txs ys
  | _ => false
def txs : List PyData → Bool
  | [] => true
  | y :: ys => tx y && txs ys
end
mutual
theorem tx_lay : ∀ d : PyData, tx d = true → d.canLay0 = true
  | .none, h => by cases h
  | .bool _, h => by cases h
  | .int _, h => by cases h
  | .list _, h => by cases h
  | .dict _, h => by cases h
  | .str z, h => by
    simp only [PyData.canLay0]
    exact h
  | .tuple ys, h => by
    simp only [PyData.canLay0]
    exact tx_lays ys h
termination_by structural d => d
theorem tx_lays : ∀ ds : List PyData, txs ds = true → PyData.canLayAll0 ds = true
  | [], _ => by simp only [PyData.canLayAll0]
  | y :: ys, h => by
    have ht' : tx y = true ∧ txs ys = true := by simpa [txs] using h
    simp only [PyData.canLayAll0, tx_lay y ht'.1, tx_lays ys ht'.2, Bool.and_self]
termination_by structural ds => ds
end
mutual
/-- == of anything with texts and tuples of such -/
theorem eqR : ∀ (db : PyData) (n : Nat) (da : PyData) (A : Around) (s : Shared) (va vb : Value) (as bs : List Addr), tx db = true → db.depth ≤ n → Reads s.heap va da as → Reads s.heap vb db bs → A.units + n < cLine → EqAt A s va vb (PyData.eqv da db)
  | .str z, n, da, A, s, _, _, _, _, _, _, ra, rb, hu => by
    have hu' : A.units < cLine := by omega
    cases rb with
    | str _ t =>
      cases ra with
      | none => exact EqAt.none_str z t
      | bool y => exact EqAt.bool_str y z t
      | int y u => exact EqAt.int_str y u z t
      | str y u => exact EqAt.str_str y u z t
      | list k1 k2 k3 k4 => exact EqAt.list_str z t ⟨_, k1, k2, _, k3⟩ hu'
      | tuple k1 k2 k3 k4 => exact EqAt.tuple_str z t ⟨_, k1, k2, _, k3⟩ hu'
      | @dict l o es m kvs _ _ k1 k2 k3 _ _ =>
        refine eq_dict_str z t ⟨o.dict, es, m, o.slots, ?_⟩ hu'
        rw [k1, ← k2, ← k3]
  | .tuple ys, n, da, A, s, _, _, _, _, ht, hd, ra, rb, hu => by
    have hu' : A.units < cLine := by omega
    have ra0 := ra
    cases rb with
    | @tuple l' o' vs' n' _ bs₁ k1 k2 k3 k4 =>
      have hl' : s.heap.IsTuple l' vs' := ⟨_, k1, k2, _, k3⟩
      cases ra with
      | none => exact EqAt.none_tuple hl' hu'
      | bool y => exact EqAt.bool_tuple y hl' hu'
      | int y u => exact EqAt.int_tuple y u hl' hu'
      | str y u => exact EqAt.str_tuple y u hl' hu'
      | list h1 h2 h3 h4 => exact EqAt.list_tuple ⟨_, h1, h2, _, h3⟩ hl' hu'
      | @dict l o es m kvs _ _ h1 h2 h3 _ _ =>
        refine eq_dict_tuple ⟨o.dict, es, m, o.slots, ?_⟩ hl' hu'
        rw [h1, ← h2, ← h3]
      | @tuple l o vs m xs as₁ h1 h2 h3 h4 =>
        have hl : s.heap.IsTuple l vs := ⟨_, h1, h2, _, h3⟩
        have n1 : vs.size = xs.length := by simpa using ReadsAll.length _ _ _ h4
        have n2 : vs'.size = ys.length := by simpa using ReadsAll.length _ _ _ k4
        show EqAt A s (.ref l) (.ref l') (PyData.eqvAll xs ys)
        have hdd : PyData.depthAll ys + 1 ≤ n := by simpa [PyData.depth] using hd
        obtain ⟨m', rfl⟩ : ∃ m', n = m' + 1 := ⟨n - 1, by omega⟩
        by_cases hll : l = l'
        · subst hll
          have e : PyData.tuple ys = PyData.tuple xs := SeqAt.Reads.unique (.tuple ys) (.tuple xs) _ _ _ (by simp only [PyData.canLay0]; exact tx_lays ys ht) (.tuple k1 k2 k3 k4) ra0
          injection e with e
          subst e
          rw [eqvAll_refl ys (tx_lays ys ht)]
          exact EqAt.same _
        · rw [← eqvAll_eq xs ys, ← n1, ← n2]
          refine EqAt.of_refs hll (RcAt.tuples hl hl' hu' fun j j1 j2 => ?_)
          have := eqRs ys m' xs A.in1 s vs.toList vs'.toList _ _ ht (by omega) h4 k4 (show A.units + 1 + m' < cLine by omega) j (by simpa using j1) (by simpa using j2)
          simpa using this
  | .none, _, _, _, _, _, _, _, _, h, _, _, _, _ => by cases h
  | .bool _, _, _, _, _, _, _, _, _, h, _, _, _, _ => by cases h
  | .int _, _, _, _, _, _, _, _, _, h, _, _, _, _ => by cases h
  | .list _, _, _, _, _, _, _, _, _, h, _, _, _, _ => by cases h
  | .dict _, _, _, _, _, _, _, _, _, h, _, _, _, _ => by cases h
termination_by structural db => db
theorem eqRs : ∀ (ys : List PyData) (n : Nat) (xs : List PyData) (A : Around) (s : Shared) (vs ws : List Value) (as bs : List Addr), txs ys = true → PyData.depthAll ys ≤ n → ReadsAll s.heap vs xs as → ReadsAll s.heap ws ys bs → A.units + n < cLine →
    ∀ j (h1 : j < vs.length) (h2 : j < ws.length), EqAt A s vs[j] ws[j] (pairEq xs ys j)
  | [], _, _, _, _, _, _, _, _, _, _, _, rb, _, j, _, h2 => by cases rb; exact absurd h2 (Nat.not_lt_zero _)
  | y :: ys, n, xs, A, s, _, _, _, _, ht, hd, ra, rb, hu, j, h1, h2 => by
    have ht' : tx y = true ∧ txs ys = true := by simpa [txs] using ht
    have hd' : y.depth ≤ n ∧ PyData.depthAll ys ≤ n := by
      simp only [PyData.depthAll] at hd
      omega
    cases ra with
    | nil => exact absurd h1 (Nat.not_lt_zero _)
    | cons r1 r2 =>
      cases rb with
      | cons q1 q2 =>
        cases j with
        | zero => exact eqR y n _ A s _ _ _ _ ht'.1 hd'.1 r1 q1 hu
        | succ j => exact eqRs ys n _ A s _ _ _ _ ht'.2 hd'.2 r2 q2 hu j (by simpa using h1) (by simpa using h2)
termination_by structural ys => ys
end
end DN
namespace DN
open PySem PySem.SeqAt PySem.W PySem.Spec PyProof.Rows
theorem rcnR (ys : List PyData) (n : Nat) (da : PyData) (A : Around) (s : Shared) (va vb : Value) (as bs : List Addr) (ht : txs ys = true) (hd : PyData.depthAll ys ≤ n) (ra : Reads s.heap va da as) (rb : Reads s.heap vb (.tuple ys) bs) (hu : A.units + (n + 1) < cLine) :
    RcNeAt A s va vb (!PyData.eqv da (.tuple ys)) := by
  have hu' : A.units < cLine := by omega
  cases rb with
  | @tuple l' o' vs' n' _ bs₁ k1 k2 k3 k4 =>
    have hl' : s.heap.IsTuple l' vs' := ⟨_, k1, k2, _, k3⟩
    cases ra with
    | none => exact RcNeAt.none_tuple hl' hu'
    | bool y => exact RcNeAt.bool_tuple y hl' hu'
    | int y u => exact RcNeAt.int_tuple y u hl' hu'
    | str y u => exact RcNeAt.str_tuple y u hl' hu'
    | list h1 h2 h3 h4 => exact RcNeAt.list_tuple ⟨_, h1, h2, _, h3⟩ hl' hu'
    | @dict l o es m kvs _ _ h1 h2 h3 _ _ =>
      refine rcn_dict_tuple ⟨o.dict, es, m, o.slots, ?_⟩ hl' hu'
      rw [h1, ← h2, ← h3]
    | @tuple l o vs m xs as₁ h1 h2 h3 h4 =>
      have hl : s.heap.IsTuple l vs := ⟨_, h1, h2, _, h3⟩
      have n1 : vs.size = xs.length := by simpa using ReadsAll.length _ _ _ h4
      have n2 : vs'.size = ys.length := by simpa using ReadsAll.length _ _ _ k4
      show RcNeAt A s (.ref l) (.ref l') (!PyData.eqvAll xs ys)
      rw [← eqvAll_eq xs ys, ← n1, ← n2]
      refine RcNeAt.tuples hl hl' hu' fun j j1 j2 => ?_
      have := eqRs ys n xs A.in1 s vs.toList vs'.toList _ _ ht hd h4 k4 (show A.units + 1 + n < cLine by omega) j (by simpa using j1) (by simpa using j2)
      simpa using this
open L2 GR AD
/-- != of anything, dicts too, with a tuple of texts and of tuples of such -/
def rNeT (X : L2.Cx) : R2 := fun x y H Q => ∃ (d : PyData) (es : List PyData) (ok : Addr → Prop), (∀ a, ok a → a ≠ sysModules) ∧ Dd X.K ok H x d ∧ Dd X.K ok H y (.tuple es) ∧ txs es = true ∧ PyData.depthAll es ≤ 8 ∧ Q (.bl (!PyData.eqv d (.tuple es))) H
section
variable {X : L2.Cx}
theorem op_neT (hu : X.A.units + 9 < cLine) : OpR X (compareOp .NotEq) (rNeT X) := by
  intro pins s σ H x y v u Q I rx ry h
  obtain ⟨d, es, ok, hok, hd, he, ht, hdep, q⟩ := h
  obtain ⟨as, r1, _⟩ := Dd.reads I hok hd v rx
  obtain ⟨bs, r2, _⟩ := Dd.reads I hok he u ry
  exact rcnR es 8 d X.A s v u _ _ ht hdep r1 r2 hu _ _ _ _ ⟨.bl _, H, I, rfl, q⟩
end
end DN

/-! t[::-1] of a tuple; list(t) not where the modules are. -/
namespace RVT
open PySem PySem.Spec PyProof.Rows L2 HT
theorem adjust_rev (n : Nat) : Builtin.Slice.sliceAdjust none none (-1) (n : Int) = ((n : Int) - 1, -1) := by
  unfold Builtin.Slice.sliceAdjust
  have h1 : ((-1 : Int) < 0) := by decide
  simp only [h1, if_true]
theorem places_rev (n : Nat) : Builtin.Slice.slicePlaces ((n : Int) - 1) (-1) (-1) = n := by
  unfold Builtin.Slice.slicePlaces
  have h1 : ¬ ((-1 : Int) > 0) := by decide
  simp only [h1, if_false]
  by_cases h : (n : Int) - 1 > -1
  · rw [if_pos h, show (- -1 : Int) = 1 by decide, Int.ediv_one]
    omega
  · rw [if_neg h]
    omega
theorem pick_rev (xs : Array Value) : ((List.range xs.size).filterMap fun (m : Nat) => xs[((xs.size : Int) - 1 + (m : Int) * (-1)).toNat]?).toArray = xs.toList.reverse.toArray := by
  have e : (List.range xs.size).filterMap (fun (m : Nat) => xs[((xs.size : Int) - 1 + (m : Int) * (-1)).toNat]?) = ((List.range xs.size).map fun k => xs.size - 1 - k).filterMap (xs[·]?) := by
    have g : ∀ l : List Nat, (∀ m, m ∈ l → m < xs.size) → l.filterMap (fun (m : Nat) => xs[((xs.size : Int) - 1 + (m : Int) * (-1)).toNat]?) = (l.map fun k => xs.size - 1 - k).filterMap (xs[·]?) := by
      intro l
      induction l with
      | nil => intro _; rfl
      | cons m l ih =>
        intro h
        have hm := h m List.mem_cons_self
        have e1 : ((xs.size : Int) - 1 + (m : Int) * (-1)).toNat = xs.size - 1 - m := by omega
        rw [List.map_cons, List.filterMap_cons, List.filterMap_cons, e1, ih fun y hy => h y (List.mem_cons_of_mem _ hy)]
    exact g _ fun m hm => List.mem_range.mp hm
  rw [e, PySem.W.krv_range, List.filterMap_reverse, PySem.W.krv_all]
section
variable {prog : Program} {w : World} {A : Around} {E : Value → Shared → Prop} {s : Shared}
theorem sliceApplied_rev {sl : Addr} {vl vu vs : Value} {n : Nat} {Q : Int × Int × Nat → Shared → Prop} (hs : s.heap.IsSliceOf sl vl vu vs) (pl : IsPart vl none) (pu : IsPart vu none) (ps : IsPart vs (some (-1)))
    (h : Q ((n : Int) - 1, -1, n) s) : wpAny (model prog w) A (Builtin.Slice.sliceApplied (.ref sl) (pure (n : Int))) Q E s := by
  obtain ⟨os, hos, hcs, hds⟩ := id hs
  unfold Builtin.Slice.sliceApplied Builtin.Slice.sliceFields
  refine wpAny_bind (wpAny_bind (wpAny_field hos hds (x := vl) rfl (wpAny_bind (wpAny_field hos hds (x := vu) rfl (wpAny_bind (wpAny_field hos hds (x := vs) rfl (wpAny_pure ?_)))))))
  refine wpAny_bind (slicePart_ ps ?_)
  show wpAny _ _ (if ((-1 : Int) == 0) = true then _ else _) _ _ s
  rw [if_neg (by decide)]
  refine wpAny_bind (slicePart_ pl (wpAny_bind (slicePart_ pu (wpAny_bind (wpAny_pure ?_)))))
  show wpAny _ _ (match Builtin.Slice.sliceAdjust none none (-1) (n : Int) with | (lo, hi) => pure (lo, (-1 : Int), Builtin.Slice.slicePlaces lo hi (-1))) _ _ s
  rw [adjust_rev]
  show wpAny _ _ (pure ((n : Int) - 1, (-1 : Int), Builtin.Slice.slicePlaces ((n : Int) - 1) (-1) (-1))) _ _ s
  rw [places_rev]
  exact wpAny_pure h
theorem getItem_tuple_rev {t sl : Addr} {items : Array Value} {vl vu vs : Value} {Q : Value → Shared → Prop} (ht : IsTup s.heap t items) (hs : s.heap.IsSliceOf sl vl vu vs) (pl : IsPart vl none) (pu : IsPart vu none) (ps : IsPart vs (some (-1)))
    (h : Q (.ref s.heap.objs.size) { s with heap := s.heap.push { cls := .type "tuple", data := .seq items.toList.reverse.toArray } })
    (hsz : items.size ≤ sizeLine) : wpAny (model prog w) A (getItem (.ref t) (.ref sl)) Q E s := by
  have htake : sizeOk (.seq items.toList.reverse.toArray) := by
    show items.toList.reverse.toArray.size ≤ sizeLine
    rw [List.size_toArray, List.length_reverse, Array.length_toList]
    exact hsz
  obtain ⟨os, hos, hcs, hds⟩ := id hs
  have hTs : s.TypeIs (.ref sl) "slice" := ⟨os, hos, hcs⟩
  unfold getItem
  try with_reducible refine wpAny_holding ?_
  first | refine wpAny_bind (wpAny_pure ?_) | skip
  refine wpAny_bind (wpAny_sequenceKey ht.typeIs (by decide) ?_)
  refine wpAny_bind (wpAny_callSpecial?_slot (name := Str.ofString "__getitem__") ht.typeIs PyProof.Rows.slot_tuple_getitem
    (wpAny_call_entry PyProof.Rows.slot_tuple_getitem ht.typeIs entry_tuple_getitem ?_ (args_tuple_getitem _ _)))
  show wpAny _ _ (Builtin.Tuple.tupleItemsOf (.ref t) >>= _) _ _ s
  refine wpAny_bind (tupleItemsOf_ ht ?_)
  refine wpAny_bind (wpAny_typeOf hTs ?_)
  rw [if_pos (by decide)]
  refine wpAny_bind (sliceApplied_rev hs pl pu ps ?_)
  have hno : ¬ ((((items.size : Int) - 1) == 0 && (-1 : Int) == 1 && items.size == items.size) = true) := by
    intro q
    rw [Bool.and_eq_true, Bool.and_eq_true] at q
    exact absurd q.1.2 (by decide)
  show wpAny _ _ (if (((items.size : Int) - 1) == 0 && (-1 : Int) == 1 && items.size == items.size) = true then _ else _) _ _ s
  rw [if_neg hno, pick_rev]
  first
    | exact wpAny_bind (m := Builtin.Tuple.tupleExact _) (wpAny_newObj_type (wpAny_pure ⟨_, rfl, wpAny_pure h⟩) htake)
    | exact wpAny_bind (m := Builtin.Tuple.tupleExact _) (wpAny_newObj_type (wpAny_bind (wpAny_pure (wpAny_pure ⟨_, rfl, wpAny_pure h⟩))) htake)
    | exact wpAny_bind (wpAny_bind (m := Builtin.Tuple.tupleExact _) (wpAny_newObj_type (wpAny_pure (wpAny_pure ⟨_, rfl, wpAny_pure h⟩)) htake))
    | exact wpAny_bind (wpAny_bind (m := Builtin.Tuple.tupleExact _) (wpAny_newObj_type (wpAny_pure ⟨_, rfl, wpAny_pure h⟩) htake))
end
section
variable {X : Cx}
def tRevT (K : PySem.W.Frag) (te : TE) : TE := fun σ H Q => te σ H fun x H1 => ∃ a xs, x = .ref a ∧ SqT K H1 a xs ∧ ∀ p, H1 p = none → Q (.ref p) (upd H1 p (.tup xs.reverse))
theorem pe_revT {e : Expr} {te : TE} {k : Nat} {p1 p2 p3 pos : Pos} (he : PE X e te) : PE X (.Subscript e (.Slice none none (some (.UnaryOp .USub (.Constant (.int 1) k p1) p2)) p3) pos) (tRevT X.K te) := by
  refine ⟨fun pins s σ H Q I h => ?_⟩
  refine Subscript_ (thn (he.run pins s σ H _ I h) fun v s1 ⟨x, H1, I1, r1, q1⟩ => ?_)
  obtain ⟨a, xs, ex, hx, q⟩ := q1
  subst ex
  cases r1
  have hst : PO X (some (.UnaryOp .USub (.Constant (.int 1) k p1) p2)) (tPart (tUn (rU fun i => .int (-i)) (tC (.int 1)))) := po_some (pe_un un_neg pe_int)
  refine wpAny_Slice (thn (po_none.run pins s1 σ H1 (fun o H2 => o = none ∧ H2 = H1) I1 ⟨rfl, rfl⟩) fun vl s2 ⟨l, H2, I2, pl, el, e2⟩ => ?_)
  subst el e2
  refine thn (po_none.run pins s2 σ H2 (fun o H3 => o = none ∧ H3 = H2) I2 ⟨rfl, rfl⟩) fun vu s3 ⟨u, H3, I3, pu, eu, e3⟩ => ?_
  subst eu e3
  refine thn (hst.run pins s3 σ H3 (fun o H4 => o = some (-1) ∧ H4 = H3) I3 ⟨1, rfl, -1, rfl, rfl, rfl⟩) fun vs s4 ⟨o, H4, I4, ps, eo, e4⟩ => ?_
  subst eo e4
  have I5 : Inv X pins σ H4 { s4 with heap := s4.heap.push { cls := .type "slice", data := .fields #[vl, vu, vs] } } := I4.kept (t' := s4.toks) fun b ob q => Heap.get?_push_of_some _ q
  obtain ⟨its, r, ht, hz⟩ := I5.tuple hx
  have hlen := r.length
  show wpAny (model X.prog X.w) X.A (subscriptTail e (.Slice none none (some (.UnaryOp .USub (.Constant (.int 1) k p1) p2)) p3) (.ref a) (.ref s4.heap.objs.size)) (EP X pins σ Q) X.xe { s4 with heap := s4.heap.push { cls := .type "slice", data := .fields #[vl, vu, vs] } }
  refine tail_any (ops := [.ref a, .ref s4.heap.objs.size]) ht.typeIs (PyProof.Rows.slot_tuple_getitem.lookup) ?_ (by with_unfolding_all rfl)
  refine getItem_tuple_rev ht (Heap.IsSliceOf.new _ vl vu vs) pl pu ps ?_ (by rw [List.size_toArray]; omega)
  refine ⟨.ref _, _, I5.laid (t' := s4.toks) (o := .tup xs.reverse) (fun b ob q => Heap.get?_push_of_some _ q) (Nat.le_refl _) ?_, rfl, q _ (I5.hok.fresh (Nat.le_refl _))⟩
  exact ⟨by rw [List.length_reverse]; exact hz, _, r.reverse, IsTup.new _ _⟩
/-- list(t), a new one -/
theorem call_listS : CallR X (.type "list") (fun xs H Q => ∃ p ys, xs = [.ref p] ∧ SqT X.K H p ys ∧ ∀ l, H l = none → l ≠ sysModules → Q (.ref l) (upd H l (.lst ys))) := by
  intro pins s σ H xs us Q I r h
  obtain ⟨p, ys, rfl, hq, q⟩ := h
  obtain ⟨u, rfl, rx⟩ := vals1 r
  cases rx
  have far : s.heap.objs.size ≠ sysModules := (Nat.ne_of_lt I.big).symm
  have fin : ∀ (its : List Value), Vals ys its → ys.length ≤ sizeLine → ∀ (h' : Heap) (c' : Nat), (∀ b o', s.heap.get? b = some o' → h'.get? b = some o') →
      h'.get? s.heap.objs.size = some { cls := .type "list", dict := none, data := .seq its.toArray c', slots := #[] } → EP X pins σ Q (.ref s.heap.objs.size) { s with heap := h' } := fun its r' hz h' c' kp e =>
    ⟨.ref s.heap.objs.size, _, I.laid (t' := s.toks) kp (Nat.le_refl _) (show ObjOk X.prog X.w _ h' _ (.lst ys) from ⟨hz, its, c', r', e⟩), rfl, q _ (I.hok.fresh (Nat.le_refl _)) far⟩
  obtain ⟨its, r', pl, hz⟩ := I.tuple hq
  have hlen := r'.length
  obtain ⟨o, ho, hc, n, hd⟩ := pl
  exact call_list_seq p (.inr rfl) ho hc hd (fun h' c' kp e => fin its r' hz h' c' kp e) (by simp only [List.size_toArray] <;> omega)
end
end RVT

namespace L9
open PySem PySem.Spec PyProof.Rows L2 GR AD RZ WX ZE TX
theorem dp_signs {K : PySem.W.Frag} {H : Hp} : ∀ l : List Nat, DpAll K H (l.map fun c => V.str ⟨#[c]⟩) (l.map fun c => PyData.str ⟨#[c]⟩)
  | [] => .nil
  | c :: l => .cons (.str _) (dp_signs l)
theorem shaped_signs {l : List Nat} (h : ∀ c, c ∈ l → c < 1114112) : SeqAt.shaped (.list (l.map fun c => PyData.str ⟨#[c]⟩)) = true := by
  have h1 : PyData.canLayAll0 (l.map fun c => PyData.str ⟨#[c]⟩) = true ∧ PyData.depthAll (l.map fun c => PyData.str ⟨#[c]⟩) ≤ 1 := by
    induction l with
    | nil => exact ⟨by simp only [List.map_nil, PyData.canLayAll0], by simp only [List.map_nil, PyData.depthAll]; omega⟩
    | cons c l ih =>
      obtain ⟨a, b⟩ := ih fun y hy => h y (List.mem_cons_of_mem _ hy)
      have hc : PyData.strOk ⟨#[c]⟩ = true := so_iff.mpr fun y hy => by
        have : y = c := by simpa using hy
        rw [this]
        exact h c List.mem_cons_self
      refine ⟨by simp only [List.map_cons, PyData.canLayAll0, PyData.canLay0, hc, a, Bool.and_self], ?_⟩
      simp only [List.map_cons, PyData.depthAll, PyData.depth]
      omega
  unfold SeqAt.shaped
  rw [Bool.and_eq_true]
  refine ⟨by simp only [PyData.canLay0, h1.1], decide_eq_true ?_⟩
  simp only [PyData.depth]
  omega
theorem eqv_signs : ∀ {l : List Nat}, PyData.eqv (.list ((l.filter fun c => !lowC c).map fun c => .str ⟨#[c]⟩)) (.list []) = l.all lowC
  | [] => rfl
  | c :: l => by
    cases h : lowC c with
    | true =>
      have ih := eqv_signs (l := l)
      rw [List.filter_cons, h, List.all_cons, h, Bool.true_and]
      simp only [Bool.not_true, Bool.false_eq_true, if_false]
      exact ih
    | false =>
      rw [List.filter_cons, h, List.all_cons, h, Bool.false_and]
      simp only [Bool.not_false, if_true, List.map_cons, PyData.eqv, PyData.eqvAll]
section
variable {P : Program} {w : World} {K : PySem.W.Frag} {mg : Str → Option Value} {base : Heap}
abbrev s_law_is_value : Stmt := topS 52
theorem sc_law_is_value : FnScope ["_law_thing"] ["_law_thing"] (defScope s_law_is_value) := ⟨rfl, rfl, rfl, by decide +kernel, rfl, by decide +kernel, by decide +kernel⟩
theorem ok_law_is_value {f : Addr} {fd : FuncData} {k : Nat} (F : Fun K "_law_is_value" "_law_is_value" s_law_is_value f fd) (misi : mg "isinstance" = none) (mint : mg "int" = none) (mbool : mg "bool" = none) : FnOk P w K mg base CX0 (k + 1) f fd ["_law_thing"] (sp_is K isV) := by
  have nd := sc_law_is_value.nd
  refine F.ok sc_law_is_value (fun vs H Q E h => ?_) (fun cdv A outer s H vs Q E hr h => ?_)
  · obtain ⟨v, d, ok, rfl, _⟩ := h
    rfl
  obtain ⟨v, d, ok, rfl, hd, q⟩ := h
  refine ⟨_, (pss_one (ps_ret (pe_and (pe_callB call_isi (by rfl) misi boot_isinstance (pa_cons (pv 0) (pa_cons (pe_bltn (v := .ty "int") (by rfl) mint boot_int rfl) pa_nil))) (pe_and (pe_not (pe_callB call_isi (by rfl) misi boot_isinstance (pa_cons (pv 0) (pa_cons (pe_bltn (v := .ty "bool") (by rfl) mbool boot_bool rfl) pa_nil)))) (pe_one (pe_chain op_le op_le (pe_op op_sub pe_int (pe_op op_pow pe_int pe_int)) (pv 0) (pe_op op_pow pe_int pe_int))))))), ?_⟩
  have LIM1 : (10 : Int) ^ (18 : Int).toNat = LIM := by decide
  refine ⟨v, rfl, v, .ty "int", _, _, _, rfl, .ty "int", hd.ty, kit_i K d, _, rfl, ?_⟩
  cases hd with
  | int i =>
    replace q : Q (.bl (decide (-LIM ≤ i) && decide (i ≤ LIM))) H := q
    refine iteT ⟨.int i, rfl, .int i, .ty "bool", _, _, _, rfl, .ty "bool", .base (.int i), kit_b K (.int i), _, rfl, _, rfl, iteT ?_⟩
    refine ⟨_, _, rfl, rfl, ⟨by decide, by decide⟩, _, _, rfl, rfl, .int i, rfl, _, _, rfl, rfl, _, rfl, ?_⟩
    rw [LIM1, show (0 : Int) - LIM = -LIM by omega]
    cases c : decide (-LIM ≤ i) with
    | true =>
      refine iteT ⟨_, _, rfl, rfl, ⟨by decide, by decide⟩, _, _, rfl, rfl, ?_⟩
      rw [LIM1]
      rw [c, Bool.true_and] at q
      exact q
    | false =>
      rw [c, Bool.false_and] at q
      exact iteF q
  | bl b => exact iteT ⟨.bl b, rfl, .bl b, .ty "bool", _, _, _, rfl, .ty "bool", .base (.bl b), kit_b K (.bool b), _, rfl, _, rfl, iteF q⟩
  | _ => exact iteF q
abbrev s_law_is_name : Stmt := topS 51
abbrev N_lin : List Str := ["_law_thing", "_law_words", "_law_sign"]
theorem sc_law_is_name : FnScope N_lin ["_law_thing"] (defScope s_law_is_name) := ⟨rfl, rfl, rfl, by decide +kernel, rfl, by decide +kernel, by decide +kernel⟩
theorem ok_law_is_name {f : Addr} {fd : FuncData} {k : Nat} (F : Fun K "_law_is_name" "_law_is_name" s_law_is_name f fd) (misi : mg "isinstance" = none) (mstr : mg "str" = none) (mlen : mg "len" = none) : FnOk P w K mg base CX0 (k + 1) f fd ["_law_thing"] (sp_isS K isN) := by
  have nd := sc_law_is_name.nd
  refine F.ok sc_law_is_name (fun vs H Q E h => ?_) (fun cdv A outer s H vs Q E hr h => ?_)
  · obtain ⟨v, d, ok, rfl, _⟩ := h
    rfl
  obtain ⟨v, d, ok, rfl, hd, hsh, q⟩ := h
  refine ⟨_, (pss_cons (ps_set (i := 1) nd rfl (.inl rfl) (pe_lst (pa_cons pe_str (pa_cons pe_str (pa_cons pe_str (pa_cons pe_str (pa_cons pe_str (pa_cons pe_str (pa_cons pe_str (pa_cons pe_str (pa_cons pe_str (pa_cons pe_str (pa_cons pe_str (pa_cons pe_str pa_nil))))))))))))))
      (pss_cons (ps_if (PW.pt (pw_or (pt_not (pt_val (pe_callB call_isi (by rfl) misi boot_isinstance (pa_cons (pv 0) (pa_cons (pe_bltn (v := .ty "str") (by rfl) mstr boot_str rfl) pa_nil)))))
        (pw_or (pt_not (pt_chain op_le op_le pe_int (pe_callB call_len_str (by rfl) mlen PySem.boot_len (pa_cons (pv 0) pa_nil)) pe_int)) (pw_or1 (pt_cmpR op_in_seq (pv 0) (pv 1) (by rfl))))))
      (pss_one (ps_ret pe_bl))
      pss_nil)
      (pss_one (ps_ret (pe_cmpR (op_eqD hr.units) (pe_lc (own := [("_law_sign", 2)]) (tt := tTest (tOp (fun x y H Q => ∃ (c : Nat) (z : Str), x = .str ⟨#[c]⟩ ∧ y = .str z ∧ Q (.bl (!decide (c ∈ z.cps.toList))) H) (tVar 2) (tC (.str L26)))) (te := tVar 2) rfl nd (pi_str (pv 0)) (blkOk_by (N := N_lin) (sc := defScope s_law_is_name) (by decide +kernel))
        (fun _ _ _ _ _ => (pg_name (i := 2) nd rfl (Or.inl rfl))) (fun _ _ _ _ _ => pts_one (pt_cmpR op_notIn_sign (pv 2) pe_str (by rfl))) (fun _ _ _ _ _ => (pv 2))) (pe_lst pa_nil) (nomark _)))))), ?_⟩
  refine ⟨h1000 (show 12 ≤ 1000 by decide), fun B nB => ?_⟩
  rw [show ([.str "key", .str "if", .str "at", .str "count", .str "sum", .str "most", .str "first", .str "let", .str "need", .str "put", .str "each", .str "tell"] : List V) = BARW.map V.str from rfl]
  have sB := same_upd (o := .lst (BARW.map V.str)) nB
  have hB : upd H B (.lst (BARW.map V.str)) B = some (.lst (BARW.map V.str)) := upd_same
  revert sB hB
  generalize upd H B (.lst (BARW.map V.str)) = H1
  intro sB hB
  have q0 := q H1 sB
  refine ⟨v, rfl, v, .ty "str", _, _, _, rfl, .ty "str", (hd.keep (KeepO.of sB)).ty, kit_s K d, _, rfl, ?_⟩
  cases hd with
  | str z =>
    obtain ⟨hz, hzo⟩ := hsh z rfl
    have q1 : ∀ H', Same H H' → Q (.bl ((decide (1 ≤ z.length) && decide (z.length ≤ 8)) && (!decide (z ∈ BARW) && z.cps.toList.all lowC))) H' := q
    have e1 : decide ((1 : Int) ≤ (z.length : Int)) = decide (1 ≤ z.length) := decide_eq_decide.mpr (by omega)
    have e2 : decide ((z.length : Int) ≤ (8 : Int)) = decide (z.length ≤ 8) := decide_eq_decide.mpr (by omega)
    refine iteF ⟨.str z, rfl, z, rfl, h1000 hz, 1, (z.length : Int), rfl, rfl, _, rfl, ?_⟩
    rw [e1]
    cases c1 : decide (1 ≤ z.length) with
    | false =>
      rw [c1, Bool.false_and, Bool.false_and] at q1
      exact iteF ⟨_, rfl, iteT (iteT (q1 H1 sB))⟩
    | true =>
    rw [c1, Bool.true_and] at q1
    refine iteT ⟨(z.length : Int), 8, rfl, rfl, _, rfl, ?_⟩
    rw [e2]
    cases c2 : decide (z.length ≤ 8) with
    | false =>
      rw [c2, Bool.false_and] at q1
      exact iteT (iteT (q1 H1 sB))
    | true =>
    rw [c2, Bool.true_and] at q1
    refine iteF ⟨.str z, rfl, .ref B, rfl, B, BARW.map V.str, rfl, .inl (.inl (.inl hB)), rfl, flat_strsW _, _, rfl, ?_⟩
    show if inV (.str z) (BARW.map V.str) = true then _ else _
    rw [in_strs]
    cases c3 : decide (z ∈ BARW) with
    | true =>
      rw [c3] at q1
      exact iteT (q1 H1 sB)
    | false =>
    rw [c3, Bool.not_false, Bool.true_and] at q1
    have hlen : z.cps.size ≤ 1000 := hz
    refine iteF ⟨.str z, rfl, z, rfl, fun D nD => ?_⟩
    refine lc_it walk_str (fun i H' => H' D = some (.lst (((z.cps.toList.take i).filter fun c => !lowC c).map fun c => V.str ⟨#[c]⟩)) ∧ ∀ b o, b ≠ D → H1 b = some o → H' b = some o) ?_ (fun _ _ _ _ => trivial) ?_ ?_
    · exact ⟨upd_same, fun b o nb e => by rw [upd_ne nb]; exact e⟩
    · rintro i x H2 H' hi ⟨hD, kp⟩ ⟨rfl, c, hc, rfl⟩
      have hc' : z.cps.toList[i]? = some c := by rw [Array.getElem?_toList]; exact hc
      refine ⟨rfl, .str ⟨#[c]⟩, rfl, c, L26, rfl, rfl, _, rfl, ?_⟩
      rw [mem26, take_at hc', List.filter_append, List.map_append]
      cases cl : lowC c with
      | true =>
        refine iteF ⟨?_, kp⟩
        rw [List.filter_cons, cl]
        simp only [Bool.not_true, Bool.false_eq_true, if_false, List.filter_nil, List.map_nil, List.append_nil]
        exact hD
      | false =>
        refine iteT ⟨.str ⟨#[c]⟩, rfl, _, hD, small1000 ?_, ?_, fun b o nb e => by rw [upd_ne nb]; exact kp b o nb e⟩
        · rw [List.length_map]
          refine Nat.le_trans (List.length_filter_le _ _) ?_
          rw [List.length_take, Array.length_toList]
          omega
        · rw [List.filter_cons, cl]
          simp only [Bool.not_false, if_true, List.filter_nil, List.map_cons, List.map_nil]
          exact upd_same
    · rintro H2 ⟨hD, kp⟩
      have sD : Same H1 H2 := fun b o e => kp b o (ne_of_none e nD) e
      rw [← Array.length_toList, List.take_length] at hD
      refine ⟨Nat.zero_le _, fun l nl => ?_⟩
      have sl := same_upd (o := .lst []) nl
      have hD2 := sl _ _ hD
      have hq := q1 _ (sB.trans (sD.trans sl))
      refine ⟨.list ((z.cps.toList.filter fun c => !lowC c).map fun c => .str ⟨#[c]⟩), .list [], .lst (.inl (.inl hD2)) (dp_signs _), .lst (.inl (.inl upd_same)) .nil, shaped_signs fun c hc => so_iff.mp hzo c ((List.mem_filter.mp hc).1), by decide +kernel, ?_⟩
      rw [eqv_signs]
      exact hq
  | _ => exact iteT (iteT q0)
end
end L9

namespace L9
open PySem PySem.Spec PyProof.Rows L2 GR AD RZ WX ZE TX
/-- an expression whose aggregates are plain, without a let: what _law_looked takes -/
def okX (d : PyData) : Bool := isX d && allX plainP d
theorem all_and {α : Type} (p q : α → Bool) : ∀ l : List α, (l.all p && l.all q) = l.all fun x => p x && q x
  | [] => rfl
  | x :: l => by
    rw [List.all_cons, List.all_cons, List.all_cons, ← all_and p q l]
    cases p x <;> cases q x <;> cases l.all p <;> cases l.all q <;> rfl
theorem okX_step (d : PyData) : okX d = (hasForm d && (plainP d && (kidsE d).all okX)) := by
  have e : (kidsE d).all okX = ((kidsE d).all isX && (kidsE d).all (allX plainP)) := (all_and _ _ _).symm
  unfold okX at e ⊢
  rw [e, isX_step, allX_step]
  cases hasForm d <;> cases plainP d <;> cases (kidsE d).all isX <;> cases (kidsE d).all (allX plainP) <;> rfl
theorem okX_nf {d : PyData} (h : hasForm d = false) : okX d = false := by
  rw [okX_step, h]
  rfl
theorem okX_some {w : Str} {fs : List Str} {r : List PyData} (lk : look w = some fs) : okX (.tuple (.str w :: r)) = (fitsAll fs r && (plainP (.tuple (.str w :: r)) && (pick W2 fs r).all okX)) := by
  rw [okX_step]
  have e1 : hasForm (.tuple (.str w :: r)) = fitsAll fs r := by
    show (match look w with | some fs => fitsAll fs r | none => false) = _
    rw [lk]
  have e2 : kidsE (.tuple (.str w :: r)) = pick W2 fs r := by
    show (match look w with | some fs => pick W2 fs r | none => []) = _
    rw [lk]
  rw [e1, e2]
theorem okX_none {w : Str} {r : List PyData} (lk : look w = none) : okX (.tuple (.str w :: r)) = false := by
  refine okX_nf ?_
  show (match look w with | some fs => fitsAll fs r | none => false) = _
  rw [lk]
/-- no aggregate within -/
def smX (d : PyData) : Bool := allX simpleP d
theorem smX_step (d : PyData) : smX d = (simpleP d && (kidsE d).all smX) := allX_step simpleP d
theorem kE_some {w : Str} {fs : List Str} {r : List PyData} (lk : look w = some fs) : kidsE (.tuple (.str w :: r)) = pick W2 fs r := by
  show (match look w with | some fs => pick W2 fs r | none => []) = _
  rw [lk]
theorem kF_some {w : Str} {fs : List Str} {r : List PyData} (lk : look w = some fs) : kidsF (.tuple (.str w :: r)) = pick W1 fs r := by
  show (match look w with | some fs => pick W1 fs r | none => []) = _
  rw [lk]
/-- what the law asks of an expression, from its parts: each with a sign whether its key is bound -/
structure From (d : PyData) (c : Bool) (ag : Bool) (ps : List (PyData × Bool)) : Prop where
  ok : okX d = (c && ps.all fun p => okX p.1)
  key : c = true → keyX d = ps.any fun p => keyX p.1 && !p.2
  sm : c = true → smX d = (!ag && ps.all fun p => smX p.1)
  var : c = true → ∀ q, allX (varQ q) d = ps.all fun p => allX (varQ q) p.1
theorem isKey_no {w : Str} {r : List PyData} (h : w ≠ "key") : isKey (.tuple (.str w :: r)) = false := decide_eq_false h
theorem varQ_no {w : Str} {r : List PyData} (q : Str → Bool) (h : w ≠ "var") : varQ q (.tuple (.str w :: r)) = true := by
  unfold varQ
  rw [varName_no h]
theorem simpleP_no {w : Str} {r : List PyData} (h : w ∉ aggW) : simpleP (.tuple (.str w :: r)) = true := by
  show (!decide (w ∈ aggW)) = true
  rw [decide_eq_false h]
  rfl
/-- + - * < = -/
theorem from_op {w : Str} (h : w ∈ (["+", "-", "*", "<", "="] : List Str)) (x y : PyData) : From (.tuple [.str w, x, y]) true false [(x, false), (y, false)] := by
  obtain ⟨lk, na, nl, nk, nv⟩ : look w = some (["free", "free"] : List Str) ∧ w ∉ aggW ∧ w ≠ "let" ∧ w ≠ "key" ∧ w ≠ "var" := by
    simp only [List.mem_cons, List.not_mem_nil, or_false] at h
    rcases h with rfl | rfl | rfl | rfl | rfl <;> exact ⟨by decide, by decide, by decide, by decide, by decide⟩
  have e1 : pick W2 (["free", "free"] : List Str) [x, y] = [x, y] := rfl
  have e2 : pick W1 (["free", "free"] : List Str) [x, y] = [x, y] := rfl
  have e3 : fitsAll (["free", "free"] : List Str) [x, y] = true := rfl
  have e4 : plainP (.tuple [.str w, x, y]) = true := by rw [plain_no na, decide_eq_false nl]; rfl
  refine ⟨?_, fun _ => ?_, fun _ => ?_, fun _ q => ?_⟩
  · rw [okX_some lk, e1, e3, e4]
    rfl
  · rw [keyX_step, isKey_no nk, kF_some lk, e2]
    simp
  · rw [smX_step, simpleP_no na, kE_some lk, e1]
    rfl
  · rw [allX_step, varQ_no q nv, kE_some lk, e1]
    rfl
theorem from_at (x y : PyData) : From (.tuple [.str "at", x, y]) true false [(x, false), (y, true)] := by
  have lk : look "at" = some (["free", "bound"] : List Str) := by decide
  have e1 : pick W2 (["free", "bound"] : List Str) [x, y] = [x, y] := rfl
  have e2 : pick W1 (["free", "bound"] : List Str) [x, y] = [x] := rfl
  have e3 : fitsAll (["free", "bound"] : List Str) [x, y] = true := rfl
  have e4 : plainP (.tuple [.str "at", x, y]) = true := by rw [plain_no (by decide)]; rfl
  refine ⟨?_, fun _ => ?_, fun _ => ?_, fun _ q => ?_⟩
  · rw [okX_some lk, e1, e3, e4]
    rfl
  · rw [keyX_step, isKey_no (by decide), kF_some lk, e2]
    simp
  · rw [smX_step, simpleP_no (by decide), kE_some lk, e1]
    rfl
  · rw [allX_step, varQ_no q (by decide), kE_some lk, e1]
    rfl
theorem from_if (x y z : PyData) : From (.tuple [.str "if", x, y, z]) true false [(x, false), (y, false), (z, false)] := by
  have lk : look "if" = some (["free", "free", "free"] : List Str) := by decide
  have e1 : pick W2 (["free", "free", "free"] : List Str) [x, y, z] = [x, y, z] := rfl
  have e2 : pick W1 (["free", "free", "free"] : List Str) [x, y, z] = [x, y, z] := rfl
  have e3 : fitsAll (["free", "free", "free"] : List Str) [x, y, z] = true := rfl
  have e4 : plainP (.tuple [.str "if", x, y, z]) = true := by rw [plain_no (by decide)]; rfl
  refine ⟨?_, fun _ => ?_, fun _ => ?_, fun _ q => ?_⟩
  · rw [okX_some lk, e1, e3, e4]
    rfl
  · rw [keyX_step, isKey_no (by decide), kF_some lk, e2]
    simp
  · rw [smX_step, simpleP_no (by decide), kE_some lk, e1]
    rfl
  · rw [allX_step, varQ_no q (by decide), kE_some lk, e1]
    rfl
theorem from_cell (t x z : PyData) : From (.tuple [.str "cell", t, x, z]) (isN t && isN z) false [(x, false)] := by
  have lk : look "cell" = some (["name", "free", "name"] : List Str) := by decide
  have e1 : pick W2 (["name", "free", "name"] : List Str) [t, x, z] = [x] := rfl
  have e2 : pick W1 (["name", "free", "name"] : List Str) [t, x, z] = [x] := rfl
  have e3 : fitsAll (["name", "free", "name"] : List Str) [t, x, z] = (isN t && isN z) := by
    show (isN t && (true && (isN z && true))) = _
    rw [Bool.true_and, Bool.and_true]
  have e4 : plainP (.tuple [.str "cell", t, x, z]) = true := by rw [plain_no (by decide)]; rfl
  refine ⟨?_, fun _ => ?_, fun _ => ?_, fun _ q => ?_⟩
  · rw [okX_some lk, e1, e3, e4, Bool.true_and]
    rfl
  · rw [keyX_step, isKey_no (by decide), kF_some lk, e2]
    simp
  · rw [smX_step, simpleP_no (by decide), kE_some lk, e1]
    rfl
  · rw [allX_step, varQ_no q (by decide), kE_some lk, e1]
    rfl
end L9

namespace L9
open PySem PySem.Spec PyProof.Rows L2 GR AD RZ WX ZE TX
theorem eqv_strD {d : PyData} {z : Str} (h : PyData.eqv d (.str z) = true) : d = .str z := by
  cases d with
  | str y => simp [PyData.eqv] at h; rw [h]
  | _ => simp [PyData.eqv] at h
theorem eqv_nilT {d : PyData} (h : PyData.eqv d (.tuple []) = true) : d = .tuple [] := by
  cases d with
  | tuple xs =>
    cases xs with
    | nil => rfl
    | cons x xs => simp [PyData.eqv, PyData.eqvAll] at h
  | _ => simp [PyData.eqv] at h
theorem eqv_consT {d e : PyData} {es : List PyData} (h : PyData.eqv d (.tuple (e :: es)) = true) : ∃ x xs, d = .tuple (x :: xs) ∧ PyData.eqv x e = true ∧ PyData.eqv (.tuple xs) (.tuple es) = true := by
  cases d with
  | tuple xs =>
    cases xs with
    | nil => simp [PyData.eqv, PyData.eqvAll] at h
    | cons x xs =>
      simp only [PyData.eqv, PyData.eqvAll, Bool.and_eq_true] at h
      exact ⟨x, xs, rfl, h.1, by simp only [PyData.eqv]; exact h.2⟩
  | _ => simp [PyData.eqv] at h
theorem eqvD_row {d : PyData} {z : Str} (h : PyData.eqv d (rowX z) = true) : d = rowX z := by
  obtain ⟨a, r1, rfl, h1, g1⟩ := eqv_consT h
  obtain ⟨b, r2, e2, h2, g2⟩ := eqv_consT g1
  cases e2
  obtain ⟨c, r3, e3, h3, g3⟩ := eqv_consT g2
  cases e3
  obtain ⟨f, r4, e4, h4, g4⟩ := eqv_consT g3
  cases e4
  cases eqv_nilT g4
  obtain ⟨k, r5, rfl, h5, g5⟩ := eqv_consT h3
  cases eqv_nilT g5
  rw [eqv_strD h1, eqv_strD h2, eqv_strD h4, eqv_strD h5]
  rfl
theorem ok_key : okX (.tuple [.str "key"]) = true := by decide +kernel
theorem sm_key : smX (.tuple [.str "key"]) = true := by decide +kernel
theorem var_key (q : Str → Bool) : allX (varQ q) (.tuple [.str "key"]) = true := by
  rw [allX_step, varQ_no q (by decide)]
  rfl
theorem row_from {z : Str} (h : isN (.str z) = true) : okX (rowX z) = true ∧ smX (rowX z) = true ∧ ∀ q, allX (varQ q) (rowX z) = true := by
  have hi : isN (.str "in") = true := by decide +kernel
  obtain ⟨h1, _, h3, h4⟩ := from_cell (.str z) (.tuple [.str "key"]) (.str "in")
  have hc : (isN (.str z) && isN (.str "in")) = true := by rw [h, hi]; rfl
  refine ⟨?_, ?_, fun q => ?_⟩
  · refine h1.trans ?_
    rw [hc, List.all_cons, List.all_nil, ok_key]
    rfl
  · refine (h3 hc).trans ?_
    rw [List.all_cons, List.all_nil, sm_key]
    rfl
  · refine (h4 hc q).trans ?_
    rw [List.all_cons, List.all_nil, var_key]
    rfl
end L9

namespace L9
open PySem PySem.Spec PyProof.Rows L2 GR AD RZ WX ZE TX
/-- the flags of an aggregate's further parts: whether its key is bound -/
def aggF : List (Str × List Bool) := [("count", [true]), ("sum", [true, true]), ("most", [true, true, false]), ("first", [true, false])]
def kindB (b : Bool) : Str := if b then "bound" else "free"
theorem agF_look {o : Str} {fl : List Bool} (h : (o, fl) ∈ aggF) : look o = some (("name" : Str) :: ("extra" : Str) :: ("bound" : Str) :: fl.map kindB) ∧ o ∈ aggW ∧ o ≠ "key" ∧ o ≠ "var" := by
  simp only [aggF, List.mem_cons, List.not_mem_nil, or_false, Prod.mk.injEq] at h
  rcases h with ⟨rfl, rfl⟩ | ⟨rfl, rfl⟩ | ⟨rfl, rfl⟩ | ⟨rfl, rfl⟩ <;> exact ⟨by decide, by decide, by decide, by decide⟩
theorem pick2_flags : ∀ (fl : List Bool) (r : List PyData), fl.length = r.length → pick W2 (fl.map kindB) r = r ∧ fitsAll (fl.map kindB) r = true ∧ pick W1 (fl.map kindB) r = ((r.zip fl).filter fun p => !p.2).map (·.1)
  | [], [], _ => ⟨rfl, rfl, rfl⟩
  | [], _ :: _, h => by cases h
  | _ :: _, [], h => by cases h
  | b :: fl, x :: r, h => by
    obtain ⟨h1, h2, h3⟩ := pick2_flags fl r (by simpa using h)
    cases b with
    | true =>
      refine ⟨?_, ?_, ?_⟩
      · show [x] ++ pick W2 (fl.map kindB) r = _
        rw [h1]
        rfl
      · show (true && fitsAll (fl.map kindB) r) = true
        rw [h2]
        rfl
      · show [] ++ pick W1 (fl.map kindB) r = _
        rw [h3]
        rfl
    | false =>
      refine ⟨?_, ?_, ?_⟩
      · show [x] ++ pick W2 (fl.map kindB) r = _
        rw [h1]
        rfl
      · show (true && fitsAll (fl.map kindB) r) = true
        rw [h2]
        rfl
      · show [x] ++ pick W1 (fl.map kindB) r = _
        rw [h3]
        rfl
theorem all_zip {q : PyData → Bool} : ∀ (r : List PyData) (fl : List Bool), fl.length = r.length → ((r.zip fl).all fun p => q p.1) = r.all q
  | [], [], _ => rfl
  | [], _ :: _, h => by cases h
  | _ :: _, [], h => by cases h
  | x :: r, b :: fl, h => by
    rw [List.zip_cons_cons, List.all_cons, List.all_cons, all_zip r fl (by simpa using h)]
theorem any_zip : ∀ (r : List (PyData × Bool)), (((r.filter fun p => !p.2).map (·.1)).any keyX) = r.any fun p => keyX p.1 && !p.2
  | [] => rfl
  | (x, b) :: r => by
    cases b with
    | true =>
      rw [List.any_cons, ← any_zip r]
      simp
    | false =>
      rw [List.any_cons, ← any_zip r]
      simp
def rowB : PyData → PyData → Bool
  | .str z, x => PyData.eqv x (rowX z)
  | _, _ => false
/-- count, sum, most, first -/
theorem from_agg {o : Str} {fl : List Bool} (h : (o, fl) ∈ aggF) (t x3 x4 : PyData) (r : List PyData) (hr : fl.length = r.length) :
    From (.tuple (.str o :: t :: x3 :: x4 :: r)) (isN t && (PyData.eqv x3 (.tuple []) && rowB t x4)) true (r.zip fl) := by
  obtain ⟨lk, ha, nk, nv⟩ := agF_look h
  obtain ⟨p2, pf, p1⟩ := pick2_flags fl r hr
  have e1 : pick W2 (("name" : Str) :: ("extra" : Str) :: ("bound" : Str) :: fl.map kindB) (t :: x3 :: x4 :: r) = items x3 ++ (x4 :: r) := by
    show [] ++ (items x3 ++ ([x4] ++ pick W2 (fl.map kindB) r)) = _
    rw [p2]
    rfl
  have e2 : pick W1 (("name" : Str) :: ("extra" : Str) :: ("bound" : Str) :: fl.map kindB) (t :: x3 :: x4 :: r) = items x3 ++ ((r.zip fl).filter fun p => !p.2).map (·.1) := by
    show [] ++ (items x3 ++ ([] ++ pick W1 (fl.map kindB) r)) = _
    rw [p1]
    rfl
  have e3 : fitsAll (("name" : Str) :: ("extra" : Str) :: ("bound" : Str) :: fl.map kindB) (t :: x3 :: x4 :: r) = (isN t && isTu x3) := by
    show (isN t && (isTu x3 && (true && fitsAll (fl.map kindB) r))) = _
    rw [pf]
    simp
  have key : ∀ z, t = .str z → isN t = true → x3 = .tuple [] → x4 = rowX z → okX (.tuple (.str o :: t :: x3 :: x4 :: r)) = r.all okX ∧ keyX (.tuple (.str o :: t :: x3 :: x4 :: r)) = ((r.zip fl).any fun p => keyX p.1 && !p.2) ∧ smX (.tuple (.str o :: t :: x3 :: x4 :: r)) = false ∧ ∀ q, allX (varQ q) (.tuple (.str o :: t :: x3 :: x4 :: r)) = r.all (allX (varQ q)) := by
    rintro z rfl hn rfl rfl
    obtain ⟨g1, g2, g3⟩ := row_from hn
    have hp : plainP (.tuple (.str o :: .str z :: .tuple [] :: rowX z :: r)) = true := by
      rw [plain_agg ha]
      have hs : PyData.eqv (rowX z) (rowX z) = true := by simp [rowX, PyData.eqv, PyData.eqvAll]
      rw [hs]
      rfl
    refine ⟨?_, ?_, ?_, fun q => ?_⟩
    · rw [okX_some lk, e1, e3, hp, hn]
      show (true && (true && ([] ++ rowX z :: r).all okX)) = _
      rw [List.nil_append, List.all_cons, g1]
      rfl
    · rw [keyX_step, isKey_no nk, kF_some lk, e2]
      show (false || ([] ++ ((r.zip fl).filter fun p : PyData × Bool => !p.2).map (fun p : PyData × Bool => p.1)).any keyX) = _
      rw [List.nil_append, any_zip]
      rfl
    · rw [smX_step]
      show ((!decide (o ∈ aggW)) && _) = false
      rw [decide_eq_true ha]
      rfl
    · rw [allX_step, varQ_no q nv, kE_some lk, e1]
      show (true && ([] ++ rowX z :: r).all (allX (varQ q))) = _
      rw [List.nil_append, List.all_cons, g3 q]
      rfl
  -- the other side
  have no : (isN t && (PyData.eqv x3 (.tuple []) && rowB t x4)) = false → okX (.tuple (.str o :: t :: x3 :: x4 :: r)) = false := by
    intro hc
    rw [okX_some lk, e3]
    cases hn : isN t with
    | false => rfl
    | true =>
    rw [hn, Bool.true_and] at hc
    cases hp : plainP (.tuple (.str o :: t :: x3 :: x4 :: r)) with
    | false => simp
    | true =>
    exfalso
    have hp0 : (if o ∈ aggW then (match (t :: x3 :: x4 :: r) with | .str t :: .tuple xs :: x :: _ => xs.isEmpty && PyData.eqv x (rowX t) | _ => false) else !decide (o = "let")) = true := hp
    rw [if_pos ha] at hp0
    cases t with
    | str z =>
      cases x3 with
      | tuple xs =>
        cases xs with
        | nil =>
          have hp' : ((true : Bool) && PyData.eqv x4 (rowX z)) = true := hp0
          have hc' : (PyData.eqv (.tuple []) (.tuple []) && PyData.eqv x4 (rowX z)) = false := hc
          rw [Bool.true_and] at hp'
          rw [hp'] at hc'
          simp [PyData.eqv, PyData.eqvAll] at hc'
        | cons x xs =>
          have hp' : ((false : Bool) && PyData.eqv x4 (rowX z)) = true := hp0
          cases hp'
      | _ => cases hp0
    | _ => cases hp0
  cases hc : (isN t && (PyData.eqv x3 (.tuple []) && rowB t x4)) with
  | false => exact ⟨by rw [no hc]; rfl, fun e => (nomatch e), fun e => (nomatch e), fun e => (nomatch e)⟩
  | true =>
    rw [Bool.and_eq_true, Bool.and_eq_true] at hc
    obtain ⟨c1, c2, c3⟩ := hc
    cases t with
    | str z =>
      obtain ⟨k1, k2, k3, k4⟩ := key z rfl c1 (eqv_nilT c2) (eqvD_row c3)
      exact ⟨by rw [k1, Bool.true_and, all_zip r fl hr], fun _ => k2, fun _ => k3, fun _ q => by rw [k4 q, all_zip r fl hr]⟩
    | _ => cases c3
end L9

namespace L9
open PySem PySem.Spec PyProof.Rows L2 GR AD RZ WX ZE TX RVT
/-! ### bounds of what may be asked about -/
def okC (c : Nat) : Bool := decide (32 ≤ c) && decide (c < 127) && (decide (c ≠ 39) && decide (c ≠ 92))
mutual
/-- its texts are among S, short and of plain signs; its numbers are small -/
def atB (S : List Str) (q m : Nat) : PyData → Bool
  | .tuple ds => atBs S q m ds
  | .list ds => atBs S q m ds
  | .dict kvs => atBk S q m kvs
  | .str z => decide (z ∈ S) && (decide (z.length ≤ q) && z.cps.toList.all okC)
  | .int i => decide (i.natAbs ≤ m)
  | _ => true
def atBs (S : List Str) (q m : Nat) : List PyData → Bool
  | [] => true
  | d :: ds => atB S q m d && atBs S q m ds
def atBk (S : List Str) (q m : Nat) : List (PyData × PyData) → Bool
  | [] => true
  | (k, v) :: r => (atB S q m k && atB S q m v) && atBk S q m r
end
theorem okC_iff {c : Nat} : okC c = true ↔ (32 ≤ c ∧ c < 127) ∧ (c ≠ 39 ∧ c ≠ 92) := by
  unfold okC
  simp only [Bool.and_eq_true, decide_eq_true_eq]
section
variable {S S' : List Str} {q m q' m' : Nat}
mutual
theorem at_mono (hS : ∀ z, z ∈ S → z ∈ S') (hq : q ≤ q') (hm : m ≤ m') : ∀ d : PyData, atB S q m d = true → atB S' q' m' d = true
  | .tuple ds, h => by rw [atB] at h ⊢; exact ats_mono hS hq hm ds h
  | .list ds, h => by rw [atB] at h ⊢; exact ats_mono hS hq hm ds h
  | .dict kvs, h => by rw [atB] at h ⊢; exact atk_mono hS hq hm kvs h
  | .str z, h => by
    rw [atB, Bool.and_eq_true, Bool.and_eq_true, decide_eq_true_eq, decide_eq_true_eq] at h ⊢
    exact ⟨hS _ h.1, Nat.le_trans h.2.1 hq, h.2.2⟩
  | .int i, h => by
    rw [atB, decide_eq_true_eq] at h ⊢
    omega
  | .none, _ => by rw [atB] <;> simp
  | .bool _, _ => by rw [atB] <;> simp
theorem ats_mono (hS : ∀ z, z ∈ S → z ∈ S') (hq : q ≤ q') (hm : m ≤ m') : ∀ ds : List PyData, atBs S q m ds = true → atBs S' q' m' ds = true
  | [], _ => by rw [atBs]
  | d :: ds, h => by
    rw [atBs, Bool.and_eq_true] at h ⊢
    exact ⟨at_mono hS hq hm d h.1, ats_mono hS hq hm ds h.2⟩
theorem atk_mono (hS : ∀ z, z ∈ S → z ∈ S') (hq : q ≤ q') (hm : m ≤ m') : ∀ ds : List (PyData × PyData), atBk S q m ds = true → atBk S' q' m' ds = true
  | [], _ => by rw [atBk]
  | (k, v) :: ds, h => by
    rw [atBk, Bool.and_eq_true, Bool.and_eq_true] at h ⊢
    exact ⟨⟨at_mono hS hq hm k h.1.1, at_mono hS hq hm v h.1.2⟩, atk_mono hS hq hm ds h.2⟩
end
theorem ok_so {z : Str} (h : z.cps.toList.all okC = true) : SO z := fun c hc => by
  have := okC_iff.mp (List.all_eq_true.mp h c hc)
  omega
mutual
theorem at_tx : ∀ d : PyData, atB S q m d = true → txS S d = true
  | .tuple ds, h => by rw [atB] at h; rw [txS]; exact ats_tx ds h
  | .list ds, h => by simp [txS]
  | .dict kvs, h => by simp [txS]
  | .str z, h => by
    rw [atB, Bool.and_eq_true] at h
    rw [txS]
    exact h.1
  | .int i, h => by simp [txS]
  | .none, _ => by simp [txS]
  | .bool _, _ => by simp [txS]
theorem ats_tx : ∀ ds : List PyData, atBs S q m ds = true → txSs S ds = true
  | [], _ => by rw [txSs]
  | d :: ds, h => by
    rw [atBs, Bool.and_eq_true] at h
    rw [txSs, at_tx d h.1, ats_tx ds h.2]
    rfl
end
mutual
theorem at_sh (hq : q ≤ 1000) : ∀ d : PyData, atB S q m d = true → shB d = true
  | .tuple ds, h => by rw [atB] at h; rw [shB]; exact ats_sh hq ds h
  | .list ds, h => by simp [shB]
  | .dict kvs, h => by simp [shB]
  | .str z, h => by
    rw [atB, Bool.and_eq_true, Bool.and_eq_true, decide_eq_true_eq, decide_eq_true_eq] at h
    rw [shB, so_iff.mpr (ok_so h.2.2), Bool.and_true]
    exact decide_eq_true (Nat.le_trans h.2.1 hq)
  | .int i, h => by simp [shB]
  | .none, _ => by simp [shB]
  | .bool _, _ => by simp [shB]
theorem ats_sh (hq : q ≤ 1000) : ∀ ds : List PyData, atBs S q m ds = true → shBs ds = true
  | [], _ => by rw [shBs]
  | d :: ds, h => by
    rw [atBs, Bool.and_eq_true] at h
    rw [shBs, at_sh hq d h.1, ats_sh hq ds h.2]
    rfl
end
mutual
theorem at_shw (hm : m ≤ 10 ^ 41) : ∀ d : PyData, atB S q m d = true → d.showable = true
  | .tuple ds, h => by rw [atB] at h; simp only [PyData.showable]; exact ats_shw hm ds h
  | .list ds, h => by rw [atB] at h; simp only [PyData.showable]; exact ats_shw hm ds h
  | .dict kvs, h => by rw [atB] at h; simp only [PyData.showable]; exact atk_shw hm kvs h
  | .str z, h => by simp only [PyData.showable]
  | .int i, h => by
    rw [atB, decide_eq_true_eq] at h
    simp only [PyData.showable]
    refine decide_eq_true ?_
    by_cases e : i.natAbs = 0
    · rw [e]; decide
    · exact (Nat.log2_lt e).mpr (Nat.lt_of_le_of_lt (Nat.le_trans h hm) (Nat.lt_of_lt_of_le (show 10 ^ 41 < 2 ^ 140 by decide) (Nat.pow_le_pow_right (by decide) (by decide))))
  | .none, _ => by simp only [PyData.showable]
  | .bool _, _ => by simp only [PyData.showable]
theorem ats_shw (hm : m ≤ 10 ^ 41) : ∀ ds : List PyData, atBs S q m ds = true → PyData.showableAll ds = true
  | [], _ => by simp only [PyData.showableAll]
  | d :: ds, h => by
    rw [atBs, Bool.and_eq_true] at h
    simp only [PyData.showableAll, at_shw hm d h.1, ats_shw hm ds h.2, Bool.and_self]
theorem atk_shw (hm : m ≤ 10 ^ 41) : ∀ ds : List (PyData × PyData), atBk S q m ds = true → PyData.showableKv ds = true
  | [], _ => by simp only [PyData.showableKv]
  | (k, v) :: ds, h => by
    rw [atBk, Bool.and_eq_true, Bool.and_eq_true] at h
    simp only [PyData.showableKv, at_shw hm k h.1.1, at_shw hm v h.1.2, atk_shw hm ds h.2, Bool.and_self]
end
mutual
theorem at_so : ∀ d : PyData, atB S q m d = true → SO d.shown
  | .none, _ => by rw [PyData.shown_none]; decide
  | .bool b, _ => by
    rw [PyData.shown_bool]
    cases b <;> decide
  | .int i, _ => shown_so (.int i) (by simp only [PyData.canLay0])
  | .str x, h => by
    rw [atB, Bool.and_eq_true, Bool.and_eq_true] at h
    exact shown_so (.str x) (by simp only [PyData.canLay0]; exact so_iff.mpr (ok_so h.2.2))
  | .list xs, h => by
    rw [PyData.shown_list]
    exact so_append (so_append (by decide) (so_join (by decide) (ats_so xs (by rw [atB] at h; exact h)))) (by decide)
  | .tuple xs, h => by
    rw [PyData.shown_tuple]
    refine so_append (so_append (by decide) (so_join (by decide) (ats_so xs (by rw [atB] at h; exact h)))) ?_
    split <;> decide
  | .dict kvs, h => by
    simp only [PyData.shown]
    exact so_append (so_append (by decide) (so_join (by decide) (atk_so kvs (by rw [atB] at h; exact h)))) (by decide)
theorem ats_so : ∀ xs : List PyData, atBs S q m xs = true → ∀ t, t ∈ PyData.shownAll xs → SO t
  | [], _, t, ht => by simp only [PyData.shownAll, List.not_mem_nil] at ht
  | x :: xs, h, t, ht => by
    rw [atBs, Bool.and_eq_true] at h
    simp only [PyData.shownAll, List.mem_cons] at ht
    rcases ht with rfl | ht
    · exact at_so x h.1
    · exact ats_so xs h.2 t ht
theorem atk_so : ∀ xs : List (PyData × PyData), atBk S q m xs = true → ∀ t, t ∈ PyData.shownKv xs → SO t
  | [], _, t, ht => by simp only [PyData.shownKv, List.not_mem_nil] at ht
  | (k, v) :: xs, h, t, ht => by
    rw [atBk, Bool.and_eq_true, Bool.and_eq_true] at h
    simp only [PyData.shownKv, List.mem_cons] at ht
    rcases ht with rfl | ht
    · exact so_append (so_append (at_so k h.1.1) (by decide)) (at_so v h.1.2)
    · exact atk_so xs h.2 t ht
end
end
mutual
/-- what its text takes at most -/
def wl : PyData → Nat
  | .tuple ds => wls ds + 3
  | .list ds => wls ds + 3
  | .dict kvs => (PyData.dict kvs).shown.length
  | .str z => (PyData.str z).shown.length
  | .int i => (PyData.int i).shown.length
  | .bool b => (PyData.bool b).shown.length
  | .none => PyData.none.shown.length
def wls : List PyData → Nat
  | [] => 0
  | d :: ds => wl d + 2 + wls ds
end
mutual
theorem shown_wl : ∀ d : PyData, d.shown.length ≤ wl d
  | .tuple ds => by
    have h1 := tupleText_len_le (PyData.shownAll ds)
    have h2 := shown_wls ds
    rw [PyData.shownAll_length] at h1
    simp only [PyData.shown, wl]
    omega
  | .list ds => by
    have h1 := listText_len_le (PyData.shownAll ds)
    have h2 := shown_wls ds
    rw [PyData.shownAll_length] at h1
    simp only [PyData.shown, wl]
    omega
  | .dict kvs => by rw [wl]; omega
  | .str z => by rw [wl]; omega
  | .int i => by rw [wl]; omega
  | .bool b => by rw [wl]; omega
  | .none => by rw [wl]; omega
theorem shown_wls : ∀ ds : List PyData, ((PyData.shownAll ds).map (·.length)).sum + 2 * ds.length ≤ wls ds
  | [] => by simp only [PyData.shownAll, List.map_nil, List.sum_nil, List.length_nil, wls]; omega
  | d :: ds => by
    have := shown_wl d
    have := shown_wls ds
    simp only [PyData.shownAll, List.map_cons, List.sum_cons, List.length_cons, wls]
    omega
end
theorem wls_append : ∀ (xs ys : List PyData), wls (xs ++ ys) = wls xs + wls ys
  | [], ys => by simp only [List.nil_append, wls, Nat.zero_add]
  | x :: xs, ys => by
    have := wls_append xs ys
    simp only [List.cons_append, wls]
    omega
theorem wls_le {b : PyData → Nat} : ∀ {ds : List PyData}, (∀ d, d ∈ ds → wl d + 2 ≤ b d) → wls ds ≤ (ds.map b).sum
  | [], _ => Nat.le_refl _
  | d :: ds, h => by
    have h1 := h d List.mem_cons_self
    have h2 := wls_le fun x hx => h x (List.mem_cons_of_mem _ hx)
    simp only [wls, List.map_cons, List.sum_cons]
    omega
theorem wl_tup (ds : List PyData) : wl (.tuple ds) ≤ wls ds + 3 := by
  rw [wl]
  omega
theorem wl_lst (ds : List PyData) : wl (.list ds) ≤ wls ds + 3 := by
  rw [wl]
  omega
/-- what one thing keeps -/
structure El (S : List Str) (q m p : Nat) (x : PyData) : Prop where
  dep : x.depth ≤ p
  at' : atB S q m x = true
structure Bd (S : List Str) (q m l s p : Nat) (x : PyData) : Prop extends El S q m p x where
  len : wl x ≤ l
  sz : sz x ≤ s
structure Bds (S : List Str) (q m l s p : Nat) (xs : List PyData) : Prop where
  els : ∀ y, y ∈ xs → El S q m p y
  len : wls xs ≤ l
  sz : szs xs ≤ s
section
variable {S : List Str} {q m : Nat}
theorem El.mono {p p' : Nat} {x : PyData} (h : El S q m p x) (e : p ≤ p') : El S q m p' x := ⟨Nat.le_trans h.dep e, h.at'⟩
theorem El.wide {S' : List Str} {q' m' p p' : Nat} {x : PyData} (h : El S q m p x) (hS : ∀ z, z ∈ S → z ∈ S') (hq : q ≤ q') (hm : m ≤ m') (e : p ≤ p') : El S' q' m' p' x := ⟨Nat.le_trans h.dep e, at_mono hS hq hm x h.at'⟩
theorem Bd.mono {l s p l' s' p' : Nat} {x : PyData} (h : Bd S q m l s p x) (hl : l ≤ l') (hs : s ≤ s') (hp : p ≤ p') : Bd S q m l' s' p' x := ⟨h.toEl.mono hp, Nat.le_trans h.len hl, Nat.le_trans h.sz hs⟩
theorem Bd.wide {S' : List Str} {q' m' l s p l' s' p' : Nat} {x : PyData} (h : Bd S q m l s p x) (hS : ∀ z, z ∈ S → z ∈ S') (hq : q ≤ q') (hm : m ≤ m') (hl : l ≤ l') (hs : s ≤ s') (hp : p ≤ p') : Bd S' q' m' l' s' p' x := ⟨h.toEl.wide hS hq hm hp, Nat.le_trans h.len hl, Nat.le_trans h.sz hs⟩
theorem Bds.wide {S' : List Str} {q' m' l s p l' s' p' : Nat} {xs : List PyData} (h : Bds S q m l s p xs) (hS : ∀ z, z ∈ S → z ∈ S') (hq : q ≤ q') (hm : m ≤ m') (hl : l ≤ l') (hs : s ≤ s') (hp : p ≤ p') : Bds S' q' m' l' s' p' xs := ⟨fun y hy => (h.els y hy).wide hS hq hm hp, Nat.le_trans h.len hl, Nat.le_trans h.sz hs⟩
theorem Bds.mono {l s p l' s' p' : Nat} {xs : List PyData} (h : Bds S q m l s p xs) (hl : l ≤ l') (hs : s ≤ s') (hp : p ≤ p') : Bds S q m l' s' p' xs := ⟨fun y hy => (h.els y hy).mono hp, Nat.le_trans h.len hl, Nat.le_trans h.sz hs⟩
theorem depthAll_of {p : Nat} : ∀ {xs : List PyData}, (∀ y, y ∈ xs → El S q m p y) → PyData.depthAll xs ≤ p
  | [], _ => by simp only [PyData.depthAll]; omega
  | x :: xs, h => by
    have h1 := (h x List.mem_cons_self).dep
    have h2 := depthAll_of fun y hy => h y (List.mem_cons_of_mem _ hy)
    simp only [PyData.depthAll]
    omega
theorem ats_of {p : Nat} : ∀ {xs : List PyData}, (∀ y, y ∈ xs → El S q m p y) → atBs S q m xs = true
  | [], _ => by rw [atBs]
  | x :: xs, h => by rw [atBs, (h x List.mem_cons_self).at', ats_of fun y hy => h y (List.mem_cons_of_mem _ hy)]; rfl
theorem El.tup {p : Nat} {xs : List PyData} (h : ∀ y, y ∈ xs → El S q m p y) : El S q m (p + 1) (.tuple xs) := by
  have := depthAll_of h
  exact ⟨by simp only [PyData.depth]; omega, by rw [atB]; exact ats_of h⟩
theorem El.lst {p : Nat} {xs : List PyData} (h : ∀ y, y ∈ xs → El S q m p y) : El S q m (p + 1) (.list xs) := by
  have := depthAll_of h
  exact ⟨by simp only [PyData.depth]; omega, by rw [atB]; exact ats_of h⟩
theorem Bds.tup {l s p : Nat} {xs : List PyData} (h : Bds S q m l s p xs) : Bd S q m (l + 3) (s + 1) (p + 1) (.tuple xs) :=
  ⟨El.tup h.els, by rw [wl]; have := h.len; omega, by rw [L9.sz]; have := h.sz; omega⟩
theorem Bds.lst {l s p : Nat} {xs : List PyData} (h : Bds S q m l s p xs) : Bd S q m (l + 3) (s + 1) (p + 1) (.list xs) :=
  ⟨El.lst h.els, by rw [wl]; have := h.len; omega, by show 1 ≤ s + 1; omega⟩
theorem els_inv {p : Nat} : ∀ {xs : List PyData}, PyData.depthAll xs ≤ p → atBs S q m xs = true → ∀ y, y ∈ xs → El S q m p y
  | [], _, _, y, hy => (nomatch hy)
  | x :: xs, h1, h2, y, hy => by
    simp only [PyData.depthAll] at h1
    rw [atBs, Bool.and_eq_true] at h2
    rcases List.mem_cons.mp hy with rfl | hy
    · exact ⟨by omega, h2.1⟩
    · exact els_inv (by omega) h2.2 y hy
/-- what a tuple's items keep -/
theorem Bd.inv {l s p : Nat} {xs : List PyData} (h : Bd S q m l s (p + 1) (.tuple xs)) : Bds S q m (l - 3) (s - 1) p xs := by
  have h1 := h.dep
  have h2 := h.at'
  have h5 := h.len
  have h6 := h.sz
  simp only [PyData.depth] at h1
  rw [atB] at h2
  rw [wl] at h5
  rw [L9.sz] at h6
  exact ⟨els_inv (by omega) h2, by omega, by omega⟩
theorem Bd.len3 {l s p : Nat} {xs : List PyData} (h : Bd S q m l s p (.tuple xs)) : 3 ≤ l ∧ 1 ≤ s ∧ 1 ≤ p := by
  have h1 := h.dep
  have h5 := h.len
  have h6 := h.sz
  simp only [PyData.depth] at h1
  rw [wl] at h5
  rw [L9.sz] at h6
  omega
theorem Bds.two {l s p l' s' : Nat} {x : PyData} {xs : List PyData} (h : Bd S q m l s p x) (t : Bds S q m l' s' p xs) : Bds S q m (l + 2 + l') (s + s') p (x :: xs) := by
  refine ⟨fun y hy => ?_, ?_, ?_⟩
  · rcases List.mem_cons.mp hy with rfl | hy
    · exact h.toEl
    · exact t.els y hy
  · rw [wls]; have := h.len; have := t.len; omega
  · rw [szs]; have := h.sz; have := t.sz; omega
theorem Bds.nil {p : Nat} : Bds S q m 0 0 p [] := ⟨fun y hy => (nomatch hy), Nat.le_refl _, Nat.le_refl _⟩
theorem Bds.app {l s p l' s' : Nat} {xs ys : List PyData} (h : Bds S q m l s p xs) (t : Bds S q m l' s' p ys) : Bds S q m (l + l') (s + s') p (xs ++ ys) := by
  refine ⟨fun y hy => ?_, ?_, ?_⟩
  · rcases List.mem_append.mp hy with hy | hy
    · exact h.els y hy
    · exact t.els y hy
  · rw [wls_append]; have := h.len; have := t.len; omega
  · rw [szs_append]; have := h.sz; have := t.sz; omega
end
theorem cut_at {α : Type} {xs : List α} {i : Nat} {x : α} (h : xs[i]? = some x) : xs = xs.take i ++ x :: xs.drop (i + 1) := by
  have hi := (List.getElem?_eq_some_iff.mp h).1
  have e : xs[i] = x := (List.getElem?_eq_some_iff.mp h).2
  have := List.take_append_drop i xs
  rw [List.drop_eq_getElem_cons hi, e] at this
  exact this.symm
/-- what the items of one list give to another -/
theorem Bds.sub {S : List Str} {q m l s p : Nat} {A B xs : List PyData} (h : Bds S q m l s p xs) (e : xs = A ++ B) : Bds S q m l s p A ∧ Bds S q m l s p B ∧ wls A + wls B ≤ l ∧ szs A + szs B ≤ s := by
  subst e
  have h1 := h.len
  have h2 := h.sz
  rw [wls_append] at h1
  rw [szs_append] at h2
  exact ⟨⟨fun y hy => h.els y (List.mem_append_left _ hy), by omega, by omega⟩, ⟨fun y hy => h.els y (List.mem_append_right _ hy), by omega, by omega⟩, h1, h2⟩
/-- one item, and what lies around it -/
structure Around1 (S : List Str) (q m l s p : Nat) (A : List PyData) (x : PyData) (B : List PyData) : Prop where
  ela : ∀ y, y ∈ A → El S q m p y
  elx : El S q m p x
  elb : ∀ y, y ∈ B → El S q m p y
  len : wls A + (wl x + 2) + wls B ≤ l
  sz : szs A + sz x + szs B ≤ s
theorem Bds.around {S : List Str} {q m l s p i : Nat} {xs : List PyData} {x : PyData} (h : Bds S q m l s p xs) (hx : xs[i]? = some x) : Around1 S q m l s p (xs.take i) x (xs.drop (i + 1)) := by
  have e := cut_at hx
  have h1 := h.len
  have h2 := h.sz
  have h3 := h.els
  rw [e] at h1 h2
  rw [wls_append, wls] at h1
  rw [szs_append, szs] at h2
  exact ⟨fun y hy => h3 y (List.mem_of_mem_take hy), h3 x (List.mem_of_getElem? hx), fun y hy => h3 y (List.mem_of_mem_drop hy), by omega, by omega⟩
theorem mem3 {P : PyData → Prop} {A B : List PyData} (ha : ∀ y, y ∈ A → P y) (hb : ∀ y, y ∈ B → P y) : ∀ y, y ∈ A ++ B → P y := fun y hy => by
  rcases List.mem_append.mp hy with hy | hy
  · exact ha y hy
  · exact hb y hy
theorem mem1 {P : PyData → Prop} {x : PyData} (h : P x) : ∀ y, y ∈ [x] → P y := fun y hy => by
  rw [List.mem_singleton.mp hy]
  exact h
/-! what a bend makes of it -/
section
variable {S : List Str} {q m l s p : Nat} {A B : List PyData} {x : PyData}
theorem bend_out (h : Around1 S q m l s p A x B) : Bds S q m l s p (A ++ B) := by
  have h1 := h.len
  have h2 := h.sz
  exact ⟨mem3 h.ela h.elb, by rw [wls_append]; omega, by rw [szs_append]; omega⟩
theorem bend_twice (h : Around1 S q m l s p A x B) : Bds S q m (2 * l) (2 * s) p ((A ++ [x]) ++ (x :: B)) := by
  have h1 := h.len
  have h2 := h.sz
  refine ⟨mem3 (mem3 h.ela (mem1 h.elx)) (fun y hy => ?_), ?_, ?_⟩
  · rcases List.mem_cons.mp hy with rfl | hy
    · exact h.elx
    · exact h.elb y hy
  · rw [wls_append, wls_append, wls, wls, wls]; omega
  · rw [szs_append, szs_append, szs, szs, szs]; omega
theorem bend_put {y : PyData} {k n r : Nat} (h : Around1 S q m l s p A x B) (hy : Bd S q m (2 * wl x + k) (2 * L9.sz x + n) (p + r) y) : Bds S q m (2 * l + k) (2 * s + n) (p + r) ((A ++ [y]) ++ B) := by
  have h1 := h.len
  have h2 := h.sz
  have h3 := hy.len
  have h4 := hy.sz
  refine ⟨mem3 (mem3 (fun y hy => (h.ela y hy).mono (by omega)) (mem1 hy.toEl)) (fun y hy => (h.elb y hy).mono (by omega)), ?_, ?_⟩
  · rw [wls_append, wls_append, wls, wls]; omega
  · rw [szs_append, szs_append, szs, szs]; omega
end
/-- two items changed about -/
theorem bend_turn {S : List Str} {q m l s p i : Nat} {xs : List PyData} (h : Bds S q m l s p xs) : Bds S q m l s p ((xs.take i ++ ((xs.drop i).take 2).reverse) ++ xs.drop (i + 2)) := by
  have e1 : xs = xs.take i ++ ((xs.drop i).take 2 ++ xs.drop (i + 2)) := by
    rw [← List.drop_drop, List.take_append_drop, List.take_append_drop]
  have h1 := h.len
  have h2 := h.sz
  have h3 := h.els
  rw [e1] at h1 h2
  rw [wls_append, wls_append] at h1
  rw [szs_append, szs_append] at h2
  have r1 : ∀ zs : List PyData, wls zs.reverse = wls zs := fun zs => by
    induction zs with
    | nil => rfl
    | cons z zs ih => rw [List.reverse_cons, wls_append, ih, wls, wls, wls]; omega
  have r2 : ∀ zs : List PyData, szs zs.reverse = szs zs := fun zs => by
    induction zs with
    | nil => rfl
    | cons z zs ih => rw [List.reverse_cons, szs_append, ih, szs, szs, szs]; omega
  refine ⟨mem3 (mem3 (fun y hy => h3 y (List.mem_of_mem_take hy)) (fun y hy => ?_)) (fun y hy => h3 y (List.mem_of_mem_drop hy)), ?_, ?_⟩
  · exact h3 y (List.mem_of_mem_drop (List.mem_of_mem_take (List.mem_reverse.mp hy)))
  · rw [wls_append, wls_append, r1]; omega
  · rw [szs_append, szs_append, r2]; omega

theorem char1C : ∀ c, c < 127 → okC c = true → (Builtin.Str.reprChar 39 c).length = 1 := by decide +kernel
theorem fold_lenC : ∀ (l : List Nat) (acc : Array Nat), (∀ c, c ∈ l → okC c = true) → (l.foldl (fun out c => out ++ (Builtin.Str.reprChar 39 c).toArray) acc).size = acc.size + l.length
  | [], acc, _ => rfl
  | c :: l, acc, h => by
    have hc := h c List.mem_cons_self
    have h1 := char1C c (okC_iff.mp hc).1.2 hc
    have h2 : (Builtin.Str.reprChar 39 c).toArray.size = 1 := by rw [List.size_toArray]; exact h1
    rw [List.foldl_cons, fold_lenC l _ fun d hd => h d (List.mem_cons_of_mem _ hd), Array.size_append, h2, List.length_cons]
    omega
/-- a plain text shows as itself within quotes -/
theorem wl_ok {z : Str} (h : z.cps.toList.all okC = true) : wl (.str z) = z.length + 2 := by
  have h3 := List.all_eq_true.mp h
  have hq : PySem.reprQuote z = 39 := by
    unfold PySem.reprQuote
    rw [if_neg]
    intro e
    rw [Bool.and_eq_true] at e
    have := e.1
    rw [Array.contains_iff_mem] at this
    exact (okC_iff.mp (h3 39 (Array.mem_toList_iff.mpr this))).2.1 rfl
  rw [wl, PyData.shown_str]
  unfold PySem.reprText
  rw [hq]
  show ((z.cps.foldl (fun out c => out ++ (Builtin.Str.reprChar 39 c).toArray) #[39]).push 39).size = z.length + 2
  rw [Array.size_push, ← Array.foldl_toList, fold_lenC _ _ h3, Array.length_toList]
  show 1 + z.cps.size + 1 = z.cps.size + 2
  omega
section
variable {S : List Str} {q m : Nat}
theorem bd_str {z : Str} (hz : z ∈ S) (hl : z.length ≤ q) (hc : z.cps.toList.all okC = true) : Bd S q m (z.length + 2) 1 0 (.str z) :=
  ⟨⟨by simp only [PyData.depth]; omega, by rw [atB, hc, decide_eq_true hz, decide_eq_true hl]; rfl⟩, Nat.le_of_eq (wl_ok hc), Nat.le_refl _⟩
theorem bd_int {i : Int} (h : i.natAbs ≤ m) (hm : m ≤ 10 ^ 41) : Bd S q m 43 1 0 (.int i) := by
  have e := int_text_length_le10 (k := 42) (by decide) (show i.natAbs < 10 ^ 42 from Nat.lt_of_le_of_lt (Nat.le_trans h hm) (by decide))
  refine ⟨⟨by simp only [PyData.depth]; omega, by rw [atB]; exact decide_eq_true h⟩, ?_, Nat.le_refl _⟩
  rw [wl, PyData.shown_int, PySem.ofString_length]
  exact e
theorem bd_bool (b : Bool) : Bd S q m 5 1 0 (.bool b) := ⟨⟨by simp only [PyData.depth]; omega, by cases b <;> (rw [atB] <;> simp)⟩, by rw [wl, PyData.shown_bool]; cases b <;> decide, Nat.le_refl _⟩
theorem bd_none : Bd S q m 5 1 0 .none := ⟨⟨by simp only [PyData.depth]; omega, by rw [atB] <;> simp⟩, by rw [wl, PyData.shown_none]; decide, Nat.le_refl _⟩
end
end L9

namespace L9
open PySem PySem.Spec PyProof.Rows L2 GR AD RZ WX ZE TX RVT
/-! ### what the generator makes is what it should be -/
theorem isX_all : ∀ (n : Nat) (d : PyData), sz d ≤ n → isX d = allX hasForm d
  | 0, d, h => by have := sz_pos d; omega
  | n + 1, d, h => by
    rw [isX_step, allX_step]
    congr 1
    have hk := kidsE_sz d
    rw [Bool.eq_iff_iff, List.all_eq_true, List.all_eq_true]
    have key : ∀ y, y ∈ kidsE d → isX y = allX hasForm y := fun y hy => isX_all n y (by have := sz_mem hy; omega)
    exact ⟨fun g y hy => by rw [← key y hy]; exact g y hy, fun g y hy => by rw [key y hy]; exact g y hy⟩
theorem isN_nm {z : Str} (h : Nm z) : isN (.str z) = true := by
  obtain ⟨h1, h2, h3, h4⟩ := h
  rw [Array.length_toList] at h1 h2
  have e1 : decide (1 ≤ z.length) = true := decide_eq_true h1
  have e2 : decide (z.length ≤ 8) = true := decide_eq_true h2
  have e3 : decide (z ∈ BARW) = false := decide_eq_false h4
  have e4 : z.cps.toList.all lowC = true := List.all_eq_true.mpr fun c hc => by
    have := h3 c hc
    unfold lowC
    rw [decide_eq_true this.1, decide_eq_true this.2]
    rfl
  show ((decide (1 ≤ z.length) && decide (z.length ≤ 8)) && (!decide (z ∈ BARW) && z.cps.toList.all lowC)) = true
  rw [e1, e2, e3, e4]
  rfl
theorem isV_ok {i : Int} (h1 : -(10 ^ 18) ≤ i) (h2 : i ≤ 10 ^ 18) : isV (.int i) = true := by
  show (decide (-LIM ≤ i) && decide (i ≤ LIM)) = true
  rw [decide_eq_true (by show -(1000000000000000000 : Int) ≤ i; omega), decide_eq_true (by show i ≤ (1000000000000000000 : Int); omega)]
  rfl
theorem kidsE_some {w : Str} {fs : List Str} {r : List PyData} (h : look w = some fs) : kidsE (.tuple (.str w :: r)) = pick W2 fs r := by
  show (match look w with | some fs => pick W2 fs r | none => []) = _
  rw [h]
theorem kidsF_some {w : Str} {fs : List Str} {r : List PyData} (h : look w = some fs) : kidsF (.tuple (.str w :: r)) = pick W1 fs r := by
  show (match look w with | some fs => pick W1 fs r | none => []) = _
  rw [h]
/-- what the names are -/
structure Nz (S zs sc : List Str) : Prop where
  nm : ∀ z, z ∈ zs → z ≠ "#" → Nm z ∧ z ∈ S
  sc : ∀ z, z ∈ sc → Nm z ∧ z ∈ S
  inn : ("in" : Str) ∈ zs
  plus : ("+" : Str) ∉ zs
theorem ops_free {o : Str} (h : o ∈ ops5) : look o = some (["free", "free"] : List Str) ∧ o ≠ "let" ∧ o ∉ aggW ∧ o ≠ "var" ∧ o ≠ "key" := by
  simp only [ops5, List.mem_cons, List.not_mem_nil, or_false] at h
  rcases h with rfl | rfl | rfl | rfl | rfl <;> decide
/-- an aggregate's kinds -/
theorem agg_look {o : Str} {a b : Nat} (h : (o, a, b) ∈ aggk) : look o = some ((["name", "extra", "bound", "bound"] : List Str) ++ ((List.replicate a "bound" : List Str) ++ (List.replicate b "free" : List Str))) ∧ o ≠ "let" ∧ o ∈ aggW ∧ o ≠ "var" ∧ o ≠ "key" := by
  simp only [aggk, List.mem_cons, List.not_mem_nil, or_false, Prod.mk.injEq] at h
  rcases h with ⟨rfl, rfl, rfl⟩ | ⟨rfl, rfl, rfl⟩ | ⟨rfl, rfl, rfl⟩ | ⟨rfl, rfl, rfl⟩ <;> decide
theorem pick_app (W : List Str) : ∀ {fs : List Str} {ds : List PyData} {gs : List Str} {es : List PyData}, fs.length = ds.length → pick W (fs ++ gs) (ds ++ es) = pick W fs ds ++ pick W gs es
  | [], [], gs, es, _ => by simp only [List.nil_append, pick]
  | f :: fs, d :: ds, gs, es, h => by
    have ih := pick_app W (fs := fs) (ds := ds) (gs := gs) (es := es) (by simpa using h)
    rw [List.cons_append, List.cons_append, pick, pick, ih, List.append_assoc]
theorem pick_rep {W : List Str} {f : Str} (hf : f ≠ "extra") : ∀ (n : Nat) (ds : List PyData), ds.length = n → pick W (List.replicate n f) ds = if f ∈ W then ds else []
  | 0, [], _ => by simp [pick]
  | n + 1, d :: ds, h => by
    have ih := pick_rep (W := W) hf n ds (by simpa using h)
    rw [List.replicate_succ, pick, ih, if_neg hf]
    split <;> rfl
theorem fits_rep : ∀ (n : Nat) (ds : List PyData) (f : Str), (f = "free" ∨ f = "bound") → ds.length = n → ∀ {gs : List Str} {es : List PyData}, fitsAll (List.replicate n f ++ gs) (ds ++ es) = fitsAll gs es
  | 0, [], _, _, _, _, _ => rfl
  | n + 1, d :: ds, f, hf, h, gs, es => by
    have ih := fits_rep n ds f hf (by simpa using h) (gs := gs) (es := es)
    have h1 : fitsD f d = true := by rcases hf with rfl | rfl <;> rfl
    show (fitsD f d && fitsAll (List.replicate n f ++ gs) (ds ++ es)) = _
    rw [h1, ih]
    rfl
section
variable {S zs sc : List Str}
/-- an expression by its form, somewhere within -/
def CxE (zs sc : List Str) (y : PyData) : Prop := ∃ b n, Cx zs sc b n y
theorem row_cx (h : Nz S zs sc) {t : Str} (ht : t ∈ zs ∧ t ≠ "#") : Cx zs sc true 2 (rowX t) := .cell true 1 t "in" _ ht ⟨h.inn, by decide⟩ (.key 0)
theorem Cx.kids (h : Nz S zs sc) {b : Bool} {n : Nat} {x : PyData} (hx : Cx zs sc b n x) : ∀ y, y ∈ kidsE x → CxE zs sc y := by
  cases hx with
  | int _ n i h1 h2 => rw [kidsE_some (show look "int" = some (["value"] : List Str) by decide)]; intro y hy; exact (nomatch hy)
  | let_ _ n i g9 => exact absurd g9 h.plus
  | key n => rw [kidsE_some (show look "key" = some ([] : List Str) by decide)]; intro y hy; exact (nomatch hy)
  | var _ n z h1 => rw [kidsE_some (show look "var" = some (["name"] : List Str) by decide)]; intro y hy; exact (nomatch hy)
  | cell _ n t v x h1 h2 hx =>
    rw [kidsE_some (show look "cell" = some (["name", "free", "name"] : List Str) by decide)]
    intro y hy
    rw [show pick W2 (["name", "free", "name"] : List Str) [.str t, x, .str v] = [x] from rfl] at hy
    have : y = x := List.mem_singleton.mp hy
    exact this ▸ ⟨_, _, hx⟩
  | op _ n o x y h1 hx hy =>
    rw [kidsE_some (ops_free h1).1]
    intro u hu
    rw [show pick W2 (["free", "free"] : List Str) [x, y] = [x, y] from rfl] at hu
    have : u = x ∨ u = y := by simpa using hu
    rcases this with rfl | rfl
    · exact ⟨_, _, hx⟩
    · exact ⟨_, _, hy⟩
  | at_ _ n x y hx hy =>
    rw [kidsE_some (show look "at" = some (["free", "bound"] : List Str) by decide)]
    intro u hu
    rw [show pick W2 (["free", "bound"] : List Str) [x, y] = [x, y] from rfl] at hu
    have : u = x ∨ u = y := by simpa using hu
    rcases this with rfl | rfl
    · exact ⟨_, _, hx⟩
    · exact ⟨_, _, hy⟩
  | iff _ n x y z hx hy hz =>
    rw [kidsE_some (show look "if" = some (["free", "free", "free"] : List Str) by decide)]
    intro u hu
    rw [show pick W2 (["free", "free", "free"] : List Str) [x, y, z] = [x, y, z] from rfl] at hu
    have : u = x ∨ u = y ∨ u = z := by simpa using hu
    rcases this with rfl | rfl | rfl
    · exact ⟨_, _, hx⟩
    · exact ⟨_, _, hy⟩
    · exact ⟨_, _, hz⟩
  | agg _ n o t p xs vs ds hh h0 h1 h2 h3 h4 h5 h6 h7 =>
    obtain rfl : xs = [] := List.length_eq_zero_iff.mp (Nat.le_zero.mp h3)
    rw [kidsE_some (agg_look h1).1]
    intro u hu
    have e : pick W2 ((["name", "extra", "bound", "bound"] : List Str) ++ ((List.replicate vs.length "bound" : List Str) ++ (List.replicate ds.length "free" : List Str))) ((.str t : PyData) :: .tuple [] :: rowX t :: p :: (vs ++ ds)) = [rowX t, p] ++ (vs ++ ds) := by
      rw [show ((.str t : PyData) :: .tuple [] :: rowX t :: p :: (vs ++ ds)) = [.str t, .tuple [], rowX t, p] ++ (vs ++ ds) from rfl, pick_app W2 rfl, pick_app W2 (by rw [List.length_replicate]), pick_rep (by decide) _ _ rfl, pick_rep (by decide) _ _ rfl, if_pos (by decide), if_pos (by decide)]
      rfl
    rw [e] at hu
    rcases List.mem_append.mp hu with hu | hu
    · simp only [List.mem_cons, List.not_mem_nil, or_false] at hu
      rcases hu with rfl | rfl
      · exact ⟨_, _, row_cx h h2⟩
      · exact ⟨_, _, h5⟩
    · rcases List.mem_append.mp hu with hu | hu
      · exact ⟨_, _, h6 u hu⟩
      · exact ⟨_, _, h7 u hu⟩
theorem CxE.all (h : Nz S zs sc) {q : PyData → Bool} (hq : ∀ y, CxE zs sc y → q y = true) {x : PyData} (hx : CxE zs sc x) : allX q x = true :=
  allX_of (P := CxE zs sc) (fun y hy => ⟨hq y hy, hy.choose_spec.choose_spec.kids h⟩) (L9.sz x) x (Nat.le_refl _) hx
theorem CxE.form (h : Nz S zs sc) {x : PyData} (hx : CxE zs sc x) : hasForm x = true := by
  obtain ⟨b, n, hx⟩ := hx
  cases hx with
  | int _ n i h1 h2 =>
    rw [form_some (show look "int" = some (["value"] : List Str) by decide)]
    show (isV (.int i) && true) = true
    rw [isV_ok h1 h2]
    rfl
  | let_ _ n i g9 => exact absurd g9 h.plus
  | key n => rw [form_some (show look "key" = some ([] : List Str) by decide)]; rfl
  | var _ n z h1 =>
    rw [form_some (show look "var" = some (["name"] : List Str) by decide)]
    show (isN (.str z) && true) = true
    rw [isN_nm (h.sc z h1).1]
    rfl
  | cell _ n t v x h1 h2 hx =>
    rw [form_some (show look "cell" = some (["name", "free", "name"] : List Str) by decide)]
    show (isN (.str t) && (true && (isN (.str v) && true))) = true
    rw [isN_nm (h.nm t h1.1 h1.2).1, isN_nm (h.nm v h2.1 h2.2).1]
    rfl
  | op _ n o x y h1 hx hy => rw [form_some (ops_free h1).1]; rfl
  | at_ _ n x y hx hy => rw [form_some (show look "at" = some (["free", "bound"] : List Str) by decide)]; rfl
  | iff _ n x y z hx hy hz => rw [form_some (show look "if" = some (["free", "free", "free"] : List Str) by decide)]; rfl
  | agg _ n o t p xs vs ds hh h0 h1 h2 h3 h4 h5 h6 h7 =>
    rw [form_some (agg_look h1).1]
    show (isN (.str t) && (true && (true && (true && fitsAll ((List.replicate vs.length "bound" : List Str) ++ (List.replicate ds.length "free" : List Str)) (vs ++ ds))))) = true
    rw [isN_nm (h.nm t h2.1 h2.2).1, fits_rep _ vs _ (.inr rfl) rfl]
    have := fits_rep ds.length ds "free" (.inl rfl) rfl (gs := []) (es := [])
    rw [List.append_nil, List.append_nil] at this
    rw [this]
    rfl
theorem CxE.isx (h : Nz S zs sc) {x : PyData} (hx : CxE zs sc x) : isX x = true := by
  rw [isX_all _ x (Nat.le_refl _)]
  exact CxE.all h (fun y hy => hy.form h) hx
theorem eqv_row (t : Str) : PyData.eqv (rowX t) (rowX t) = true := by
  unfold rowX
  simp only [PyData.eqv, PyData.eqvAll, beq_self_eq_true, Bool.and_self]
theorem CxE.plain (h : Nz S zs sc) {x : PyData} (hx : CxE zs sc x) : allX plainP x = true := by
  refine CxE.all h (fun y hy => ?_) hx
  obtain ⟨b, n, hy⟩ := hy
  have no : ∀ {w : Str} {r : List PyData}, w ∉ aggW → w ≠ "let" → plainP (.tuple (.str w :: r)) = true := fun h1 h2 => by
    rw [plain_no h1, decide_eq_false h2]
    rfl
  cases hy with
  | int _ n i h1 h2 => exact no (by decide) (by decide)
  | let_ _ n i g9 => exact absurd g9 h.plus
  | key n => exact no (by decide) (by decide)
  | var _ n z h1 => exact no (by decide) (by decide)
  | cell _ n t v x h1 h2 hx => exact no (by decide) (by decide)
  | op _ n o x y h1 hx hy => exact no (ops_free h1).2.2.1 (ops_free h1).2.1
  | at_ _ n x y hx hy => exact no (by decide) (by decide)
  | iff _ n x y z hx hy hz => exact no (by decide) (by decide)
  | agg _ n o t p xs vs ds hh h0 h1 h2 h3 h4 h5 h6 h7 =>
    obtain rfl : xs = [] := List.length_eq_zero_iff.mp (Nat.le_zero.mp h3)
    rw [plain_agg (agg_look h1).2.2.1, eqv_row]
    rfl
theorem CxE.simple (h : Nz S zs sc) (hh : ("#" : Str) ∉ zs) {x : PyData} (hx : CxE zs sc x) : allX simpleP x = true := by
  refine CxE.all h (fun y hy => ?_) hx
  obtain ⟨b, n, hy⟩ := hy
  have no : ∀ {w : Str} {r : List PyData}, w ∉ aggW → simpleP (.tuple (.str w :: r)) = true := fun {w r} h1 => by
    show (!decide (w ∈ aggW)) = true
    rw [decide_eq_false h1]
    rfl
  cases hy with
  | int _ n i h1 h2 => exact no (by decide)
  | let_ _ n i g9 => exact absurd g9 h.plus
  | key n => exact no (by decide)
  | var _ n z h1 => exact no (by decide)
  | cell _ n t v x h1 h2 hx => exact no (by decide)
  | op _ n o x y h1 hx hy => exact no (ops_free h1).2.2.1
  | at_ _ n x y hx hy => exact no (by decide)
  | iff _ n x y z hx hy hz => exact no (by decide)
  | agg _ n o t p xs vs ds g _ _ _ _ _ _ _ _ => exact absurd g hh
theorem CxE.vars (h : Nz S zs sc) {x : PyData} (hx : CxE zs sc x) : allX (varQ fun z => decide (z ∈ sc)) x = true := by
  refine CxE.all h (fun y hy => ?_) hx
  obtain ⟨b, n, hy⟩ := hy
  have no : ∀ {w : Str} {r : List PyData}, w ≠ "var" → varQ (fun z => decide (z ∈ sc)) (.tuple (.str w :: r)) = true := fun {w r} h1 => by
    unfold varQ
    rw [varName_no h1]
  cases hy with
  | int _ n i h1 h2 => exact no (by decide)
  | let_ _ n i g9 => exact absurd g9 h.plus
  | key n => exact no (by decide)
  | var _ n z h1 => exact decide_eq_true h1
  | cell _ n t v x h1 h2 hx => exact no (by decide)
  | op _ n o x y h1 hx hy => exact no (ops_free h1).2.2.2.1
  | at_ _ n x y hx hy => exact no (by decide)
  | iff _ n x y z hx hy hz => exact no (by decide)
  | agg _ n o t p xs vs ds _ _ h1 _ _ _ _ _ _ => exact no (agg_look h1).2.2.2.1
/-- no key stands free where none may -/
theorem Cx.kidsF (h : Nz S zs sc) {n : Nat} {x : PyData} (hx : Cx zs sc false n x) : ∀ y, y ∈ kidsF x → ∃ m, Cx zs sc false m y := by
  cases hx with
  | int _ n i h1 h2 => rw [kidsF_some (show look "int" = some (["value"] : List Str) by decide)]; intro y hy; exact (nomatch hy)
  | let_ _ n i g9 => exact absurd g9 h.plus
  | var _ n z h1 => rw [kidsF_some (show look "var" = some (["name"] : List Str) by decide)]; intro y hy; exact (nomatch hy)
  | cell _ n t v x h1 h2 hx =>
    rw [kidsF_some (show look "cell" = some (["name", "free", "name"] : List Str) by decide)]
    intro y hy
    rw [show pick W1 (["name", "free", "name"] : List Str) [.str t, x, .str v] = [x] from rfl] at hy
    have : y = x := List.mem_singleton.mp hy
    exact this ▸ ⟨_, hx⟩
  | op _ n o x y h1 hx hy =>
    rw [kidsF_some (ops_free h1).1]
    intro u hu
    rw [show pick W1 (["free", "free"] : List Str) [x, y] = [x, y] from rfl] at hu
    have : u = x ∨ u = y := by simpa using hu
    rcases this with rfl | rfl
    · exact ⟨_, hx⟩
    · exact ⟨_, hy⟩
  | at_ _ n x y hx hy =>
    rw [kidsF_some (show look "at" = some (["free", "bound"] : List Str) by decide)]
    intro u hu
    rw [show pick W1 (["free", "bound"] : List Str) [x, y] = [x] from rfl] at hu
    have : u = x := List.mem_singleton.mp hu
    exact this ▸ ⟨_, hx⟩
  | iff _ n x y z hx hy hz =>
    rw [kidsF_some (show look "if" = some (["free", "free", "free"] : List Str) by decide)]
    intro u hu
    rw [show pick W1 (["free", "free", "free"] : List Str) [x, y, z] = [x, y, z] from rfl] at hu
    have : u = x ∨ u = y ∨ u = z := by simpa using hu
    rcases this with rfl | rfl | rfl
    · exact ⟨_, hx⟩
    · exact ⟨_, hy⟩
    · exact ⟨_, hz⟩
  | agg _ n o t p xs vs ds hh h0 h1 h2 h3 h4 h5 h6 h7 =>
    obtain rfl : xs = [] := List.length_eq_zero_iff.mp (Nat.le_zero.mp h3)
    rw [kidsF_some (agg_look h1).1]
    intro u hu
    have e : pick W1 ((["name", "extra", "bound", "bound"] : List Str) ++ ((List.replicate vs.length "bound" : List Str) ++ (List.replicate ds.length "free" : List Str))) ((.str t : PyData) :: .tuple [] :: rowX t :: p :: (vs ++ ds)) = ds := by
      rw [show ((.str t : PyData) :: .tuple [] :: rowX t :: p :: (vs ++ ds)) = [.str t, .tuple [], rowX t, p] ++ (vs ++ ds) from rfl, pick_app W1 rfl, pick_app W1 (by rw [List.length_replicate]), pick_rep (by decide) _ _ rfl, pick_rep (by decide) _ _ rfl, if_neg (by decide), if_pos (by decide)]
      rfl
    rw [e] at hu
    exact ⟨_, h7 u hu⟩
theorem Cx.noKey (h : Nz S zs sc) : ∀ (k : Nat) {n : Nat} {x : PyData}, sz x ≤ k → Cx zs sc false n x → keyX x = false
  | 0, _, x, hk, _ => by have := sz_pos x; omega
  | k + 1, n, x, hk, hx => by
    have hs := L9.kidsF_sz x
    have h2 : (L9.kidsF x).any keyX = false := by
      rw [List.any_eq_false]
      intro y hy
      obtain ⟨m, hm⟩ := hx.kidsF h y hy
      have := sz_mem hy
      rw [Cx.noKey h k (by omega) hm]
      exact Bool.false_ne_true
    rw [keyX_step, h2, Bool.or_false]
    have no : ∀ {w : Str} {r : List PyData}, w ≠ "key" → isKey (.tuple (.str w :: r)) = false := fun h1 => decide_eq_false h1
    cases hx with
    | int _ n i h1 h2 => exact no (by decide)
    | let_ _ n i g9 => exact absurd g9 h.plus
    | var _ n z h1 => exact no (by decide)
    | cell _ n t v x h1 h2 hx => exact no (by decide)
    | op _ n o x y h1 hx hy => exact no (ops_free h1).2.2.2.2
    | at_ _ n x y hx hy => exact no (by decide)
    | iff _ n x y z hx hy hz => exact no (by decide)
    | agg _ n o t p xs vs ds _ _ h1 _ _ _ _ _ _ => exact no (agg_look h1).2.2.2.2
end
end L9

namespace L9
open PySem PySem.Spec PyProof.Rows L2 GR AD RZ WX ZE TX RVT
abbrev baseS : List Str := ["int", "let", "key", "var", "cell", "if", "+", "-", "*", "<", "=", "at", "count", "sum", "most", "first", "in", "need", "put", "each", "tell", "", "a", "None"]
theorem base_ok : ∀ w, w ∈ baseS → w.length ≤ 5 ∧ w.cps.toList.all okC = true := by decide +kernel
structure Bs (S : List Str) (q m : Nat) : Prop where
  base : ∀ w, w ∈ baseS → w ∈ S
  q8 : 8 ≤ q
  m1 : 10 ^ 18 ≤ m
  m2 : m ≤ 10 ^ 41
theorem nm_okC {z : Str} (h : Nm z) : z.cps.toList.all okC = true := List.all_eq_true.mpr fun c hc => okC_iff.mpr (by have := h.2.2.1 c hc; unfold Low at this; omega)
section
variable {S : List Str} {q m : Nat}
theorem Bd.two {l s p l' s' : Nat} {x : PyData} {xs : List PyData} (h : Bd S q m l s p x) (t : Bds S q m l' s' p xs) : Bds S q m (l + 2 + l') (s + s') p (x :: xs) := Bds.two h t
theorem Bs.w (h : Bs S q m) {w : Str} (hw : w ∈ baseS) (p : Nat) : Bd S q m 7 1 p (.str w) := by
  obtain ⟨h1, h2⟩ := base_ok w hw
  have := h.q8
  exact (bd_str (h.base w hw) (by omega) h2).mono (by omega) (Nat.le_refl _) (Nat.zero_le p)
theorem Bs.n (h : Bs S q m) {z : Str} (hz : Nm z ∧ z ∈ S) (p : Nat) : Bd S q m 10 1 p (.str z) := by
  have h1 := hz.1.2.1
  rw [Array.length_toList] at h1
  have h2 : z.length ≤ 8 := h1
  have := h.q8
  exact (bd_str hz.2 (by omega) (nm_okC hz.1)).mono (by omega) (Nat.le_refl _) (Nat.zero_le p)
theorem Bs.i (h : Bs S q m) {i : Int} (h1 : -(10 ^ 18) ≤ i) (h2 : i ≤ 10 ^ 18) (p : Nat) : Bd S q m 43 1 p (.int i) :=
  (bd_int (Nat.le_trans (show i.natAbs ≤ 10 ^ 18 by omega) h.m1) h.m2).mono (Nat.le_refl _) (Nat.le_refl _) (Nat.zero_le p)
def tX : Nat → Nat
  | 0 => 0
  | n + 1 => 3 * tX n + 200
def sX : Nat → Nat
  | 0 => 0
  | n + 1 => 3 * sX n + 20
theorem Cx.bd {zs sc : List Str} (h : Bs S q m) (g : Nz S zs sc) {b : Bool} {n : Nat} {x : PyData} (hx : Cx zs sc b n x) : Bd S q m (tX n) (sX n) (2 * n) x := by
  induction hx with
  | int _ n i h1 h2 =>
    have ht : tX (n + 1) = 3 * tX n + 200 := rfl
    have hs : sX (n + 1) = 3 * sX n + 20 := rfl
    exact (((h.w (w := "int") (by decide) (2 * n)).two ((h.i h1 h2 _).two .nil)).tup).mono (by omega) (by omega) (by omega)
  | let_ _ n i g9 _ _ => exact absurd g9 g.plus
  | key n =>
    have ht : tX (n + 1) = 3 * tX n + 200 := rfl
    have hs : sX (n + 1) = 3 * sX n + 20 := rfl
    exact (((h.w (w := "key") (by decide) (2 * n)).two .nil).tup).mono (by omega) (by omega) (by omega)
  | var _ n z h1 =>
    have ht : tX (n + 1) = 3 * tX n + 200 := rfl
    have hs : sX (n + 1) = 3 * sX n + 20 := rfl
    exact (((h.w (w := "var") (by decide) (2 * n)).two ((h.n (g.sc z h1) _).two .nil)).tup).mono (by omega) (by omega) (by omega)
  | cell _ n t v x h1 h2 _ ih =>
    have ht : tX (n + 1) = 3 * tX n + 200 := rfl
    have hs : sX (n + 1) = 3 * sX n + 20 := rfl
    exact (((h.w (w := "cell") (by decide) _).two ((h.n (g.nm t h1.1 h1.2) _).two (ih.two ((h.n (g.nm v h2.1 h2.2) _).two .nil)))).tup).mono (by omega) (by omega) (by omega)
  | op _ n o x y h1 _ _ ih1 ih2 =>
    have ht : tX (n + 1) = 3 * tX n + 200 := rfl
    have hs : sX (n + 1) = 3 * sX n + 20 := rfl
    have hb : o ∈ baseS := by
      simp only [ops5, List.mem_cons, List.not_mem_nil, or_false] at h1
      rcases h1 with rfl | rfl | rfl | rfl | rfl <;> decide
    exact (((h.w hb _).two (ih1.two (ih2.two .nil))).tup).mono (by omega) (by omega) (by omega)
  | at_ _ n x y _ _ ih1 ih2 =>
    have ht : tX (n + 1) = 3 * tX n + 200 := rfl
    have hs : sX (n + 1) = 3 * sX n + 20 := rfl
    exact (((h.w (w := "at") (by decide) _).two (ih1.two (ih2.two .nil))).tup).mono (by omega) (by omega) (by omega)
  | iff _ n x y z _ _ _ ih1 ih2 ih3 =>
    have ht : tX (n + 1) = 3 * tX n + 200 := rfl
    have hs : sX (n + 1) = 3 * sX n + 20 := rfl
    exact (((h.w (w := "if") (by decide) _).two (ih1.two (ih2.two (ih3.two .nil)))).tup).mono (by omega) (by omega) (by omega)
  | agg _ n o t p xs vs ds hh h0 h1 h2 h3 h4 h5 h6 h7 _ ih2 ih3 ih4 =>
    obtain rfl : xs = [] := List.length_eq_zero_iff.mp (Nat.le_zero.mp h3)
    have ht : tX (n + 1) = 3 * tX n + 200 := rfl
    have hs : sX (n + 1) = 3 * sX n + 20 := rfl
    have hb : o ∈ baseS := by
      simp only [aggk, List.mem_cons, List.not_mem_nil, or_false, Prod.mk.injEq] at h1
      rcases h1 with ⟨rfl, _⟩ | ⟨rfl, _⟩ | ⟨rfl, _⟩ | ⟨rfl, _⟩ <;> decide
    have h11 : vs.length + ds.length ≤ 2 := by
      simp only [aggk, List.mem_cons, List.not_mem_nil, or_false, Prod.mk.injEq] at h1
      omega
    have few : ∀ l : List PyData, (∀ x, x ∈ l → Bd S q m (tX n) (sX n) (2 * n) x) → Bds S q m (l.length * (tX n + 2)) (l.length * sX n) (2 * n) l := fun l => by
      induction l with
      | nil => intro _; rw [List.length_nil, Nat.zero_mul, Nat.zero_mul]; exact .nil
      | cons a l ih =>
        intro hl
        have := (hl a List.mem_cons_self).two (ih fun x hx => hl x (List.mem_cons_of_mem _ hx))
        rw [List.length_cons, Nat.add_mul, Nat.add_mul, Nat.one_mul, Nat.one_mul]
        exact this.mono (by omega) (by omega) (Nat.le_refl _)
    have nt := h.n (g.nm t h2.1 h2.2)
    have key2 : Bd S q m 12 2 1 (.tuple [.str "key"]) := (((h.w (w := "key") (by decide) 0).two .nil).tup).mono (by omega) (by omega) (Nat.le_refl _)
    have row : Bd S q m 60 8 2 (rowX t) := (((h.w (w := "cell") (by decide) 1).two ((nt _).two (key2.two ((h.w (w := "in") (by decide) _).two .nil)))).tup).mono (by omega) (by omega) (Nat.le_refl _)
    have ex : Bd S q m 3 1 1 (.tuple []) := (Bds.nil (S := S) (q := q) (m := m) (p := 0)).tup
    have fv := few vs ih3
    have fd := few ds ih4
    have hm1 : (vs.length + ds.length) * (tX n + 2) ≤ 2 * (tX n + 2) := Nat.mul_le_mul_right _ h11
    have hm2 : (vs.length + ds.length) * sX n ≤ 2 * sX n := Nat.mul_le_mul_right _ h11
    rw [Nat.add_mul] at hm1 hm2
    exact (((h.w hb (2 * n)).two ((nt _).two ((ex.mono (Nat.le_refl _) (Nat.le_refl _) (by omega)).two ((row.mono (Nat.le_refl _) (Nat.le_refl _) (by omega)).two (ih2.two (fv.app fd)))))).tup).mono (by omega) (by omega) (by omega)
theorem tX5 : tX 5 = 24200 := by decide
theorem sX5 : sX 5 = 2420 := by decide
/-- a statement of the generator -/
structure Wz (S ts cs : List Str) : Prop where
  t : ∀ z, z ∈ ts → Nm z ∧ z ∈ S
  c : ∀ z, z ∈ cs → Nm z ∧ z ∈ S
  i : ("in" : Str) ∈ S
theorem nm_plus {z : Str} (h : Nm z) : z ≠ "+" := fun e => by
  have := (h.2.2.1 43 (by rw [e]; decide)).1
  omega
theorem Wz.nz {ts cs sc : List Str} (h : Wz S ts cs) (hs : ∀ z, z ∈ sc → Nm z ∧ z ∈ S) (l : Int) : Nz S (nmx l ts cs) sc := by
  have key : ∀ z, z ∈ nmx l ts cs → z = "#" ∨ (Nm z ∧ z ∈ S) := fun z hz => by
    rcases List.mem_cons.mp hz with rfl | hz
    · exact .inr ⟨in_nm, h.i⟩
    rcases List.mem_append.mp hz with hz | hz
    · exact .inr (h.t z hz)
    rcases List.mem_append.mp hz with hz | hz
    · exact .inr (h.c z hz)
    · unfold mark at hz
      split at hz
      · exact .inl (List.mem_singleton.mp hz)
      · exact (nomatch hz)
  refine ⟨fun z hz hn => (key z hz).resolve_left hn, hs, List.mem_cons_self, fun hp => ?_⟩
  rcases key _ hp with e | e
  · exact absurd e (by decide)
  · exact nm_plus e.1 rfl
theorem no_hash {ts cs : List Str} (h : Wz S ts cs) : ("#" : Str) ∉ nmx 2 ts cs := fun hz => by
  rcases List.mem_cons.mp hz with e | hz
  · exact absurd e (by decide)
  rcases List.mem_append.mp hz with hz | hz
  · exact nm_hash (h.t _ hz).1 rfl
  rcases List.mem_append.mp hz with hz | hz
  · exact nm_hash (h.c _ hz).1 rfl
  · have : mark 2 = [] := by decide
    rw [this] at hz
    exact (nomatch hz)
theorem StX.ok {ts cs sc : List Str} {x : PyData} (w : Wz S ts cs) (hs : ∀ z, z ∈ sc → Nm z ∧ z ∈ S) (hx : StX ts cs sc x) : isSt x = true ∧ mayF x sc = true := by
  have key : ∀ {y : PyData} {n : Nat}, Cx (nmx 0 ts cs) sc false n y → fitsS "keyless" y = true ∧ allX (varQ fun z => decide (z ∈ sc)) y = true := fun {y n} hy => by
    have g := w.nz hs 0
    have e : CxE (nmx 0 ts cs) sc y := ⟨_, _, hy⟩
    refine ⟨?_, CxE.vars g e⟩
    unfold fitsS
    rw [if_neg (by decide), if_neg (by decide), CxE.isx g e, CxE.plain g e, Cx.noKey g _ (Nat.le_refl _) hy]
    rfl
  have row : ∀ {y : PyData} {n : Nat}, Cx (nmx 2 ts cs) sc true n y → fitsS "row" y = true ∧ allX (varQ fun z => decide (z ∈ sc)) y = true := fun {y n} hy => by
    have g := w.nz hs 2
    have e : CxE (nmx 2 ts cs) sc y := ⟨_, _, hy⟩
    refine ⟨?_, CxE.vars g e⟩
    unfold fitsS
    rw [if_neg (by decide), if_pos rfl, CxE.isx g e, CxE.plain g e, CxE.simple g (no_hash w) e]
    rfl
  have nm : ∀ {z : Str}, Nm z → fitsS "name" (.str z) = true := fun {z} h => by
    unfold fitsS
    rw [if_pos rfl]
    exact isN_nm h
  have zn : ∀ {z : Str}, (z ∈ cs ∨ z = "in") → Nm z := fun {z} h => by
    rcases h with h | rfl
    · exact (w.c z h).1
    · exact in_nm
  cases hx with
  | let_ z x h1 h2 h3 =>
    obtain ⟨k1, k2⟩ := key h3
    refine ⟨?_, ?_⟩
    · rw [formS_some (show lookS "let" = some (["name", "keyless"] : List Str) by decide)]
      show (fitsS "name" (.str z) && (fitsS "keyless" x && true)) = true
      rw [nm h1, k1]
      rfl
    · unfold mayF
      rw [kidsS_some (show lookS "let" = some (["name", "keyless"] : List Str) by decide)]
      show (!([z].any fun z => decide (z ∈ sc)) && [x].all (allX (varQ fun z => decide (z ∈ sc)))) = true
      rw [List.any_cons, List.any_nil, List.all_cons, List.all_nil, k2, decide_eq_false h2]
      rfl
  | need x h3 =>
    obtain ⟨k1, k2⟩ := key (.op false 5 "<" (.tuple [.str "int", .int (0 - 3)]) x (by decide) (.int false 4 (0 - 3) (by decide) (by decide)) h3)
    refine ⟨?_, ?_⟩
    · rw [formS_some (show lookS "need" = some (["keyless"] : List Str) by decide)]
      show (fitsS "keyless" _ && true) = true
      rw [k1]
      rfl
    · unfold mayF
      rw [kidsS_some (show lookS "need" = some (["keyless"] : List Str) by decide), letsL_no (by decide)]
      show (!(([] : List Str).any fun z => decide (z ∈ sc)) && [_].all (allX (varQ fun z => decide (z ∈ sc)))) = true
      rw [List.all_cons, List.all_nil, k2]
      rfl
  | tell x h3 =>
    obtain ⟨k1, k2⟩ := key h3
    refine ⟨?_, ?_⟩
    · rw [formS_some (show lookS "tell" = some (["keyless"] : List Str) by decide)]
      show (fitsS "keyless" _ && true) = true
      rw [k1]
      rfl
    · unfold mayF
      rw [kidsS_some (show lookS "tell" = some (["keyless"] : List Str) by decide), letsL_no (by decide)]
      show (!(([] : List Str).any fun z => decide (z ∈ sc)) && [_].all (allX (varQ fun z => decide (z ∈ sc)))) = true
      rw [List.all_cons, List.all_nil, k2]
      rfl
  | each t z x y h1 h2 h3 h4 =>
    obtain ⟨k1, k2⟩ := row h3
    obtain ⟨l1, l2⟩ := row h4
    refine ⟨?_, ?_⟩
    · rw [formS_some (show lookS "each" = some (["name", "row", "name", "row"] : List Str) by decide)]
      show (fitsS "name" (.str t) && (fitsS "row" x && (fitsS "name" (.str z) && (fitsS "row" y && true)))) = true
      rw [nm (w.t t h1).1, k1, nm (w.c z h2).1, l1]
      rfl
    · unfold mayF
      rw [kidsS_some (show lookS "each" = some (["name", "row", "name", "row"] : List Str) by decide), letsL_no (by decide)]
      show (!(([] : List Str).any fun z => decide (z ∈ sc)) && [x, y].all (allX (varQ fun z => decide (z ∈ sc)))) = true
      rw [List.all_cons, List.all_cons, List.all_nil, k2, l2]
      rfl
  | put t z x y h1 h2 h3 h4 =>
    obtain ⟨k1, k2⟩ := key h3
    obtain ⟨l1, l2⟩ := key h4
    refine ⟨?_, ?_⟩
    · rw [formS_some (show lookS "put" = some (["name", "keyless", "name", "keyless"] : List Str) by decide)]
      show (fitsS "name" (.str t) && (fitsS "keyless" x && (fitsS "name" (.str z) && (fitsS "keyless" y && true)))) = true
      rw [nm (w.t t h1).1, k1, nm (zn h2), l1]
      rfl
    · unfold mayF
      rw [kidsS_some (show lookS "put" = some (["name", "keyless", "name", "keyless"] : List Str) by decide), letsL_no (by decide)]
      show (!(([] : List Str).any fun z => decide (z ∈ sc)) && [x, y].all (allX (varQ fun z => decide (z ∈ sc)))) = true
      rw [List.all_cons, List.all_cons, List.all_nil, k2, l2]
      rfl
end
end L9

namespace L9
open PySem PySem.Spec PyProof.Rows L2 GR AD RZ WX ZE TX RVT
theorem letsL_nm (x : PyData) : letsL x = (letNm x).toList := by
  unfold letsL letNm
  split
  · rename_i w z t
    show (if w = "let" then [z] else []) = (if w = "let" then some z else none).toList
    split <;> rfl
  · rename_i h
    first
      | rfl
      | (split
         · exact (h _ _ _ rfl).elim
         · rfl)
theorem letsD_flat : ∀ ds : List PyData, ds.flatMap letsL = letsD ds
  | [] => rfl
  | x :: ds => by
    have ih := letsD_flat ds
    unfold letsD at ih ⊢
    rw [List.flatMap_cons, List.filterMap_cons, ih, letsL_nm]
    cases letNm x <;> rfl
theorem goT_append : ∀ (a b : List PyData) (kn : List Str), goT kn (a ++ b) = (goT kn a && goT (kn ++ a.flatMap letsL) b)
  | [], b, kn => by
    rw [List.nil_append, List.flatMap_nil, List.append_nil, goT, Bool.true_and]
  | x :: a, b, kn => by
    rw [List.cons_append, goT, goT, goT_append a b, List.flatMap_cons, List.append_assoc, Bool.and_assoc, Bool.and_assoc]
section
variable {S ts cs : List Str}
theorem StX.letNm {sc : List Str} {x : PyData} (h : StX ts cs sc x) {z : Str} (e : L9.letNm x = some z) : Nm z := by
  cases h with
  | let_ z' x h1 h2 h3 =>
    cases (show some z' = some z from e)
    exact h1
  | need x h => rw [letNm_no (by decide)] at e; cases e
  | tell x h => rw [letNm_no (by decide)] at e; cases e
  | each t z x y h1 h2 h3 h4 => rw [letNm_no (by decide)] at e; cases e
  | put t z x y h1 h2 h3 h4 => rw [letNm_no (by decide)] at e; cases e
theorem Chain.nm {ds : List PyData} (h : Chain ts cs ds) : ∀ z, z ∈ letsD ds → Nm z := by
  induction h with
  | nil => exact fun z hz => (nomatch hz)
  | snoc ds x _ hx ih =>
    intro z hz
    rw [letsD_append] at hz
    rcases List.mem_append.mp hz with hz | hz
    · exact ih z hz
    · unfold letsD at hz
      rw [List.filterMap_cons] at hz
      cases e : L9.letNm x with
      | none => rw [e] at hz; exact (nomatch hz)
      | some y =>
        rw [e] at hz
        rw [List.mem_singleton.mp hz]
        exact hx.letNm e
theorem Chain.ok (w : Wz S ts cs) {ds : List PyData} (h : Chain ts cs ds) (hl : ∀ z, z ∈ letsD ds → z ∈ S) : goT [] ds = true := by
  induction h with
  | nil => rfl
  | snoc ds x hc hx ih =>
    have hl' : ∀ z, z ∈ letsD ds → z ∈ S := fun z hz => hl z (by rw [letsD_append]; exact List.mem_append_left _ hz)
    obtain ⟨h1, h2⟩ := hx.ok w fun z hz => ⟨hc.nm z hz, hl' z hz⟩
    rw [goT_append, ih hl', letsD_flat, List.nil_append, goT, goT, h1, h2]
    rfl
theorem StX.bd {q m : Nat} (b : Bs S q m) (w : Wz S ts cs) {sc : List Str} (hs : ∀ z, z ∈ sc → Nm z ∧ z ∈ S) {x : PyData} (hx : StX ts cs sc x) (hl : ∀ z, L9.letNm x = some z → z ∈ S) : Bd S q m 73000 7300 13 x := by
  have e6 : tX 6 = 72800 := by decide
  have f6 : sX 6 = 7280 := by decide
  have key : ∀ {l : Int} {b' : Bool} {n : Nat} {y : PyData}, Cx (nmx l ts cs) sc b' n y → n ≤ 5 → Bd S q m 24200 2420 12 y := fun {l b' n y} hy hn =>
    ((hy.mono hn).bd b (w.nz hs l)).mono (Nat.le_of_eq tX5) (Nat.le_of_eq sX5) (by omega)
  cases hx with
  | let_ z x h1 h2 h3 => exact (((b.w (w := "let") (by decide) _).two ((b.n ⟨h1, hl z rfl⟩ _).two ((key h3 (by omega)).two .nil))).tup).mono (by omega) (by omega) (by omega)
  | need x h3 =>
    have := (Cx.op false 5 "<" (.tuple [.str "int", .int (0 - 3)]) x (by decide) (.int false 4 (0 - 3) (by decide) (by decide)) h3).bd b (w.nz hs 0)
    rw [e6, f6] at this
    exact (((b.w (w := "need") (by decide) _).two (this.two .nil)).tup).mono (by omega) (by omega) (by omega)
  | tell x h3 => exact (((b.w (w := "tell") (by decide) _).two ((key h3 (by omega)).two .nil)).tup).mono (by omega) (by omega) (by omega)
  | each t z x y h1 h2 h3 h4 => exact (((b.w (w := "each") (by decide) _).two ((b.n (w.t t h1) _).two ((key h3 (by omega)).two ((b.n (w.c z h2) _).two ((key h4 (by omega)).two .nil))))).tup).mono (by omega) (by omega) (by omega)
  | put t z x y h1 h2 h3 h4 =>
    have hz : Nm z ∧ z ∈ S := by
      rcases h2 with h2 | rfl
      · exact w.c z h2
      · exact ⟨in_nm, w.i⟩
    exact (((b.w (w := "put") (by decide) _).two ((b.n (w.t t h1) _).two ((key h3 (by omega)).two ((b.n hz _).two ((key h4 (by omega)).two .nil))))).tup).mono (by omega) (by omega) (by omega)
theorem Chain.bd {q m : Nat} (b : Bs S q m) (w : Wz S ts cs) {ds : List PyData} (h : Chain ts cs ds) (hl : ∀ z, z ∈ letsD ds → z ∈ S) : ∀ x, x ∈ ds → Bd S q m 73000 7300 13 x := by
  induction h with
  | nil => exact fun x hx => (nomatch hx)
  | snoc ds x hc hx ih =>
    have hl' : ∀ z, z ∈ letsD ds → z ∈ S := fun z hz => hl z (by rw [letsD_append]; exact List.mem_append_left _ hz)
    intro y hy
    rcases List.mem_append.mp hy with hy | hy
    · exact ih hl' y hy
    · rw [List.mem_singleton.mp hy]
      refine hx.bd b w (fun z hz => ⟨hc.nm z hz, hl' z hz⟩) fun z e => hl z ?_
      rw [letsD_append]
      refine List.mem_append_right _ ?_
      unfold letsD
      rw [List.filterMap_cons, e]
      exact List.mem_singleton.mpr rfl
end
/-! ### the log that is made -/
end L9

namespace L9
open PySem PySem.Spec PyProof.Rows L2 GR AD RZ WX ZE TX RVT
abbrev sizK : List (Key × V) := [(.inr "cell", .int 4), (.inr "+", .int 3), (.inr "-", .int 3), (.inr "*", .int 3), (.inr "<", .int 3), (.inr "=", .int 3), (.inr "if", .int 4), (.inr "at", .int 3), (.inr "count", .int 5), (.inr "sum", .int 6), (.inr "most", .int 7)]
abbrev sizD : List (Key × V) := putK (mergeK [] sizK) (.inr "first") (.int 6)
abbrev opW : List Str := ["+", "-", "*", "<", "=", "if", "at"]
abbrev W12 : List Str := ["cell", "+", "-", "*", "<", "=", "if", "at", "count", "sum", "most", "first"]
theorem merge_has : ∀ (more acc : List (Key × V)) (k : Key), (valV (mergeK acc more) k).isSome = ((valV acc k).isSome || more.any fun q => decide (q.1 = k))
  | [], acc, k => by rw [List.any_nil, Bool.or_false]; rfl
  | q :: more, acc, k => by
    show (valV (mergeK (putK acc q.1 q.2) more) k).isSome = _
    rw [merge_has more, List.any_cons, ← Bool.or_assoc]
    congr 1
    rw [valV_put]
    by_cases c : q.1 = k
    · rw [decide_eq_true c, Bool.or_true, if_pos c.symm]
      rfl
    · rw [decide_eq_false c, Bool.or_false, if_neg (fun z => c z.symm)]
theorem siz_ok {z : Str} (h : z ∈ W12) : ∃ fs, look z = some fs ∧ valV sizD (.inr z) = some (.int ((fs.length : Int) + 1)) := by
  simp only [W12, List.mem_cons, List.not_mem_nil, or_false] at h
  rcases h with rfl | rfl | rfl | rfl | rfl | rfl | rfl | rfl | rfl | rfl | rfl | rfl
  · exact ⟨["name", "free", "name"], by decide, rfl⟩
  · exact ⟨["free", "free"], by decide, rfl⟩
  · exact ⟨["free", "free"], by decide, rfl⟩
  · exact ⟨["free", "free"], by decide, rfl⟩
  · exact ⟨["free", "free"], by decide, rfl⟩
  · exact ⟨["free", "free"], by decide, rfl⟩
  · exact ⟨["free", "free", "free"], by decide, rfl⟩
  · exact ⟨["free", "bound"], by decide, rfl⟩
  · exact ⟨["name", "extra", "bound", "bound"], by decide, rfl⟩
  · exact ⟨["name", "extra", "bound", "bound", "bound"], by decide, rfl⟩
  · exact ⟨["name", "extra", "bound", "bound", "bound", "free"], by decide, rfl⟩
  · exact ⟨["name", "extra", "bound", "bound", "free"], by decide, rfl⟩
theorem siz_no {z : Str} (h : z ∉ W12) : valV sizD (.inr z) = none := by
  have h1 : z ≠ "first" := fun e => h (e ▸ by decide)
  have h2 := merge_has sizK [] (.inr z)
  have e : (sizK.any fun q => decide (q.1 = (.inr z : Key))) = false := by
    rw [List.any_eq_false]
    intro q hq
    rw [decide_eq_true_eq]
    intro e
    simp only [List.mem_cons, List.not_mem_nil, or_false] at hq
    rcases hq with rfl | rfl | rfl | rfl | rfl | rfl | rfl | rfl | rfl | rfl | rfl <;> (injection e with e; exact h (e ▸ by decide))
  rw [e] at h2
  rw [valV_put, if_neg (fun e => h1 (by injection e))]
  cases hv : valV (mergeK [] sizK) (.inr z) with
  | none => rfl
  | some x => rw [hv] at h2; cases h2
theorem look_no9 {z : Str} (h : z ∉ W12) (h2 : z ∉ (["int", "var", "key", "let"] : List Str)) : look z = none := by
  unfold look
  rw [Option.map_eq_none_iff, List.find?_eq_none]
  intro p hp
  rw [decide_eq_true_eq]
  rintro rfl
  have : p.1 ∈ table.map (·.1) := List.mem_map.mpr ⟨p, hp, rfl⟩
  simp only [table, W12, List.map_cons, List.map_nil, List.mem_cons, List.not_mem_nil, or_false, not_or] at this h h2
  rcases this with h | h | h | h | h | h | h | h | h | h | h | h | h | h | h | h <;> simp_all
theorem okX_out {z : Str} {r : List PyData} (h : z ∉ W12) (h2 : z ∉ (["int", "var", "key"] : List Str)) : okX (.tuple (.str z :: r)) = false := by
  by_cases e : z = "let"
  · subst e
    rw [okX_some (fs := ["position"]) (by decide)]
    have : plainP (.tuple (.str "let" :: r)) = false := by
      rw [plain_no (by decide)]
      decide
    rw [this, Bool.false_and, Bool.and_false]
  · refine okX_none (look_no9 h fun hz => ?_)
    simp only [List.mem_cons, List.not_mem_nil, or_false] at hz h2
    rcases hz with hz | hz | hz | hz
    · exact h2 (.inl hz)
    · exact h2 (.inr (.inl hz))
    · exact h2 (.inr (.inr hz))
    · exact e hz
theorem okX_len {z : Str} {fs : List Str} {r : List PyData} (lk : look z = some fs) (h : fs.length ≠ r.length) : okX (.tuple (.str z :: r)) = false := by
  rw [okX_some lk, fitsAll_len h, Bool.false_and]
/-- the signs of what stands behind an operator -/
def opF (z : Str) (n : Nat) : List Bool := (List.range n).map fun (k : Nat) => decide (z = "at") && decide ((k : Int) = 1)
theorem from_rest {z : Str} (h : z ∈ opW) {fs : List Str} (lk : look z = some fs) {r : List PyData} (hr : fs.length = r.length) : From (.tuple (.str z :: r)) true false (r.zip (opF z r.length)) := by
  simp only [opW, List.mem_cons, List.not_mem_nil, or_false] at h
  have two : fs.length = 2 → ∃ x y, r = [x, y] := fun e => by
    match r, hr.symm.trans e with
    | [x, y], _ => exact ⟨x, y, rfl⟩
  have three : fs.length = 3 → ∃ x y u, r = [x, y, u] := fun e => by
    match r, hr.symm.trans e with
    | [x, y, u], _ => exact ⟨x, y, u, rfl⟩
  rcases h with rfl | rfl | rfl | rfl | rfl | rfl | rfl
  · cases (show some (["free", "free"] : List Str) = some fs from lk ▸ by decide); obtain ⟨x, y, rfl⟩ := two rfl; have := from_op (w := "+") (by decide) x y; exact this
  · cases (show some (["free", "free"] : List Str) = some fs from lk ▸ by decide); obtain ⟨x, y, rfl⟩ := two rfl; have := from_op (w := "-") (by decide) x y; exact this
  · cases (show some (["free", "free"] : List Str) = some fs from lk ▸ by decide); obtain ⟨x, y, rfl⟩ := two rfl; have := from_op (w := "*") (by decide) x y; exact this
  · cases (show some (["free", "free"] : List Str) = some fs from lk ▸ by decide); obtain ⟨x, y, rfl⟩ := two rfl; have := from_op (w := "<") (by decide) x y; exact this
  · cases (show some (["free", "free"] : List Str) = some fs from lk ▸ by decide); obtain ⟨x, y, rfl⟩ := two rfl; have := from_op (w := "=") (by decide) x y; exact this
  · cases (show some (["free", "free", "free"] : List Str) = some fs from lk ▸ by decide); obtain ⟨x, y, u, rfl⟩ := three rfl; exact from_if x y u
  · cases (show some (["free", "bound"] : List Str) = some fs from lk ▸ by decide); obtain ⟨x, y, rfl⟩ := two rfl; exact from_at x y
/-- an aggregate's further parts: their signs by the written bounds -/
abbrev bndK : List (Key × V) := [(.inr "count", .int 1), (.inr "sum", .int 2), (.inr "most", .int 2), (.inr "first", .int 1)]
theorem agg_fl {z : Str} (h : z ∈ aggW) : ∃ fl b, (z, fl) ∈ aggF ∧ valV (mergeK [] bndK) (.inr z) = some (.int b) ∧ fl = (List.range fl.length).map fun (k : Nat) => decide ((k : Int) < b) := by
  simp only [List.mem_cons, List.not_mem_nil, or_false] at h
  rcases h with rfl | rfl | rfl | rfl
  · exact ⟨[true], 1, by decide, rfl, by decide⟩
  · exact ⟨[true, true], 2, by decide, rfl, by decide⟩
  · exact ⟨[true, true, false], 2, by decide, rfl, by decide⟩
  · exact ⟨[true, false], 1, by decide, rfl, by decide⟩
theorem cut_1 {x : V} {r : List V} : cutV (x :: r) (some 1) none = r := by
  unfold cutV
  rw [HT.sIx_none, show HT.sIx (x :: r).length 0 (some 1) = min 1 (x :: r).length from HT.sIx_nat _ _ 1, List.length_cons, show min 1 (r.length + 1) = 1 by omega, List.drop_succ_cons, List.drop_zero, show r.length + 1 - 1 = r.length by omega, List.take_length]
theorem no_1 {x : V} {r : List V} : ¬ (HT.sIx (x :: r).length 0 (some 1) = 0 ∧ HT.sIx (x :: r).length (x :: r).length none = (x :: r).length) := fun h => by
  have := h.1
  rw [show (some (1 : Int)) = some ((1 : Nat) : Int) from rfl, HT.sIx_nat, List.length_cons] at this
  omega
theorem cut_4 {x y z u : V} {r : List V} : cutV (x :: y :: z :: u :: r) (some 4) none = r := by
  unfold cutV
  rw [HT.sIx_none, show HT.sIx (x :: y :: z :: u :: r).length 0 (some 4) = min 4 (x :: y :: z :: u :: r).length from HT.sIx_nat _ _ 4, List.length_cons, List.length_cons, List.length_cons, List.length_cons, show min 4 (r.length + 1 + 1 + 1 + 1) = 4 by omega]
  show r.take (r.length + 4 - 4) = r
  rw [Nat.add_sub_cancel, List.take_length]
theorem no_4 {x y z u : V} {r : List V} : ¬ (HT.sIx (x :: y :: z :: u :: r).length 0 (some 4) = 0 ∧ HT.sIx (x :: y :: z :: u :: r).length (x :: y :: z :: u :: r).length none = (x :: y :: z :: u :: r).length) := fun h => by
  have := h.1
  rw [show (some (4 : Int)) = some ((4 : Nat) : Int) from rfl, HT.sIx_nat, List.length_cons, List.length_cons, List.length_cons, List.length_cons] at this
  omega
theorem zip_fst : ∀ (r : List PyData) (fl : List Bool), fl.length = r.length → (r.zip fl).map (·.1) = r
  | [], [], _ => rfl
  | [], _ :: _, h => by cases h
  | _ :: _, [], h => by cases h
  | x :: r, b :: fl, h => by rw [List.zip_cons_cons, List.map_cons, zip_fst r fl (by simpa using h)]
theorem zip_snd : ∀ (r : List PyData) (fl : List Bool), fl.length = r.length → (r.zip fl).map (fun q => V.bl q.2) = fl.map V.bl
  | [], [], _ => rfl
  | [], _ :: _, h => by cases h
  | _ :: _, [], h => by cases h
  | x :: r, b :: fl, h => by rw [List.zip_cons_cons, List.map_cons, List.map_cons, zip_snd r fl (by simpa using h)]
theorem range_snoc {α : Type} {f : Nat → α} {j : Nat} : (List.range (j + 1)).map f = (List.range j).map f ++ [f j] := by
  rw [List.range_succ, List.map_append, List.map_cons, List.map_nil]
end L9

namespace L9
open PySem PySem.Spec PyProof.Rows L2 GR AD RZ WX ZE TX RVT
section
variable {P : Program} {w : World} {K : PySem.W.Frag} {mg : Str → Option Value} {base : Heap}
abbrev s_law_inner : Stmt := topS 53
abbrev N_inn : List Str := ["_law_thing", "_law_word", "_law_sizes", "_law_bound", "_law_k"]
theorem sc_law_inner : FnScope N_inn ["_law_thing"] (defScope s_law_inner) := ⟨rfl, rfl, rfl, by decide +kernel, rfl, by decide +kernel, by decide +kernel⟩
/-- the parts and their signs, or None -/
def sp_inner (K : PySem.W.Frag) : Sp := fun vs H Q _ => ∃ (a : Addr) (z : Str) (us : List V) (r : List PyData) (ok : Addr → Prop), vs = [.ref a] ∧ SqT K H a (.str z :: us) ∧ DdAll K ok H us r ∧ (∀ b, ok b → b ≠ sysModules) ∧ shBs r = true ∧ us.length ≤ 4000000 ∧ z ∉ (["int", "var", "key"] : List Str) ∧
  (okX (.tuple (.str z :: r)) = false → ∀ H', Same H H' → Q .non H') ∧
  (∀ ps : List (PyData × Bool), From (.tuple (.str z :: r)) true (decide (z ∈ aggW)) ps → (ps.map (·.1)).Sublist r → ∀ H' p l1 l2 ws, Same H H' → H' p = some (.tup [.ref l1, .ref l2]) → H' l1 = some (.lst ws) → H' l2 = some (.lst (ps.map fun q => V.bl q.2)) → DdAll K ok H' ws (ps.map (·.1)) → Q (.ref p) H')
theorem ok_inner {f fn : Addr} {fd dn : FuncData} {k : Nat} (F : Fun K "_law_inner" "_law_inner" s_law_inner f fd) (Gn : FnOk P w K mg base CX0 k fn dn ["_law_thing"] (sp_isS K isN)) (gn : mg "_law_is_name" = some (.ref fn)) (Kn : PySem.W.keepIn K (.ref fn) = true) (bn : Binds K dn ["_law_thing"] [])
    (mlen : mg "len" = none) (mlist : mg "list" = none) (mrange : mg "range" = none) : FnOk P w K mg base CX0 (k + 1) f fd ["_law_thing"] (sp_inner K) := by
  have nd := sc_law_inner.nd
  refine F.ok sc_law_inner (fun vs H Q E h => ?_) (fun cdv A outer s H vs Q E hr h => ?_)
  · obtain ⟨a, z, us, r, ok, rfl, _⟩ := h
    rfl
  obtain ⟨a, z, us, r, ok, rfl, hS, hd, hok, hsh, hlen, hz, q0, q1⟩ := h
  have hu := hr.units
  have hu1 := hu_of hr
  have hu9 : (A.deeper (envOfC "_law_inner" (defScope s_law_inner) s.heap.objs.size f cdv)).units + 9 < cLine := by omega
  refine ⟨_, (pss_cons (ps_set (i := 1) nd rfl (.inr rfl) (pe_ix ix_tup (pv 0) pe_int (fun _ _ => rfl)))
      (pss_cons (ps_set (i := 2) nd rfl (.inl rfl) (pe_disp (pps_cons pe_str pe_int (pps_cons pe_str pe_int (pps_cons pe_str pe_int (pps_cons pe_str pe_int (pps_cons pe_str pe_int (pps_cons pe_str pe_int (pps_cons pe_str pe_int (pps_cons pe_str pe_int (pps_cons pe_str pe_int (pps_cons pe_str pe_int (pps_cons pe_str pe_int pps_nil))))))))))) (by decide) rfl (by simp) (by decide)))
      (pss_cons (ps_asg pe_int (pg_sub (pv 2) pe_str (set_dict hu1)))
      (pss_cons (ps_if (pt_cmpR op_ne (pe_callB call_len_seq (by rfl) mlen PySem.boot_len (pa_cons (pv 0) pa_nil)) (pe_dget2 hu1 (pv 2) (pv 1) pe_int ⟨by rfl, by rfl, by rfl, by rfl⟩) (nomark _))
      (pss_one (ps_ret pe_non))
      pss_nil)
      (pss_cons (ps_if (pt_cmpR op_eq (pv 1) pe_str (nomark _))
      (pss_one (ps_ret (pe_ifExp (PW.pt (pw_and (pt_val (pe_call Gn hr (by rfl) gn Kn bn .nil pass0 (pa_cons (pe_ix ix_tup (pv 0) pe_int (fun _ _ => rfl)) pa_nil))) (pw_and1 (pt_val (pe_call Gn hr (by rfl) gn Kn bn .nil pass0 (pa_cons (pe_ix ix_tup (pv 0) pe_int (fun _ _ => rfl)) pa_nil)))))) (pe_tup (pa_cons (pe_lst (pa_cons (pe_ix ix_tup (pv 0) pe_int (fun _ _ => rfl)) pa_nil)) (pa_cons (pe_lst (pa_cons pe_bl pa_nil)) pa_nil))) pe_non)))
      pss_nil)
      (pss_cons (ps_if (pt_cmpR op_in_seq (pv 1) (pe_tup (pa_cons pe_str (pa_cons pe_str (pa_cons pe_str (pa_cons pe_str pa_nil))))) (by rfl))
      (pss_cons (ps_if (PW.pt (pw_or (pt_not (pt_val (pe_call Gn hr (by rfl) gn Kn bn .nil pass0 (pa_cons (pe_ix ix_tup (pv 0) pe_int (fun _ _ => rfl)) pa_nil)))) (pw_or (pt_cmpR (DN.op_neT hu9) (pe_ix ix_tup (pv 0) pe_int (fun _ _ => rfl)) (pe_tup pa_nil) (nomark _)) (pw_or1 (pt_cmpR (DN.op_neT hu9) (pe_ix ix_tup (pv 0) pe_int (fun _ _ => rfl)) (pe_tup (pa_cons pe_str (pa_cons (pe_ix ix_tup (pv 0) pe_int (fun _ _ => rfl)) (pa_cons (pe_tup (pa_cons pe_str pa_nil)) (pa_cons pe_str pa_nil))))) (nomark _))))))
        (pss_one (ps_ret pe_non))
        pss_nil)
        (pss_cons (ps_set (i := 3) nd rfl (.inr rfl) (pe_dget hu1 (pe_disp (pps_cons pe_str pe_int (pps_cons pe_str pe_int (pps_cons pe_str pe_int (pps_cons pe_str pe_int pps_nil)))) (by decide) rfl (by simp) (by decide)) (pv 1) noSl_name))
        (pss_one (ps_ret (pe_tup (pa_cons (pe_callTy call_listS (by rfl) mlist boot_list (pa_cons (pe_slice L2.sl_tup (pv 0) (po_some pe_int) po_none) pa_nil)) (pa_cons (pe_lc (own := [("_law_k", 4)]) (tt := tYes) (te := tOp (rI0 fun i j => .bl (decide (i < j))) (tVar 4) (tVar 3)) rfl nd (pi_range1 rfl mrange (pa_cons (pe_op op_sub (pe_callB call_len_seq (by rfl) mlen PySem.boot_len (pa_cons (pv 0) pa_nil)) pe_int) pa_nil)) (blkOk_by (N := N_inn) (sc := defScope s_law_inner) (by decide +kernel)) (fun _ _ _ _ _ => (pg_name (i := 4) nd rfl (Or.inl rfl))) (fun _ _ _ _ _ => pts_nil) (fun _ _ _ _ _ => (pe_cmpR op_lt (pv 4) (pv 3) (nomark _)))) pa_nil)))))))
      pss_nil)
      (pss_one (ps_ret (pe_tup (pa_cons (pe_callTy call_listS (by rfl) mlist boot_list (pa_cons (pe_slice L2.sl_tup (pv 0) (po_some pe_int) po_none) pa_nil)) (pa_cons (pe_lc (own := [("_law_k", 4)]) (tt := tYes) (te := tAndV (tOp rEq (tVar 1) (tC (.str "at"))) (tOp rEq (tVar 4) (tC (.int 1)))) rfl nd (pi_range1 rfl mrange (pa_cons (pe_op op_sub (pe_callB call_len_seq (by rfl) mlen PySem.boot_len (pa_cons (pv 0) pa_nil)) pe_int) pa_nil)) (blkOk_by (N := N_inn) (sc := defScope s_law_inner) (by decide +kernel)) (fun _ _ _ _ _ => (pg_name (i := 4) nd rfl (Or.inl rfl))) (fun _ _ _ _ _ => pts_nil) (fun _ _ _ _ _ => (pe_and (pe_cmpR op_eq (pv 1) pe_str (nomark _)) (pe_one (pe_cmpR op_eq (pv 4) pe_int (nomark _)))))) pa_nil))))))))))), ?_⟩
  refine ⟨.ref a, rfl, a, _, 0, .str z, rfl, rfl, hS, at0, fun pd npd => ?_⟩
  have hpd0 : upd H pd (.dK []) pd = some (.dK []) := upd_same
  refine ⟨upd_same, sizK, rfl, by decide, ?_⟩
  have s1 : Same H (upd (upd H pd (.dK [])) pd (.dK (mergeK [] sizK))) := fun b o e => by rw [upd_ne (ne_of_none e npd), upd_ne (ne_of_none e npd)]; exact e
  have hpd : upd (upd H pd (.dK [])) pd (.dK (mergeK [] sizK)) pd = some (.dK (mergeK [] sizK)) := upd_same
  revert s1 hpd
  generalize upd (upd H pd (.dK [])) pd (.dK (mergeK [] sizK)) = H1
  intro s1 hpd
  refine ⟨.ref pd, rfl, pd, _, rfl, DPut.k (k := .inr "first") hpd (by decide), ?_⟩
  have s2 : Same H (upd H1 pd (.dK sizD)) := fun b o e => by rw [upd_ne (ne_of_none e npd)]; exact s1 b o e
  have hpd2 : upd H1 pd (.dK sizD) pd = some (.dK sizD) := upd_same
  revert s2 hpd2
  generalize upd H1 pd (.dK sizD) = H2
  intro s2 hpd2
  clear s1 hpd hpd0
  have hS2 : SqT K H2 a (.str z :: us) := (KeepT.of s2).seqt hS
  have hd2 := hd.keep (KeepO.of (ok := ok) s2)
  have hl := hd.len
  have nth : ∀ {j : Nat} {y : PyData} {H' : Hp}, Same H2 H' → r[j]? = some y → ∃ u, (V.str z :: us)[j + 1]? = some u ∧ SqT K H' a (V.str z :: us) ∧ Dd K ok H' u y := fun {j y H'} s' hj => by
    have hjl : j < r.length := (List.getElem?_eq_some_iff.mp hj).1
    have hu : us[j]? = some (us[j]'(by omega)) := List.getElem?_eq_getElem _
    obtain ⟨y', e1, e2⟩ := dd_at (hd2.keep (KeepO.of s')) hu
    rw [hj] at e1
    cases e1
    exact ⟨_, by rw [List.getElem?_cons_succ]; exact hu, (KeepT.of s').seqt hS2, e2⟩
  have sh : ∀ y, y ∈ r → shB y = true := fun y hy => shBs_mem hsh y hy
  have b1 : 1 ≤ sizeLine := small_le (by decide)
  have b2 : 2 ≤ sizeLine := small_le (by decide)
  -- the end: two lists and the pair
  have fin : ∀ (ps : List (PyData × Bool)), From (.tuple (.str z :: r)) true (decide (z ∈ aggW)) ps → (ps.map (·.1)).Sublist r → ∀ H3 l1 l2 p ws, Same H2 H3 → H3 l1 = some (.lst ws) → H3 l2 = some (.lst (ps.map fun q => V.bl q.2)) → DdAll K ok H3 ws (ps.map (·.1)) → H3 p = none → Q (.ref p) (upd H3 p (.tup [.ref l1, .ref l2])) := fun ps hf hsub H3 l1 l2 p ws s3 h1 h2 h3 hp => by
    have sp := same_upd (o := .tup [.ref l1, .ref l2]) hp
    exact q1 ps hf hsub _ p l1 l2 ws (s2.trans (s3.trans sp)) upd_same (sp _ _ h1) (sp _ _ h2) (h3.keep (KeepO.of sp))
  refine ⟨.ref a, rfl, a, _, rfl, .inr hS2, .ref pd, rfl, pd, rfl, .inl ⟨_, .inl hpd2⟩, .str z, rfl, _, DGet.k (k := .inr z) hpd2, ?_⟩
  by_cases hw : z ∈ W12
  case neg =>
    rw [siz_no hw]
    refine ⟨rfl, _, rfl, ?_⟩
    rw [show (!decide (V.int (((V.str z :: us).length : Nat) : Int) = (none : Option V).getD (.int 0))) = true from by
      rw [decide_eq_false (fun e => by have e : V.int (((V.str z :: us).length : Nat) : Int) = V.int 0 := e; injection e with e; rw [List.length_cons] at e; omega)]; rfl]
    exact iteT (q0 (okX_out hw hz) H2 s2)
  obtain ⟨fs, lk, hv⟩ := siz_ok hw
  rw [hv]
  refine ⟨rfl, _, rfl, ?_⟩
  by_cases c : fs.length = r.length
  case neg =>
    rw [show (!decide (V.int (((V.str z :: us).length : Nat) : Int) = (some (V.int ((fs.length : Int) + 1))).getD (.int 0))) = true from by
      rw [decide_eq_false (fun e => c (by have e : V.int (((V.str z :: us).length : Nat) : Int) = V.int ((fs.length : Int) + 1) := e; injection e with e; rw [List.length_cons] at e; omega))]; rfl]
    exact iteT (q0 (okX_len lk c) H2 s2)
  rw [show (!decide (V.int (((V.str z :: us).length : Nat) : Int) = (some (V.int ((fs.length : Int) + 1))).getD (.int 0))) = false from by
    rw [decide_eq_true (by show V.int _ = V.int _; congr 1; rw [List.length_cons]; omega)]; rfl]
  refine iteF ?_
  -- a cell
  refine ⟨.str z, rfl, rfl, _, rfl, ite2 (fun e1 => ?_) (fun e1 => ?_)⟩
  · have e1 : z = "cell" := by simpa using e1
    subst e1
    have lk3 : look "cell" = some (["name", "free", "name"] : List Str) := by decide
    rw [lk3] at lk
    cases lk
    obtain ⟨t, x, v, rfl⟩ : ∃ t x v, r = [t, x, v] := by
      match r, c with
      | [t, x, v], _ => exact ⟨t, x, v, rfl⟩
    have F0 := from_cell t x v
    obtain ⟨u1, a1, a2, a3⟩ := nth (j := 0) (fun _ _ e => e) rfl
    refine ⟨.ref a, rfl, a, _, 1, u1, rfl, rfl, a2, atI_nat (j := 1) a1, u1, t, ok, rfl, a3, shB_sh (sh t (by simp)), fun H3 s3 => ⟨_, rfl, ?_⟩⟩
    cases c1 : isN t with
    | false => exact iteF (iteF (q0 (by have := F0.ok; rw [c1, Bool.false_and, Bool.false_and] at this; exact this) H3 (s2.trans s3)))
    | true =>
    obtain ⟨u3, g1, g2, g3⟩ := nth (j := 2) s3 rfl
    refine iteT ⟨.ref a, rfl, a, _, 3, u3, rfl, rfl, g2, atI_nat (j := 3) g1, u3, v, ok, rfl, g3, shB_sh (sh v (by simp)), fun H4 s4 => ⟨_, rfl, ?_⟩⟩
    cases c2 : isN v with
    | false => exact iteF (q0 (by have := F0.ok; rw [c2, Bool.and_false, Bool.false_and] at this; exact this) H4 (s2.trans (s3.trans s4)))
    | true =>
    rw [c1, c2] at F0
    obtain ⟨u2, d1, d2, d3⟩ := nth (j := 1) (s3.trans s4) rfl
    refine iteT ⟨.ref a, rfl, a, _, 2, u2, rfl, rfl, d2, atI_nat (j := 2) d1, b1, fun l1 n1 => ⟨b1, fun l2 n2 => ⟨b2, fun p np => ?_⟩⟩⟩
    have t1 := same_upd (o := .lst [u2]) n1
    have t2 := same_upd (o := .lst [.bl false]) n2
    exact fin [(x, false)] F0 (.cons t (.cons₂ x (List.nil_sublist [v]))) _ l1 l2 p [u2] (s3.trans (s4.trans (t1.trans t2))) (t2 _ _ upd_same) upd_same (.cons (d3.keep (KeepO.of (t1.trans t2))) .nil) np
  have e1 : z ≠ "cell" := fun x => e1 (by simpa using x)
  refine ⟨.str z, rfl, h1000 (show 4 ≤ 1000 by decide), fun t1 nt1 => ?_⟩
  have s3 := same_upd (o := .tup [.str "count", .str "sum", .str "most", .str "first"]) nt1
  refine ⟨t1, _, rfl, .inr (.inl (.inl upd_same)), rfl, rfl, _, rfl, ?_⟩
  show if inV (.str z) (aggW.map V.str) = true then _ else _
  rw [in_strs]
  revert s3
  generalize upd H2 t1 (.tup [.str "count", .str "sum", .str "most", .str "first"]) = H3
  intro s3
  by_cases ha : z ∈ aggW
  case neg =>
    rw [decide_eq_false ha]
    refine iteF ?_
    have hop : z ∈ opW := by
      simp only [W12, aggW, opW, List.mem_cons, List.not_mem_nil, or_false] at hw ha ⊢
      rcases hw with hw | hw | hw | hw | hw | hw | hw | hw | hw | hw | hw | hw <;> simp_all
    have F0 : From (.tuple (.str z :: r)) true (decide (z ∈ aggW)) (r.zip (opF z r.length)) := by rw [decide_eq_false ha]; exact from_rest hop lk c
    have hfl : (opF z r.length).length = r.length := by unfold opF; rw [List.length_map, List.length_range]
    refine ⟨.ref a, rfl, 1, rfl, a, _, rfl, (KeepT.of s3).seqt hS2, no_1, fun c1 nc => ?_⟩
    rw [cut_1]
    have s4 := same_upd (o := .tup us) nc
    refine ⟨c1, us, rfl, .inl (.inl upd_same), fun l1 n1 far => ?_⟩
    have s5 := same_upd (o := .lst us) n1
    have h5 : upd (upd H3 c1 (.tup us)) l1 (.lst us) l1 = some (.lst us) := upd_same
    have s25 := s3.trans (s4.trans s5)
    revert s25 h5
    generalize upd (upd H3 c1 (.tup us)) l1 (.lst us) = H5
    intro h5 s25
    refine ⟨.ref a, rfl, a, _, rfl, .inr ((KeepT.of s25).seqt hS2), _, 1, rfl, rfl, (r.length : Int), ?_, by omega, by omega, fun D nD => ?_⟩
    · show [V.int _] = [V.int _]; congr 1; congr 1; rw [List.length_cons]; omega
    rw [show ((r.length : Int)).toNat = r.length by omega]
    refine lc_range (n := r.length) (fun j H' => H' D = some (.lst (((List.range j).map fun (k : Nat) => decide (z = "at") && decide ((k : Int) = 1)).map V.bl)) ∧ ∀ b o, b ≠ D → H5 b = some o → H' b = some o) ?_ ?_ ?_
    · exact ⟨upd_same, fun b o nb e => by rw [upd_ne nb]; exact e⟩
    · rintro j H' hj ⟨hD, kp⟩
      refine ⟨rfl, yes_then ⟨.str z, rfl, rfl, _, rfl, ?_⟩⟩
      have key : ∀ (bb : Bool), (decide (z = "at") && decide ((j : Int) = 1)) = bb → ∃ acc, H' D = some (.lst acc) ∧ acc.length < sizeLine ∧ upd H' D (.lst (acc ++ [V.bl bb])) D = some (.lst (((List.range (j + 1)).map fun (k : Nat) => decide (z = "at") && decide ((k : Int) = 1)).map V.bl)) ∧ ∀ b o, b ≠ D → H5 b = some o → upd H' D (.lst (acc ++ [V.bl bb])) b = some o := fun bb e => by
        refine ⟨_, hD, ?_, ?_, fun b o nb e => by rw [upd_ne nb]; exact kp b o nb e⟩
        · rw [List.length_map, List.length_map, List.length_range]
          exact Nat.lt_of_lt_of_le (show j < 4000000 by omega) (by rw [sizeLine_eq]; decide)
        · rw [upd_same, range_snoc, List.map_append, e]
          rfl
      refine ite2 (fun e2 => ?_) (fun e2 => ?_)
      · have e2 : z = "at" := by simpa using e2
        refine ⟨.int (0 + (j : Int)), rfl, rfl, key _ ?_⟩
        rw [decide_eq_true e2, Bool.true_and]
        exact decide_eq_decide.mpr ⟨fun e => by rw [e]; rfl, fun e => by injection e with e; omega⟩
      · have e2 : z ≠ "at" := fun x => e2 (by simpa using x)
        exact key _ (by rw [decide_eq_false e2]; rfl)
    · rintro H' ⟨hD, kp⟩
      have sD : Same H5 H' := fun b o e => kp b o (ne_of_none e nD) e
      refine ⟨b2, fun p np => ?_⟩
      refine fin _ F0 (by rw [zip_fst _ _ hfl]; exact List.Sublist.refl _) H' l1 D p us (s25.trans sD) (sD _ _ h5) (by rw [zip_snd _ _ hfl]; exact hD) (by rw [zip_fst _ _ hfl]; exact hd2.keep (KeepO.of (s25.trans sD))) np
  rw [decide_eq_true ha]
  refine iteT ?_
  obtain ⟨fl, bd, hfl, hbd, hrg⟩ := agg_fl ha
  obtain ⟨lk2, _, _, _⟩ := agF_look hfl
  rw [lk] at lk2
  cases lk2
  obtain ⟨t, x3, x4, r', rfl⟩ : ∃ t x3 x4 r', r = t :: x3 :: x4 :: r' := by
    match r, c with
    | [], h => cases h
    | [_], h => simp at h
    | [_, _], h => simp at h
    | t :: x3 :: x4 :: r', _ => exact ⟨t, x3, x4, r', rfl⟩
  have hr' : fl.length = r'.length := by simpa using c
  have F0 := from_agg hfl t x3 x4 r' hr'
  have no : ∀ {x : Bool}, (isN t && (PyData.eqv x3 (.tuple []) && rowB t x4)) = x → x = false → ∀ H', Same H2 H' → Q .non H' := fun {x} e1 e2 H' s' => q0 (by rw [F0.ok, e1, e2]; rfl) H' (s2.trans s')
  obtain ⟨u1, a1, a2, a3⟩ := nth (j := 0) s3 rfl
  refine ⟨.ref a, rfl, a, _, 1, u1, rfl, rfl, a2, atI_nat (j := 1) a1, u1, t, ok, rfl, a3, shB_sh (sh t (by simp)), fun H4 s4 => ⟨_, rfl, ?_⟩⟩
  have s24 := s3.trans s4
  cases c1 : isN t with
  | false => exact iteT (iteT (no (x := false) (by rw [c1]; rfl) rfl H4 s24))
  | true =>
  obtain ⟨u2, g1, g2, g3⟩ := nth (j := 1) s24 rfl
  refine iteF ⟨.ref a, rfl, a, _, 2, u2, rfl, rfl, g2, atI_nat (j := 2) g1, Nat.zero_le _, fun e0 ne0 => ?_⟩
  have s5 := same_upd (o := .tup []) ne0
  have h5 : upd H4 e0 (.tup []) e0 = some (.tup []) := upd_same
  revert s5 h5
  generalize upd H4 e0 (.tup []) = H5
  intro s5 h5
  have s25 := s24.trans s5
  refine ⟨x3, [], ok, hok, g3.keep (KeepO.of s5), .tup (.inl (.inl h5)) .nil, rfl, by decide, _, rfl, ?_⟩
  cases c2 : PyData.eqv x3 (.tuple []) with
  | false => exact iteT (iteT (no (x := false) (by rw [c2, Bool.false_and, Bool.and_false]) rfl H5 s25))
  | true =>
  refine iteF ?_
  obtain ⟨u3, b1', b2', b3⟩ := nth (j := 2) s25 rfl
  obtain ⟨u1', p1, p2, p3⟩ := nth (j := 0) s25 rfl
  obtain ⟨zt, rfl⟩ : ∃ zt, t = .str zt := by
    cases t with
    | str zt => exact ⟨zt, rfl⟩
    | _ => cases c1
  cases p3
  refine ⟨.ref a, rfl, a, _, 3, u3, rfl, rfl, b2', atI_nat (j := 3) b1', ?_⟩
  have hso : PyData.strOk zt = true := by
    have := sh (.str zt) (by simp)
    rw [shB, Bool.and_eq_true] at this
    exact this.2
  refine ⟨.ref a, rfl, a, _, 1, .str zt, rfl, rfl, p2, atI_nat (j := 1) p1, b1, fun k1 nk1 => ⟨small_le (Nat.le_of_ble_eq_true rfl), fun k2 nk2 => ?_⟩⟩
  have t1 := same_upd (o := .tup [.str "key"]) nk1
  have t2 := same_upd (o := .tup [.str "cell", .str zt, .ref k1, .str "in"]) nk2
  have hk1 : upd H5 k1 (.tup [.str "key"]) k1 = some (.tup [.str "key"]) := upd_same
  have hk2 : upd (upd H5 k1 (.tup [.str "key"])) k2 (.tup [.str "cell", .str zt, .ref k1, .str "in"]) k2 = some (.tup [.str "cell", .str zt, .ref k1, .str "in"]) := upd_same
  replace hk1 := t2 _ _ hk1
  have s6 := t1.trans t2
  revert hk1 hk2 s6
  generalize upd (upd H5 k1 (.tup [.str "key"])) k2 (.tup [.str "cell", .str zt, .ref k1, .str "in"]) = H6
  intro hk2 hk1 s6
  have s26 := s25.trans s6
  refine ⟨x4, [.str "cell", .str zt, .tuple [.str "key"], .str "in"], ok, hok, b3.keep (KeepO.of s6), .tup (.inl (.inl hk2)) (.cons (.str _) (.cons (.str _) (.cons (.tup (.inl (.inl hk1)) (.cons (.str _) .nil)) (.cons (.str _) .nil)))), ?_, ?_, _, rfl, ?_⟩
  · show (PyData.strOk "cell" && (PyData.strOk zt && ((PyData.strOk "key" && true) && (PyData.strOk "in" && true)))) = true
    rw [hso]
    decide +kernel
  · simp only [PyData.depthAll, PyData.depth]
    decide
  show if (!PyData.eqv x4 (rowX zt)) = true then _ else _
  cases c3 : PyData.eqv x4 (rowX zt) with
  | false => exact iteT (no (x := false) (by show (isN (.str zt) && (PyData.eqv x3 (.tuple []) && PyData.eqv x4 (rowX zt))) = false; rw [c3, Bool.and_false, Bool.and_false]) rfl H6 s26)
  | true =>
  refine iteF ?_
  have F1 : From (.tuple (.str z :: .str zt :: x3 :: x4 :: r')) true (decide (z ∈ aggW)) (r'.zip fl) := by
    have e : (isN (.str zt) && (PyData.eqv x3 (.tuple []) && rowB (.str zt) x4)) = true := by
      show (isN (.str zt) && (PyData.eqv x3 (.tuple []) && PyData.eqv x4 (rowX zt))) = true
      rw [c1, c2, c3]
      rfl
    rw [e] at F0
    rw [decide_eq_true ha]
    exact F0
  -- the bound
  intro dg ndg
  refine ⟨upd_same, bndK, rfl, by decide, ?_⟩
  have s7 : Same H6 (upd (upd H6 dg (.dK [])) dg (.dK (mergeK [] bndK))) := fun b o e => by rw [upd_ne (ne_of_none e ndg), upd_ne (ne_of_none e ndg)]; exact e
  have hdg : upd (upd H6 dg (.dK [])) dg (.dK (mergeK [] bndK)) dg = some (.dK (mergeK [] bndK)) := upd_same
  revert s7 hdg
  generalize upd (upd H6 dg (.dK [])) dg (.dK (mergeK [] bndK)) = H7
  intro s7 hdg
  have s27 := s26.trans s7
  refine ⟨.str z, rfl, dg, .int bd, rfl, by rw [← hbd]; exact DGet.k (k := .inr z) hdg, ?_⟩
  obtain ⟨w1, w2, w3, us', rfl, hd'⟩ : ∃ w1 w2 w3 us', us = w1 :: w2 :: w3 :: us' ∧ DdAll K ok H2 us' r' := by
    cases hd2 with
    | cons _ h => cases h with
      | cons _ h => cases h with
        | cons _ h => exact ⟨_, _, _, _, rfl, h⟩
  have hl' := hd'.len
  refine ⟨.ref a, rfl, 4, rfl, a, _, rfl, (KeepT.of s27).seqt hS2, no_4, fun c1 nc => ?_⟩
  rw [cut_4]
  have s8 := same_upd (o := .tup us') nc
  refine ⟨c1, us', rfl, .inl (.inl upd_same), fun l1 n1 far => ?_⟩
  have s9 := same_upd (o := .lst us') n1
  have h9 : upd (upd H7 c1 (.tup us')) l1 (.lst us') l1 = some (.lst us') := upd_same
  have s29 := s27.trans (s8.trans s9)
  revert s29 h9
  generalize upd (upd H7 c1 (.tup us')) l1 (.lst us') = H9
  intro h9 s29
  have hlen' : us'.length ≤ 4000000 := by
    rw [List.length_cons, List.length_cons, List.length_cons] at hlen
    omega
  refine ⟨.ref a, rfl, a, _, rfl, .inr ((KeepT.of s29).seqt hS2), _, 4, rfl, rfl, (r'.length : Int), ?_, by omega, by omega, fun D nD => ?_⟩
  · show [V.int _] = [V.int _]; congr 1; congr 1; rw [List.length_cons, List.length_cons, List.length_cons, List.length_cons]; omega
  rw [show ((r'.length : Int)).toNat = r'.length by omega]
  refine lc_range (n := r'.length) (fun j H' => H' D = some (.lst (((List.range j).map fun (k : Nat) => decide ((k : Int) < bd)).map V.bl)) ∧ ∀ b o, b ≠ D → H9 b = some o → H' b = some o) ?_ ?_ ?_
  · exact ⟨upd_same, fun b o nb e => by rw [upd_ne nb]; exact e⟩
  · rintro j H' hj ⟨hD, kp⟩
    refine ⟨rfl, yes_then ⟨.int (0 + (j : Int)), rfl, .int bd, rfl, 0 + (j : Int), bd, rfl, rfl, _, hD, ?_, ?_, fun b o nb e => by rw [upd_ne nb]; exact kp b o nb e⟩⟩
    · rw [List.length_map, List.length_map, List.length_range]
      exact Nat.lt_of_lt_of_le (show j < 4000000 by omega) (by rw [sizeLine_eq]; decide)
    · rw [upd_same, range_snoc, List.map_append, Int.zero_add]
      rfl
  · rintro H' ⟨hD, kp⟩
    have sD : Same H9 H' := fun b o e => kp b o (ne_of_none e nD) e
    refine ⟨b2, fun p np => ?_⟩
    rw [← hr', ← hrg] at hD
    refine fin _ F1 ?_ H' l1 D p us' (s29.trans sD) (sD _ _ h9) (by rw [zip_snd _ _ hr']; exact hD) (by rw [zip_fst _ _ hr']; exact hd'.keep (KeepO.of (s29.trans sD))) np
    rw [zip_fst _ _ hr']
    exact .cons _ (.cons _ (.cons _ (List.Sublist.refl _)))
end
end L9

namespace L9
open PySem PySem.Spec PyProof.Rows L2 GR AD RZ WX ZE TX RVT
theorem okX_int {r : List PyData} : okX (.tuple (.str "int" :: r)) = (match r with | [x] => isV x | _ => false) := by
  have lk : look "int" = some (["value"] : List Str) := by decide
  rw [okX_some lk]
  have hp : plainP (.tuple (.str "int" :: r)) = true := by rw [plain_no (by decide)]; rfl
  rw [hp]
  match r with
  | [] => rfl
  | [x] =>
    show ((isV x && true) && (true && ([] : List PyData).all okX)) = isV x
    simp
  | x :: y :: r =>
    rw [fitsAll_len (by simp)]
    rfl
theorem okX_var {r : List PyData} : okX (.tuple (.str "var" :: r)) = (match r with | [x] => isN x | _ => false) := by
  have lk : look "var" = some (["name"] : List Str) := by decide
  rw [okX_some lk]
  have hp : plainP (.tuple (.str "var" :: r)) = true := by rw [plain_no (by decide)]; rfl
  rw [hp]
  match r with
  | [] => rfl
  | [x] =>
    show ((isN x && true) && (true && ([] : List PyData).all okX)) = isN x
    simp
  | x :: y :: r =>
    rw [fitsAll_len (by simp)]
    rfl
theorem okX_key {r : List PyData} : okX (.tuple (.str "key" :: r)) = r.isEmpty := by
  have lk : look "key" = some ([] : List Str) := by decide
  rw [okX_some lk]
  have hp : plainP (.tuple (.str "key" :: r)) = true := by rw [plain_no (by decide)]; rfl
  rw [hp]
  match r with
  | [] => rfl
  | x :: r =>
    rw [fitsAll_len (by simp)]
    rfl
theorem depth_mem : ∀ {ds : List PyData} {y : PyData}, y ∈ ds → y.depth ≤ PyData.depthAll ds
  | x :: ds, y, h => by
    rw [PyData.depthAll]
    rcases List.mem_cons.mp h with rfl | h
    · omega
    · have := depth_mem h
      omega
/-- one part, and such -/
def isX1 (r : List PyData) (p : PyData → Bool) : Bool := match r with | [x] => p x | _ => false
theorem isX1_len {r : List PyData} {p : PyData → Bool} (c : ¬ r.length = 1) : isX1 r p = false := by
  match r, c with
  | [], _ => rfl
  | [_], c => exact absurd rfl c
  | _ :: _ :: _, _ => rfl
theorem one_dd {K : PySem.W.Frag} {ok : Addr → Prop} {H : Hp} {us : List V} {r : List PyData} (h : DdAll K ok H us r) (c : r.length = 1) : ∃ x u, r = [x] ∧ us = [u] ∧ Dd K ok H u x := by
  cases h with
  | nil => cases c
  | cons h t =>
    cases t with
    | nil => exact ⟨_, _, rfl, rfl, h⟩
    | cons _ _ => simp at c
/-- what a leaf is: no parts -/
theorem leaf_facts {w : Str} {fs : List Str} {r : List PyData} (lk : look w = some fs) (h2 : pick W2 fs r = []) (h1 : pick W1 fs r = []) (ha : w ∉ aggW) : keyX (.tuple (.str w :: r)) = isKey (.tuple (.str w :: r)) ∧ smX (.tuple (.str w :: r)) = true ∧ ∀ q, allX (varQ q) (.tuple (.str w :: r)) = varQ q (.tuple (.str w :: r)) := by
  refine ⟨?_, ?_, fun q => ?_⟩
  · rw [keyX_step, kF_some lk, h1, List.any_nil, Bool.or_false]
  · rw [smX_step, simpleP_no ha, kE_some lk, h2]
    rfl
  · rw [allX_step, kE_some lk, h2, List.all_nil, Bool.and_true]
theorem sub_sz {xs ys : List PyData} (h : xs.Sublist ys) : szs xs ≤ szs ys := by
  induction h with
  | slnil => exact Nat.le_refl _
  | cons a _ ih => rw [szs]; omega
  | cons_cons a _ ih => rw [szs, szs]; omega
theorem szs_take (xs : List PyData) (i : Nat) : szs (xs.take i) ≤ szs xs := sub_sz (List.take_sublist _ _)
theorem szs_snoc {xs : List PyData} {x : PyData} : szs (xs ++ [x]) = szs xs + sz x := by
  rw [szs_append, szs, szs, Nat.add_zero]
theorem orv_at {i : Nat} {t : TE} {σ : L2.St} {H : Hp} {Q : VK} {a b : Bool} (hi : σ[i]? = some (some (.bl a))) (ht : ∀ R : VK, R (.bl b) H → t σ H R) (q : Q (.bl (a || b)) H) : tOrV (tVar i) t σ H Q := by
  refine ⟨.bl a, hi, a, rfl, ?_⟩
  cases a with
  | true => exact iteT q
  | false => exact iteF (ht _ q)
theorem andv_at {ta tb : TE} {σ : L2.St} {H : Hp} {Q : VK} {a b : Bool} (ha : ∀ R : VK, R (.bl a) H → ta σ H R) (hb : ∀ R : VK, R (.bl b) H → tb σ H R) (q : Q (.bl (a && b)) H) : tAndV ta tb σ H Q := by
  refine ha _ ⟨a, rfl, ?_⟩
  cases a with
  | true => exact iteT (hb _ q)
  | false => exact iteF q
section
variable {P : Program} {w : World} {K : PySem.W.Frag} {mg : Str → Option Value} {base : Heap}
abbrev s_law_looked : Stmt := topS 54
abbrev N_loo : List Str := ["_law_thing", "_law_inner_here", "_law_used", "_law_free", "_law_rows", "_law_one", "_law_bound", "_law_found"]
theorem sc_law_looked : FnScope N_loo ["_law_thing"] (defScope s_law_looked) := ⟨rfl, rfl, rfl, by decide +kernel, rfl, by decide +kernel, by decide +kernel⟩
/-- variables, whether a key is free, whether there is an aggregate; or None -/
def sp_looked (K : PySem.W.Frag) (n : Nat) : Sp := fun vs H Q _ => ∃ (v : V) (d : PyData) (ok : Addr → Prop), vs = [v] ∧ Dd K ok H v d ∧ (∀ b, ok b → b ≠ sysModules) ∧ shB d = true ∧ d.depth < n ∧ sz d ≤ 4000000 ∧
  (okX d = false → ∀ H', Same H H' → Q .non H') ∧
  (okX d = true → ∀ (H' : Hp) (p l : Addr) (us : List Str), Same H H' → H' p = some (.tup [.ref l, .bl (keyX d), .bl (!smX d)]) → H' l = some (.lst (us.map V.str)) → us.length ≤ sz d → (∀ q, us.all q = allX (varQ q) d) → Q (.ref p) H')
/-- the walk over the parts -/
def LInv (a p0 : Addr) (H0 : Hp) (ag : Bool) (ps : List (PyData × Bool)) (i : Nat) (σ : L2.St) (H : Hp) : Prop :=
  ∃ (u : Addr) (us : List Str) (y5 y6 y7 : Option V), σ = [some (.ref a), some (.ref p0), some (.ref u), some (.bl ((ps.take i).any fun p => keyX p.1 && !p.2)), some (.bl (ag || (ps.take i).any fun p => !smX p.1)), y5, y6, y7] ∧
    H u = some (.lst (us.map V.str)) ∧ us.length ≤ szs ((ps.map (·.1)).take i) ∧ (∀ q, us.all q = (ps.take i).all fun p => allX (varQ q) p.1) ∧ ((ps.take i).all fun p => okX p.1) = true ∧ Same H0 H
theorem ok_looked_step {n : Nat} {f fi fv fn : Addr} {fd di dv dn : FuncData} {k : Nat} (F : Fun K "_law_looked" "_law_looked" s_law_looked f fd)
    (Gi : FnOk P w K mg base CX0 k fi di ["_law_thing"] (sp_inner K)) (gi : mg "_law_inner" = some (.ref fi)) (Ki : PySem.W.keepIn K (.ref fi) = true) (bi : Binds K di ["_law_thing"] [])
    (Gv : FnOk P w K mg base CX0 k fv dv ["_law_thing"] (sp_is K isV)) (gv : mg "_law_is_value" = some (.ref fv)) (Kv : PySem.W.keepIn K (.ref fv) = true) (bv : Binds K dv ["_law_thing"] [])
    (Gn : FnOk P w K mg base CX0 k fn dn ["_law_thing"] (sp_isS K isN)) (gn : mg "_law_is_name" = some (.ref fn)) (Kn : PySem.W.keepIn K (.ref fn) = true) (bn : Binds K dn ["_law_thing"] [])
    (G : FnOk P w K mg base CX0 k f fd ["_law_thing"] (sp_looked K n)) (g : mg "_law_looked" = some (.ref f)) (Kf : PySem.W.keepIn K (.ref f) = true) (b : Binds K fd ["_law_thing"] [])
    (misi : mg "isinstance" = none) (mtuple : mg "tuple" = none) (mstr : mg "str" = none) (mlen : mg "len" = none) (mzip : mg "zip" = none) : FnOk P w K mg base CX0 (k + 1) f fd ["_law_thing"] (sp_looked K (n + 1)) := by
  have nd := sc_law_looked.nd
  refine F.ok sc_law_looked (fun vs H Q E h => ?_) (fun cdv A outer s H vs Q E hr h => ?_)
  · obtain ⟨v, d, ok, rfl, _⟩ := h
    rfl
  obtain ⟨v, d, ok, rfl, hd, hok, hsh, hdp, hsz, q0, q1⟩ := h
  have hu0 := hr.units0
  refine ⟨_, (pss_cons (ps_if (PW.pt (pw_or (pt_not (pt_val (pe_callB call_isi (by rfl) misi boot_isinstance (pa_cons (pv 0) (pa_cons (pe_bltn (v := .ty "tuple") (by rfl) mtuple boot_tuple rfl) pa_nil))))) (pw_or (pt_cmpR (ZE.op_eqT0 hu0) (pv 0) (pe_tup pa_nil) (nomark _)) (pw_or1 (pt_not (pt_val (pe_callB call_isi (by rfl) misi boot_isinstance (pa_cons (pe_ix ix_tup (pv 0) pe_int (fun _ _ => rfl)) (pa_cons (pe_bltn (v := .ty "str") (by rfl) mstr boot_str rfl) pa_nil)))))))))
      (pss_one (ps_ret pe_non))
      pss_nil)
      (pss_cons (ps_if (pt_cmpR op_eq (pe_ix ix_tup (pv 0) pe_int (fun _ _ => rfl)) pe_str (nomark _))
      (pss_one (ps_ret (pe_ifExp (PW.pt (pw_and (pt_cmpR op_eq (pe_callB call_len_seq (by rfl) mlen PySem.boot_len (pa_cons (pv 0) pa_nil)) pe_int (nomark _)) (pw_and1 (pt_val (pe_call Gv hr (by rfl) gv Kv bv .nil pass0 (pa_cons (pe_ix ix_tup (pv 0) pe_int (fun _ _ => rfl)) pa_nil)))))) (pe_tup (pa_cons (pe_lst pa_nil) (pa_cons pe_bl (pa_cons pe_bl pa_nil)))) pe_non)))
      pss_nil)
      (pss_cons (ps_if (pt_cmpR op_eq (pe_ix ix_tup (pv 0) pe_int (fun _ _ => rfl)) pe_str (nomark _))
      (pss_one (ps_ret (pe_ifExp (PW.pt (pw_and (pt_cmpR op_eq (pe_callB call_len_seq (by rfl) mlen PySem.boot_len (pa_cons (pv 0) pa_nil)) pe_int (nomark _)) (pw_and1 (pt_val (pe_call Gn hr (by rfl) gn Kn bn .nil pass0 (pa_cons (pe_ix ix_tup (pv 0) pe_int (fun _ _ => rfl)) pa_nil)))))) (pe_tup (pa_cons (pe_lst (pa_cons (pe_ix ix_tup (pv 0) pe_int (fun _ _ => rfl)) pa_nil)) (pa_cons pe_bl (pa_cons pe_bl pa_nil)))) pe_non)))
      pss_nil)
      (pss_cons (ps_if (pt_cmpR op_eq (pe_ix ix_tup (pv 0) pe_int (fun _ _ => rfl)) pe_str (nomark _))
      (pss_one (ps_ret (pe_ifExp (pt_cmpR op_eq (pe_callB call_len_seq (by rfl) mlen PySem.boot_len (pa_cons (pv 0) pa_nil)) pe_int (nomark _)) (pe_tup (pa_cons (pe_lst pa_nil) (pa_cons pe_bl (pa_cons pe_bl pa_nil)))) pe_non)))
      pss_nil)
      (pss_cons (ps_set (i := 1) nd rfl (.inl rfl) (pe_call Gi hr (by rfl) gi Ki bi .nil pass0 (pa_cons (pv 0) pa_nil)))
      (pss_cons (ps_if (pt_cmpR op_isN (pv 1) pe_non (nomark _))
      (pss_one (ps_ret pe_non))
      pss_nil)
      (pss_cons (ps_set (i := 2) nd rfl (.inl rfl) (pe_lst pa_nil))
      (pss_cons (ps_set (i := 3) nd rfl (.inl rfl) pe_bl)
      (pss_cons (ps_set (i := 4) nd rfl (.inl rfl) (pe_cmpR op_in_seq (pe_ix ix_tup (pv 0) pe_int (fun _ _ => rfl)) (pe_tup (pa_cons pe_str (pa_cons pe_str (pa_cons pe_str (pa_cons pe_str pa_nil))))) (by rfl)))
      (pss_cons (ps_for PassesOwn.never rfl (pi_zip (by rfl) mzip (pa_cons (pe_ix ix_tup (pv 1) pe_int (fun _ _ => rfl)) (pa_cons (pe_ix ix_tup (pv 1) pe_int (fun _ _ => rfl)) pa_nil))) (pg_tup rfl (pgs_cons (pg_name (i := 5) nd rfl (Or.inl rfl)) (pgs_cons (pg_name (i := 6) nd rfl (Or.inl rfl)) pgs_nil)))
      (pss_cons (ps_set (i := 7) nd rfl (.inl rfl) (pe_call G hr (by rfl) g Kf b .nil pass0 (pa_cons (pv 5) pa_nil)))
        (pss_cons (ps_if (pt_cmpR op_isN (pv 7) pe_non (nomark _))
        (pss_one (ps_ret pe_non))
        pss_nil)
        (pss_cons (ps_set (i := 2) nd rfl (.inl rfl) (pe_op op_cat (pv 2) (pe_ix ix_tup (pv 7) pe_int (fun _ _ => rfl))))
        (pss_cons (ps_set (i := 3) nd rfl (.inl rfl) (pe_or (pv 3) (pe_one (pe_and (pe_ix ix_tup (pv 7) pe_int (fun _ _ => rfl)) (pe_one (pe_not (pv 6)))))))
        (pss_one (ps_set (i := 4) nd rfl (.inl rfl) (pe_or (pv 4) (pe_one (pe_ix ix_tup (pv 7) pe_int (fun _ _ => rfl)))))))))))
      (pss_one (ps_ret (pe_tup (pa_cons (pv 2) (pa_cons (pv 3) (pa_cons (pv 4) pa_nil)))))))))))))))), ?_⟩
  have b3 : 3 ≤ sizeLine := small_le (by decide)
  have b1 : 1 ≤ sizeLine := small_le (by decide)
  -- the end: a list and the triple
  have fin : okX d = true → ∀ (us : List Str) (H3 : Hp) (l p : Addr) (fr rw : Bool), Same H H3 → fr = keyX d → rw = (!smX d) → H3 l = some (.lst (us.map V.str)) → us.length ≤ sz d → (∀ q, us.all q = allX (varQ q) d) → H3 p = none → Q (.ref p) (upd H3 p (.tup [.ref l, .bl fr, .bl rw])) := fun ho us H3 l p fr rw s3 e1 e2 h1 h2 h3 hp => by
    have sp := same_upd (o := .tup [.ref l, .bl fr, .bl rw]) hp
    exact q1 ho _ p l us (s3.trans sp) (by rw [← e1, ← e2]; exact upd_same) (sp _ _ h1) h2 h3
  have nf : hasForm d = false → ∀ H', Same H H' → Q .non H' := fun e H' s' => q0 (okX_nf e) H' s'
  refine ⟨v, rfl, v, .ty "tuple", _, _, _, rfl, .ty "tuple", hd.ty, kit_t K d, _, rfl, ?_⟩
  cases hd with
  | tup hs ha =>
    rename_i a xs ds
    refine iteF ⟨.ref a, rfl, Nat.zero_le _, fun t0 nt0 => ?_⟩
    have s0 := same_upd (o := .tup []) nt0
    refine ⟨a, t0, xs, rfl, rfl, (KeepT.of s0).seqt hs, .inl (.inl upd_same), _, rfl, ?_⟩
    have hs1 := (KeepT.of s0).seqt hs
    have ha1 := ha.keep (KeepO.of (ok := ok) s0)
    revert hs1 ha1 s0
    generalize upd H t0 (.tup []) = H1
    intro s0 hs1 ha1
    cases ha1 with
    | nil => exact iteT (iteT (nf rfl H1 s0))
    | cons h1 r1 =>
    rename_i v1 us d1 r
    refine iteF ⟨.ref a, rfl, a, _, 0, v1, rfl, rfl, hs1, at0, v1, .ty "str", _, _, _, rfl, .ty "str", h1.ty, kit_s K d1, _, rfl, ?_⟩
    cases h1 with
    | str z =>
      have hl := r1.len
      have hr1 : ∀ y, y ∈ r → shB y = true ∧ y.depth < n ∧ sz y ≤ 4000000 := fun y hy => by
        rw [shB] at hsh
        have h1 := shBs_mem hsh y (List.mem_cons_of_mem _ hy)
        have h2 := depth_mem hy
        rw [PyData.depth, PyData.depthAll] at hdp
        have h3 := sz_mem hy
        rw [sz, szs] at hsz
        exact ⟨h1, by omega, by omega⟩
      have hlen : (V.int (((V.str z :: us).length : Nat) : Int)) = .int ((r.length : Int) + 1) := by
        congr 1
        rw [List.length_cons, hl]
        omega
      -- int
      refine iteF ⟨.ref a, rfl, a, _, 0, .str z, rfl, rfl, hs1, at0, rfl, _, rfl, ite2 (fun e1 => ?_) (fun e1 => ?_)⟩
      · have e1 : z = "int" := by simpa using e1
        subst e1
        refine ⟨.ref a, rfl, a, _, rfl, .inr hs1, ?_⟩
        rw [hlen]
        refine ⟨rfl, _, rfl, ?_⟩
        have no : isX1 r isV = false → ∀ H', Same H1 H' → Q .non H' := fun e H' s' => q0 (okX_int.trans e) H' (s0.trans s')
        by_cases c : r.length = 1
        case neg =>
          rw [decide_eq_false (fun e => c (by injection e with e; omega))]
          exact iteF (iteF (no (isX1_len c) H1 fun _ _ e => e))
        obtain ⟨x, u, rfl, rfl, hx⟩ := one_dd r1 c
        rw [decide_eq_true (by rfl)]
        refine iteT ⟨.ref a, rfl, a, _, 1, u, rfl, rfl, hs1, atI_nat (j := 1) rfl, u, x, ok, rfl, hx, _, rfl, ?_⟩
        have lk : look "int" = some (["value"] : List Str) := by decide
        obtain ⟨f1, f2, f3⟩ := leaf_facts (r := [x]) lk rfl rfl (by decide)
        cases hv : isV x with
        | false => exact iteF (no hv H1 fun _ _ e => e)
        | true =>
          refine iteT ⟨Nat.zero_le _, fun l nl => ⟨b3, fun p np => ?_⟩⟩
          exact fin (okX_int.trans hv) [] _ l p false false (s0.trans (same_upd nl)) (by rw [f1, isKey_no (by decide)]) (by rw [f2]; rfl) upd_same (Nat.zero_le _) (fun q => by rw [f3 q, varQ_no q (by decide)]; rfl) np
      have e1 : z ≠ "int" := fun x => e1 (by simpa using x)
      -- var
      refine ⟨.ref a, rfl, a, _, 0, .str z, rfl, rfl, hs1, at0, rfl, _, rfl, ite2 (fun e2 => ?_) (fun e2 => ?_)⟩
      · have e2 : z = "var" := by simpa using e2
        subst e2
        refine ⟨.ref a, rfl, a, _, rfl, .inr hs1, ?_⟩
        rw [hlen]
        refine ⟨rfl, _, rfl, ?_⟩
        have no : isX1 r isN = false → ∀ H', Same H1 H' → Q .non H' := fun e H' s' => q0 (okX_var.trans e) H' (s0.trans s')
        by_cases c : r.length = 1
        case neg =>
          rw [decide_eq_false (fun e => c (by injection e with e; omega))]
          exact iteF (iteF (no (isX1_len c) H1 fun _ _ e => e))
        obtain ⟨x, u, rfl, rfl, hx⟩ := one_dd r1 c
        rw [decide_eq_true (by rfl)]
        refine iteT ⟨.ref a, rfl, a, _, 1, u, rfl, rfl, hs1, atI_nat (j := 1) rfl, u, x, ok, rfl, hx, shB_sh (hr1 x List.mem_cons_self).1, fun H2 s2 => ⟨_, rfl, ?_⟩⟩
        have lk : look "var" = some (["name"] : List Str) := by decide
        obtain ⟨f1, f2, f3⟩ := leaf_facts (r := [x]) lk rfl rfl (by decide)
        cases hv : isN x with
        | false => exact iteF (no hv H2 s2)
        | true =>
          obtain ⟨zt, rfl⟩ : ∃ zt, x = .str zt := by
            cases x with
            | str zt => exact ⟨zt, rfl⟩
            | _ => cases hv
          cases hx
          refine iteT ⟨.ref a, rfl, a, _, 1, .str zt, rfl, rfl, (KeepT.of s2).seqt hs1, atI_nat (j := 1) rfl, b1, fun l nl => ⟨b3, fun p np => ?_⟩⟩
          exact fin (okX_var.trans hv) [zt] _ l p false false (s0.trans (s2.trans (same_upd nl))) (by rw [f1, isKey_no (by decide)]) (by rw [f2]; rfl) upd_same (by rw [sz, szs, szs, szs]; show 1 ≤ _; omega) (fun q => by
            rw [f3 q]
            show (q zt && true) = (match (if ("var" : Str) = "var" then some zt else none) with | some z => q z | none => true)
            rw [if_pos rfl, Bool.and_true]) np
      have e2 : z ≠ "var" := fun x => e2 (by simpa using x)
      -- key
      refine ⟨.ref a, rfl, a, _, 0, .str z, rfl, rfl, hs1, at0, rfl, _, rfl, ite2 (fun e3 => ?_) (fun e3 => ?_)⟩
      · have e3 : z = "key" := by simpa using e3
        subst e3
        refine ⟨.ref a, rfl, a, _, rfl, .inr hs1, ?_⟩
        rw [hlen]
        refine ⟨rfl, _, rfl, ?_⟩
        cases r with
        | cons y r =>
          rw [decide_eq_false (fun e => by injection e with e; rw [List.length_cons] at e; omega)]
          exact iteF (q0 okX_key H1 s0)
        | nil =>
          rw [decide_eq_true (by rfl)]
          have lk : look "key" = some ([] : List Str) := by decide
          obtain ⟨f1, f2, f3⟩ := leaf_facts (r := []) lk rfl rfl (by decide)
          refine iteT ⟨Nat.zero_le _, fun l nl => ⟨b3, fun p np => ?_⟩⟩
          exact fin okX_key [] _ l p true false (s0.trans (same_upd nl)) (by rw [f1]; rfl) (by rw [f2]; rfl) upd_same (Nat.zero_le _) (fun q => by rw [f3 q, varQ_no q (by decide)]; rfl) np
      have e3 : z ≠ "key" := fun x => e3 (by simpa using x)
      have hz : z ∉ (["int", "var", "key"] : List Str) := fun hz => by
        simp only [List.mem_cons, List.not_mem_nil, or_false] at hz
        rcases hz with hz | hz | hz
        · exact e1 hz
        · exact e2 hz
        · exact e3 hz
      have hshr : shBs r = true := by
        rw [shB, shBs, Bool.and_eq_true] at hsh
        exact hsh.2
      have hul : us.length ≤ 4000000 := by
        have := szs_len r
        rw [sz, szs] at hsz
        omega
      refine ⟨.ref a, rfl, a, z, us, r, ok, rfl, hs1, r1, hok, hshr, hul, hz, ?_, ?_⟩
      · intro eo H2 s2
        refine ⟨.non, rfl, rfl, _, rfl, ?_⟩
        rw [decide_eq_true (rfl : V.non = V.non)]
        exact iteT (q0 eo H2 (s0.trans s2))
      intro ps hf hsub H2 p0 l1 l2 ws s2 hp h1 h2 hws
      refine ⟨.ref p0, rfl, rfl, _, rfl, ?_⟩
      rw [decide_eq_false (show ¬ V.ref p0 = V.non from fun z => nomatch z)]
      refine iteF ⟨Nat.zero_le _, fun u0 nu0 => ?_⟩
      have s3 := same_upd (o := .lst []) nu0
      have hu0' : upd H2 u0 (.lst []) u0 = some (.lst []) := upd_same
      revert s3 hu0'
      generalize upd H2 u0 (.lst []) = H3
      intro s3 hu0'
      refine ⟨.ref a, rfl, a, _, 0, .str z, rfl, rfl, (KeepT.of (s2.trans s3)).seqt hs1, at0, h1000 (show 4 ≤ 1000 by decide), fun t1 nt1 => ?_⟩
      have s4 := same_upd (o := .tup [.str "count", .str "sum", .str "most", .str "first"]) nt1
      refine ⟨t1, _, rfl, .inr (.inl (.inl upd_same)), rfl, rfl, ?_⟩
      have ein : inV (.str z) [V.str "count", V.str "sum", V.str "most", V.str "first"] = decide (z ∈ aggW) := in_strs z aggW
      rw [ein]
      have hu4 := s4 _ _ hu0'
      revert s4 hu4
      generalize upd H3 t1 (.tup [V.str "count", V.str "sum", V.str "most", V.str "first"]) = H4
      intro s4 hu4
      have s24 := s3.trans s4
      have hp4 := s24 _ _ hp
      have h14 := s24 _ _ h1
      have h24 := s24 _ _ h2
      have lws := hws.len
      rw [List.length_map] at lws
      refine ⟨.ref p0, rfl, p0, _, 0, .ref l1, rfl, rfl, .inl (.inl hp4), at0, .ref p0, rfl, p0, _, 1, .ref l2, rfl, rfl, .inl (.inl hp4), atI_nat (j := 1) rfl, l1, l2, ws, _, rfl, .inl (.inl h14), .inl (.inl h24), ?_⟩
      refine for_it (walk_zip (xs := ws) (ys := ps.map fun q => V.bl q.2) (n := ps.length) (by rw [List.length_map]; omega)) (LInv a p0 H4 (decide (z ∈ aggW)) ps) ?_ ?_ ?_ ?_
      · exact ⟨u0, [], none, none, none, by rw [List.take_zero, List.any_nil, List.any_nil, Bool.or_false]; rfl, hu4, Nat.zero_le _, fun q => rfl, rfl, fun _ _ e => e⟩
      · rintro i σ H' _ ⟨u, us', y5, y6, y7, rfl, hu, hul', hq, ho, kk⟩
        exact ⟨.inl (.inl (kk _ _ h14)), .inl (.inl (kk _ _ h24))⟩
      · rintro i x σ H0' H' hi ⟨u, us', y5, y6, y7, rfl, hu, hul', hq, ho, kk⟩ ⟨T1, x1, y1, rfl, hT, rfl, hx1, hy1⟩
        replace hx1 : ws[i]? = some x1 := hx1
        replace hy1 : (ps.map fun q => V.bl q.2)[i]? = some y1 := hy1
        rw [List.getElem?_map] at hy1
        obtain ⟨pi, hpi, rfl⟩ := Option.map_eq_some_iff.mp hy1
        have sT := same_upd (o := .tup [x1, .bl pi.2]) hT
        have s2T := s24.trans (kk.trans sT)
        obtain ⟨y, hy, hyd⟩ := dd_at (hws.keep (KeepO.of s2T)) hx1
        rw [List.getElem?_map, hpi] at hy
        cases hy
        have hin : pi.1 ∈ r := hsub.subset (List.mem_map.mpr ⟨pi, List.mem_of_getElem? hpi, rfl⟩)
        obtain ⟨g1, g2, g3⟩ := hr1 _ hin
        refine ⟨_, _, rfl, .inl (.inl upd_same), rfl, _, _, rfl, _, _, rfl, rfl, ?_⟩
        refine ⟨x1, rfl, x1, pi.1, ok, rfl, hyd, hok, g1, g2, g3, fun eo H5 s5 => ?_, fun eo H5 p5 l5 us5 s5 hp5 hl5 hul5 hq5 => ?_⟩
        · refine ⟨.non, rfl, rfl, _, rfl, ?_⟩
          rw [decide_eq_true (rfl : V.non = V.non)]
          refine iteT (q0 ?_ H5 (s0.trans (s2.trans (s2T.trans s5))))
          rw [hf.ok, Bool.true_and, List.all_eq_false]
          exact ⟨pi, List.mem_of_getElem? hpi, by rw [eo]; exact Bool.false_ne_true⟩
        have hu5 := s5 _ _ (sT _ _ hu)
        refine ⟨.ref p5, rfl, rfl, _, rfl, ?_⟩
        rw [decide_eq_false (show ¬ V.ref p5 = V.non from fun z => nomatch z)]
        have hps : pi.1 ∈ ps.map (·.1) := List.mem_map.mpr ⟨pi, List.mem_of_getElem? hpi, rfl⟩
        have hpm : (ps.map (·.1))[i]? = some pi.1 := by rw [List.getElem?_map, hpi]; rfl
        have hsum : us'.length + us5.length ≤ szs ((ps.map (·.1)).take (i + 1)) := by
          rw [take_at hpm, szs_snoc]
          omega
        have hall : szs ((ps.map (·.1)).take (i + 1)) ≤ szs r := Nat.le_trans (szs_take _ _) (sub_sz hsub)
        have hszr : szs r ≤ 4000000 := by
          rw [sz, szs] at hsz
          omega
        refine iteF ⟨.ref u, rfl, .ref p5, rfl, p5, _, 0, .ref l5, rfl, rfl, .inl (.inl hp5), at0, u, l5, us'.map V.str, us5.map V.str, rfl, rfl, hu5, hl5, ?_, fun L nL => ?_⟩
        · rw [List.length_map, List.length_map]
          exact small1000' (by omega)
        have sL := same_upd (o := .lst (us'.map V.str ++ us5.map V.str)) nL
        have hL : upd H5 L (.lst (us'.map V.str ++ us5.map V.str)) L = some (.lst ((us' ++ us5).map V.str)) := by rw [upd_same, List.map_append]
        have hp6 := sL _ _ hp5
        revert sL hL hp6
        generalize upd H5 L (.lst (us'.map V.str ++ us5.map V.str)) = H6
        intro sL hL hp6
        refine orv_at (b := keyX pi.1 && !pi.2) rfl (fun R q => andv_at (fun R q => ⟨.ref p5, rfl, p5, _, 1, _, rfl, rfl, .inl (.inl hp6), atI_nat (j := 1) rfl, q⟩) (fun R q => ⟨.bl pi.2, rfl, pi.2, rfl, q⟩) q) ?_
        refine orv_at (b := !smX pi.1) rfl (fun R q => ⟨.ref p5, rfl, p5, _, 2, _, rfl, rfl, .inl (.inl hp6), atI_nat (j := 2) rfl, q⟩) ?_
        refine ⟨L, us' ++ us5, some x1, some (.bl pi.2), some (.ref p5), ?_, hL, by rw [List.length_append]; exact hsum, fun q => ?_, ?_, kk.trans (sT.trans (s5.trans sL))⟩
        · rw [take_at hpi, List.any_append, List.any_append, List.any_cons, List.any_nil, List.any_cons, List.any_nil, Bool.or_false, Bool.or_false, ← Bool.or_assoc]
          rfl
        · rw [List.all_append, hq q, hq5 q, take_at hpi, List.all_append, List.all_cons, List.all_nil, Bool.and_true]
        · rw [take_at hpi, List.all_append, ho, List.all_cons, List.all_nil, eo]
          rfl
      · rintro σ H5 ⟨u, us', y5, y6, y7, rfl, hu, hul', hq, ho, kk⟩
        rw [List.take_length] at ho
        have lps : (ps.map (·.1)).length = ps.length := List.length_map _
        rw [← lps, List.take_length] at hul'
        have hsr : us'.length ≤ sz (.tuple (.str z :: r)) := by
          have := sub_sz hsub
          rw [sz, szs]
          omega
        refine ⟨.ref u, rfl, _, rfl, _, rfl, b3, fun p np => ?_⟩
        refine fin (by rw [hf.ok, ho]; rfl) us' _ u p _ _ (s0.trans (s2.trans (s24.trans kk))) ?_ ?_ hu hsr (fun q => ?_) np
        · rw [List.take_length, hf.key rfl]
        · rw [List.take_length, hf.sm rfl, Bool.not_and, Bool.not_not]
          congr 1
          rw [← List.not_all_eq_any_not]
        · rw [hq q, List.take_length, hf.var rfl q]
    | _ => exact iteT (nf rfl H1 s0)
  | _ => exact iteT (iteT (nf rfl H (fun _ _ e => e)))
theorem ok_looked {f fi fv fn : Addr} {fd di dv dn : FuncData} {k : Nat} (F : Fun K "_law_looked" "_law_looked" s_law_looked f fd)
    (Gi : FnOk P w K mg base CX0 k fi di ["_law_thing"] (sp_inner K)) (gi : mg "_law_inner" = some (.ref fi)) (Ki : PySem.W.keepIn K (.ref fi) = true) (bi : Binds K di ["_law_thing"] [])
    (Gv : FnOk P w K mg base CX0 k fv dv ["_law_thing"] (sp_is K isV)) (gv : mg "_law_is_value" = some (.ref fv)) (Kv : PySem.W.keepIn K (.ref fv) = true) (bv : Binds K dv ["_law_thing"] [])
    (Gn : FnOk P w K mg base CX0 k fn dn ["_law_thing"] (sp_isS K isN)) (gn : mg "_law_is_name" = some (.ref fn)) (Kn : PySem.W.keepIn K (.ref fn) = true) (bn : Binds K dn ["_law_thing"] [])
    (g : mg "_law_looked" = some (.ref f)) (Kf : PySem.W.keepIn K (.ref f) = true) (b : Binds K fd ["_law_thing"] [])
    (misi : mg "isinstance" = none) (mtuple : mg "tuple" = none) (mstr : mg "str" = none) (mlen : mg "len" = none) (mzip : mg "zip" = none) : ∀ n : Nat, FnOk P w K mg base CX0 (k + n) f fd ["_law_thing"] (sp_looked K n)
  | 0 => ⟨fun vs H Q E h => by obtain ⟨_, _, _, _, _, _, _, h, _⟩ := h; exact absurd h (Nat.not_lt_zero _), fun A outer s H args us vs Q E hr he hb hv hs => by obtain ⟨_, _, _, _, _, _, _, h, _⟩ := hs; exact absurd h (Nat.not_lt_zero _)⟩
  | n + 1 => ok_looked_step (k := k + n) F (Gi.mono (by omega)) gi Ki bi (Gv.mono (by omega)) gv Kv bv (Gn.mono (by omega)) gn Kn bn (ok_looked F Gi gi Ki bi Gv gv Kv bv Gn gn Kn bn g Kf b misi mtuple mstr mlen mzip n) g Kf b misi mtuple mstr mlen mzip
end
end L9

namespace L9
open PySem PySem.Spec PyProof.Rows L2 GR AD RZ WX ZE TX RVT
section
variable {P : Program} {w : World} {K : PySem.W.Frag} {mg : Str → Option Value} {base : Heap}
abbrev s_law_fits : Stmt := topS 55
abbrev N_fit : List Str := ["_law_thing", "_law_lets", "_law_is_each_part", "_law_found", "_law_name"]
abbrev ps_fit : List Str := ["_law_thing", "_law_lets", "_law_is_each_part"]
theorem sc_law_fits : FnScope N_fit ps_fit (defScope s_law_fits) := ⟨rfl, rfl, rfl, by decide +kernel, rfl, by decide +kernel, by decide +kernel⟩
/-- an expression of a statement behind the lets kn -/
def fitL (kn : List Str) (e : Bool) (d : PyData) : Bool := okX d && (allX (varQ fun z => decide (z ∈ kn)) d && (if e then smX d else !keyX d))
/-- what may be looked at -/
structure Lk (n : Nat) (d : PyData) : Prop where
  sh : shB d = true
  dep : d.depth < n
  sz : sz d ≤ 4000000
def sp_fitL (K : PySem.W.Frag) (n : Nat) : Sp := fun vs H Q _ => ∃ (v : V) (d : PyData) (ok : Addr → Prop) (lA : Addr) (kn : List Str) (e : Bool), vs = [v, .ref lA, .bl e] ∧ Dd K ok H v d ∧ (∀ b, ok b → b ≠ sysModules) ∧ Lk n d ∧ H lA = some (.lst (kn.map V.str)) ∧
  ∀ H', Same H H' → Q (.bl (fitL kn e d)) H'
theorem ok_fitL {n : Nat} {f fl : Addr} {fd dl : FuncData} {k : Nat} (F : Fun K "_law_fits" "_law_fits" s_law_fits f fd)
    (Gl : FnOk P w K mg base CX0 k fl dl ["_law_thing"] (sp_looked K n)) (gl : mg "_law_looked" = some (.ref fl)) (Kl : PySem.W.keepIn K (.ref fl) = true) (bl : Binds K dl ["_law_thing"] []) : FnOk P w K mg base CX0 (k + 1) f fd ps_fit (sp_fitL K n) := by
  have nd := sc_law_fits.nd
  refine F.ok sc_law_fits (fun vs H Q E h => ?_) (fun cdv A outer s H vs Q E hr h => ?_)
  · obtain ⟨v, d, ok, lA, kn, e, rfl, _⟩ := h
    rfl
  obtain ⟨v, d, ok, lA, kn, e, rfl, hd, hok, hl, hA, q⟩ := h
  have hu0 := hr.units0
  refine ⟨_, (pss_cons (ps_set (i := 3) nd rfl (.inl rfl) (pe_call Gl hr (by rfl) gl Kl bl .nil pass0 (pa_cons (pv 0) pa_nil)))
      (pss_cons (ps_if (PW.pt (pw_or (pt_cmpR op_isN (pv 3) pe_non (nomark _)) (pw_or1 (pt_cmpR (op_neL0 hu0) (pe_lc (own := [("_law_name", 4)]) (tt := tTest (tOp (rIn K true) (tVar 4) (tVar 1))) (te := tVar 4) rfl nd (pi_list (pe_ix ix_tup (pv 3) pe_int (fun _ _ => rfl))) (blkOk_by (N := N_fit) (sc := defScope s_law_fits) (by decide +kernel)) (fun _ _ _ _ _ => (pg_name (i := 4) nd rfl (Or.inl rfl))) (fun _ _ _ _ _ => (pts_one (pt_cmpR op_notIn_seq (pv 4) (pv 1) (by rfl)))) (fun _ _ _ _ _ => (pv 4))) (pe_lst pa_nil) (nomark _)))))
      (pss_one (ps_ret pe_bl))
      pss_nil)
      (pss_one (ps_ret (pe_ifExp (pt_val (pv 2)) (pe_not (pe_ix ix_tup (pv 3) pe_int (fun _ _ => rfl))) (pe_not (pe_ix ix_tup (pv 3) pe_int (fun _ _ => rfl)))))))), ?_⟩
  refine ⟨v, rfl, v, d, ok, rfl, hd, hok, hl.sh, hl.dep, hl.sz, fun eo H1 s1 => ?_, fun eo H1 p l us s1 hp hls hul hq => ?_⟩
  · refine ⟨.non, rfl, rfl, _, rfl, ?_⟩
    rw [decide_eq_true (rfl : V.non = V.non)]
    have := q H1 s1
    unfold fitL at this
    rw [eo, Bool.false_and] at this
    exact iteT (iteT this)
  refine ⟨.ref p, rfl, rfl, _, rfl, ?_⟩
  rw [decide_eq_false (show ¬ V.ref p = V.non from fun z => nomatch z)]
  refine iteF ⟨.ref p, rfl, p, _, 0, .ref l, rfl, rfl, .inl (.inl hp), at0, l, rfl, ⟨_, .inl (.inl hls)⟩, fun D nD => ?_⟩
  refine lc_list (xs := us.map V.str) (fun i H' => ∃ bad : List V, H' D = some (.lst bad) ∧ bad.length ≤ i ∧ bad.isEmpty = ((us.take i).all fun z => decide (z ∈ kn)) ∧ ∀ b o, b ≠ D → H1 b = some o → H' b = some o) ?_ ?_ ?_ ?_
  · exact ⟨[], upd_same, Nat.le_refl _, rfl, fun b o nb e => by rw [upd_ne nb]; exact e⟩
  · rintro i H' _ ⟨bad, _, _, _, kp⟩
    exact .inl (.inl (kp _ _ (ne_of_none hls nD) hls))
  · rintro i y H' hy ⟨bad, hD, hbl, hbe, kp⟩
    rw [List.getElem?_map] at hy
    obtain ⟨z, hz, rfl⟩ := Option.map_eq_some_iff.mp hy
    have hi : i < us.length := (List.getElem?_eq_some_iff.mp hz).1
    have hlz := hl.sz
    refine ⟨rfl, .str z, rfl, .ref lA, rfl, lA, kn.map V.str, rfl, .inl (.inl (.inl (kp _ _ (ne_of_none (s1 _ _ hA) nD) (s1 _ _ hA)))), rfl, flat_strsW _, _, rfl, ?_⟩
    show if (!inV (.str z) (kn.map V.str)) = true then _ else _
    rw [in_strs, take_at hz, List.all_append, ← hbe, List.all_cons, List.all_nil, Bool.and_true]
    cases c : decide (z ∈ kn) with
    | true =>
      rw [Bool.and_true]
      exact iteF ⟨bad, hD, by omega, rfl, kp⟩
    | false =>
      refine iteT ⟨.str z, rfl, bad, hD, small1000' (by omega), bad ++ [.str z], upd_same, by rw [List.length_append]; show bad.length + 1 ≤ i + 1; omega, ?_, fun b o nb e => by rw [upd_ne nb]; exact kp b o nb e⟩
      rw [Bool.and_false]
      cases bad <;> rfl
  · rintro H2 ⟨bad, hD, hbl, hbe, kp⟩
    have sD : Same H1 H2 := fun b o e => kp b o (ne_of_none e nD) e
    rw [List.length_map, List.take_length] at hbe
    refine ⟨Nat.zero_le _, fun e0 ne0 => ?_⟩
    have s3 := same_upd (o := .lst []) ne0
    have hp3 := s3 _ _ (sD _ _ hp)
    have qq := q _ (s1.trans (sD.trans s3))
    refine ⟨D, e0, bad, rfl, rfl, .inl (.inl (s3 _ _ hD)), .inl (.inl upd_same), _, rfl, ?_⟩
    unfold fitL at qq
    rw [eo, Bool.true_and, ← hq, ← hbe] at qq
    cases hb : bad.isEmpty with
    | false =>
      rw [hb, Bool.false_and] at qq
      exact iteT qq
    | true =>
      rw [hb, Bool.true_and] at qq
      refine iteF ⟨.bl e, rfl, e, rfl, ?_⟩
      cases e with
      | true =>
        refine iteT ⟨.ref p, rfl, p, _, 2, _, rfl, rfl, .inl (.inl hp3), atI_nat (j := 2) rfl, _, rfl, ?_⟩
        rw [Bool.not_not]
        exact qq
      | false => exact iteF ⟨.ref p, rfl, p, _, 1, _, rfl, rfl, .inl (.inl hp3), atI_nat (j := 1) rfl, _, rfl, qq⟩
end
end L9

namespace L9
open PySem PySem.Spec PyProof.Rows L2 GR AD RZ WX ZE TX RVT
/-- a statement behind the names kn -/
def okS (kn : List Str) (d : PyData) : Bool := isSt d && mayF d kn
theorem fits_kl (d : PyData) : fitsS "keyless" d = (okX d && !keyX d) := by
  unfold fitsS okX
  rw [if_neg (by decide), if_neg (by decide), Bool.and_assoc]
theorem fits_row (d : PyData) : fitsS "row" d = (okX d && smX d) := by
  unfold fitsS okX smX
  rw [if_neg (by decide), if_pos rfl, Bool.and_assoc]
theorem fits_nm (d : PyData) : fitsS "name" d = isN d := by
  unfold fitsS
  rw [if_pos rfl]
theorem okS_nf {kn : List Str} {d : PyData} (h : isSt d = false) : okS kn d = false := by
  unfold okS
  rw [h, Bool.false_and]
theorem okS_none {kn : List Str} {z : Str} {r : List PyData} (h : lookS z = none) : okS kn (.tuple (.str z :: r)) = false := okS_nf (formS_none h)
theorem okS_len {kn : List Str} {z : Str} {fs : List Str} {r : List PyData} (h : lookS z = some fs) (hl : fs.length ≠ r.length) : okS kn (.tuple (.str z :: r)) = false := okS_nf (by rw [formS_some h, fitsAllS_len hl])
theorem okS_one {kn : List Str} {z : Str} (h : lookS z = some (["keyless"] : List Str)) (hz : z ≠ "let") (y : PyData) : okS kn (.tuple [.str z, y]) = fitL kn false y := by
  unfold okS mayF
  rw [formS_some h, kidsS_some h, letsL_no hz]
  show ((fitsS "keyless" y && true) && (!(([] : List Str).any fun z => decide (z ∈ kn)) && ([y].all (allX (varQ fun z => decide (z ∈ kn)))))) = (okX y && (allX (varQ fun z => decide (z ∈ kn)) y && !keyX y))
  rw [fits_kl, List.any_nil, List.all_cons, List.all_nil]
  cases okX y <;> cases keyX y <;> cases allX (varQ fun z => decide (z ∈ kn)) y <;> rfl
theorem okS_let {kn : List Str} (x y : PyData) : okS kn (.tuple [.str "let", x, y]) = (isN x && ((match x with | .str z => !decide (z ∈ kn) | _ => true) && fitL kn false y)) := by
  have h : lookS "let" = some (["name", "keyless"] : List Str) := by decide
  unfold okS mayF
  rw [formS_some h, kidsS_some h]
  cases hx : isN x with
  | false =>
    show ((fitsS "name" x && _) && _) = _
    rw [fits_nm, hx]
    rfl
  | true =>
    cases x with
    | str z =>
      show ((fitsS "name" (.str z) && (fitsS "keyless" y && true)) && (!([z].any fun z => decide (z ∈ kn)) && ([y].all (allX (varQ fun z => decide (z ∈ kn)))))) = (true && (!decide (z ∈ kn) && (okX y && (allX (varQ fun z => decide (z ∈ kn)) y && !keyX y))))
      rw [fits_nm, hx, fits_kl, List.any_cons, List.any_nil, List.all_cons, List.all_nil]
      cases okX y <;> cases keyX y <;> cases allX (varQ fun z => decide (z ∈ kn)) y <;> cases decide (z ∈ kn) <;> rfl
    | _ => cases hx
theorem okS_put {kn : List Str} (t x c y : PyData) : okS kn (.tuple [.str "put", t, x, c, y]) = (isN t && (isN c && (fitL kn false x && fitL kn false y))) := by
  have h : lookS "put" = some (["name", "keyless", "name", "keyless"] : List Str) := by decide
  unfold okS mayF
  rw [formS_some h, kidsS_some h, letsL_no (by decide)]
  show ((fitsS "name" t && (fitsS "keyless" x && (fitsS "name" c && (fitsS "keyless" y && true)))) && (!(([] : List Str).any fun z => decide (z ∈ kn)) && ([x, y].all (allX (varQ fun z => decide (z ∈ kn)))))) = (isN t && (isN c && ((okX x && (allX (varQ fun z => decide (z ∈ kn)) x && !keyX x)) && (okX y && (allX (varQ fun z => decide (z ∈ kn)) y && !keyX y)))))
  rw [fits_nm, fits_nm, fits_kl, fits_kl, List.any_nil, List.all_cons, List.all_cons, List.all_nil]
  cases isN t <;> cases isN c <;> cases okX x <;> cases okX y <;> cases keyX x <;> cases keyX y <;> cases allX (varQ fun z => decide (z ∈ kn)) x <;> cases allX (varQ fun z => decide (z ∈ kn)) y <;> rfl
theorem okS_each {kn : List Str} (t x c y : PyData) : okS kn (.tuple [.str "each", t, x, c, y]) = (isN t && (isN c && (fitL kn true x && fitL kn true y))) := by
  have h : lookS "each" = some (["name", "row", "name", "row"] : List Str) := by decide
  unfold okS mayF
  rw [formS_some h, kidsS_some h, letsL_no (by decide)]
  show ((fitsS "name" t && (fitsS "row" x && (fitsS "name" c && (fitsS "row" y && true)))) && (!(([] : List Str).any fun z => decide (z ∈ kn)) && ([x, y].all (allX (varQ fun z => decide (z ∈ kn)))))) = (isN t && (isN c && ((okX x && (allX (varQ fun z => decide (z ∈ kn)) x && smX x)) && (okX y && (allX (varQ fun z => decide (z ∈ kn)) y && smX y)))))
  rw [fits_nm, fits_nm, fits_row, fits_row, List.any_nil, List.all_cons, List.all_cons, List.all_nil]
  cases isN t <;> cases isN c <;> cases okX x <;> cases okX y <;> cases smX x <;> cases smX y <;> cases allX (varQ fun z => decide (z ∈ kn)) x <;> cases allX (varQ fun z => decide (z ∈ kn)) y <;> rfl
abbrev stK : List (Key × V) := [(.inr "let", .int 3), (.inr "need", .int 2), (.inr "tell", .int 2), (.inr "put", .int 5), (.inr "each", .int 5)]
abbrev stW : List Str := ["let", "need", "tell", "put", "each"]
theorem st_ok {z : Str} (h : z ∈ stW) : ∃ fs, lookS z = some fs ∧ valV (mergeK [] stK) (.inr z) = some (.int ((fs.length : Int) + 1)) := by
  simp only [stW, List.mem_cons, List.not_mem_nil, or_false] at h
  rcases h with rfl | rfl | rfl | rfl | rfl
  · exact ⟨["name", "keyless"], by decide, rfl⟩
  · exact ⟨["keyless"], by decide, rfl⟩
  · exact ⟨["keyless"], by decide, rfl⟩
  · exact ⟨["name", "keyless", "name", "keyless"], by decide, rfl⟩
  · exact ⟨["name", "row", "name", "row"], by decide, rfl⟩
theorem st_no {z : Str} (h : z ∉ stW) : valV (mergeK [] stK) (.inr z) = none := by
  have h2 := merge_has stK [] (.inr z)
  have e : (stK.any fun q => decide (q.1 = (.inr z : Key))) = false := by
    rw [List.any_eq_false]
    intro q hq
    rw [decide_eq_true_eq]
    intro e
    simp only [List.mem_cons, List.not_mem_nil, or_false] at hq
    rcases hq with rfl | rfl | rfl | rfl | rfl <;> (injection e with e; exact h (e ▸ by decide))
  rw [e] at h2
  cases hv : valV (mergeK [] stK) (.inr z) with
  | none => rfl
  | some x => rw [hv] at h2; cases h2
theorem lookS_no {z : Str} (h : z ∉ stW) : lookS z = none := by
  unfold lookS
  rw [Option.map_eq_none_iff, List.find?_eq_none]
  intro p hp
  rw [decide_eq_true_eq]
  rintro rfl
  have : p.1 ∈ tableS.map (·.1) := List.mem_map.mpr ⟨p, hp, rfl⟩
  simp only [tableS, stW, List.map_cons, List.map_nil, List.mem_cons, List.not_mem_nil, or_false, not_or] at this h
  rcases this with h' | h' | h' | h' | h' <;> simp_all
section
variable {P : Program} {w : World} {K : PySem.W.Frag} {mg : Str → Option Value} {base : Heap}
abbrev s_law_is_statement : Stmt := topS 56
abbrev N_lst : List Str := ["_law_thing", "_law_lets", "_law_is_each"]
theorem sc_law_is_statement : FnScope N_lst ["_law_thing", "_law_lets"] (defScope s_law_is_statement) := ⟨rfl, rfl, rfl, by decide +kernel, rfl, by decide +kernel, by decide +kernel⟩
def sp_lst (K : PySem.W.Frag) (n : Nat) : Sp := fun vs H Q _ => ∃ (v : V) (d : PyData) (ok : Addr → Prop) (lA : Addr) (kn : List Str), vs = [v, .ref lA] ∧ Dd K ok H v d ∧ (∀ b, ok b → b ≠ sysModules) ∧ (∀ ds, d = .tuple ds → ∀ y, y ∈ ds → Lk n y) ∧ H lA = some (.lst (kn.map V.str)) ∧
  ∀ H', Same H H' → Q (.bl (okS kn d)) H'
theorem ok_law_is_statement {n : Nat} {f fn ff : Addr} {fd dn df : FuncData} {k : Nat} (F : Fun K "_law_is_statement" "_law_is_statement" s_law_is_statement f fd)
    (Gn : FnOk P w K mg base CX0 k fn dn ["_law_thing"] (sp_isS K isN)) (gn : mg "_law_is_name" = some (.ref fn)) (Kn : PySem.W.keepIn K (.ref fn) = true) (bn : Binds K dn ["_law_thing"] [])
    (Gf : FnOk P w K mg base CX0 k ff df ps_fit (sp_fitL K n)) (gf : mg "_law_fits" = some (.ref ff)) (Kf : PySem.W.keepIn K (.ref ff) = true) (bf : Binds K df ps_fit [])
    (misi : mg "isinstance" = none) (mtuple : mg "tuple" = none) (mstr : mg "str" = none) (mlen : mg "len" = none) : FnOk P w K mg base CX0 (k + 1) f fd ["_law_thing", "_law_lets"] (sp_lst K n) := by
  have nd := sc_law_is_statement.nd
  refine F.ok sc_law_is_statement (fun vs H Q E h => ?_) (fun cdv A outer s H vs Q E hr h => ?_)
  · obtain ⟨v, d, ok, lA, kn, rfl, _⟩ := h
    rfl
  obtain ⟨v, d, ok, lA, kn, rfl, hd, hok, hl, hA, q⟩ := h
  have hu0 := hr.units0
  have hu1 := hu_of hr
  refine ⟨_, (pss_cons (ps_if (PW.pt (pw_or (pt_not (pt_val (pe_callB call_isi (by rfl) misi boot_isinstance (pa_cons (pv 0) (pa_cons (pe_bltn (v := .ty "tuple") (by rfl) mtuple boot_tuple rfl) pa_nil))))) (pw_or (pt_cmpR (ZE.op_eqT0 hu0) (pv 0) (pe_tup pa_nil) (nomark _)) (pw_or1 (pt_not (pt_val (pe_callB call_isi (by rfl) misi boot_isinstance (pa_cons (pe_ix ix_tup (pv 0) pe_int (fun _ _ => rfl)) (pa_cons (pe_bltn (v := .ty "str") (by rfl) mstr boot_str rfl) pa_nil)))))))))
      (pss_one (ps_ret pe_bl))
      pss_nil)
      (pss_cons (ps_if (pt_cmpR op_ne (pe_callB call_len_seq (by rfl) mlen PySem.boot_len (pa_cons (pv 0) pa_nil)) (pe_dget2 hu1 (pe_disp (pps_cons pe_str pe_int (pps_cons pe_str pe_int (pps_cons pe_str pe_int (pps_cons pe_str pe_int (pps_cons pe_str pe_int pps_nil))))) (by decide) rfl (by simp) (by decide)) (pe_ix ix_tup (pv 0) pe_int (fun _ _ => rfl)) pe_int ⟨by rfl, by rfl, by rfl, by rfl⟩) (nomark _))
      (pss_one (ps_ret pe_bl))
      pss_nil)
      (pss_cons (ps_if (pt_cmpR op_eq (pe_ix ix_tup (pv 0) pe_int (fun _ _ => rfl)) pe_str (nomark _))
      (pss_one (ps_ret (pe_and (pe_call Gn hr (by rfl) gn Kn bn .nil pass0 (pa_cons (pe_ix ix_tup (pv 0) pe_int (fun _ _ => rfl)) pa_nil)) (pe_and (pe_cmpR op_notIn_seq (pe_ix ix_tup (pv 0) pe_int (fun _ _ => rfl)) (pv 1) (by rfl)) (pe_one (pe_call Gf hr (by rfl) gf Kf bf .nil pass0 (pa_cons (pe_ix ix_tup (pv 0) pe_int (fun _ _ => rfl)) (pa_cons (pv 1) (pa_cons pe_bl pa_nil)))))))))
      pss_nil)
      (pss_cons (ps_if (pt_cmpR op_eq (pe_callB call_len_seq (by rfl) mlen PySem.boot_len (pa_cons (pv 0) pa_nil)) pe_int (nomark _))
      (pss_one (ps_ret (pe_call Gf hr (by rfl) gf Kf bf .nil pass0 (pa_cons (pe_ix ix_tup (pv 0) pe_int (fun _ _ => rfl)) (pa_cons (pv 1) (pa_cons pe_bl pa_nil))))))
      pss_nil)
      (pss_cons (ps_if (PW.pt (pw_or (pt_not (pt_val (pe_call Gn hr (by rfl) gn Kn bn .nil pass0 (pa_cons (pe_ix ix_tup (pv 0) pe_int (fun _ _ => rfl)) pa_nil)))) (pw_or1 (pt_not (pt_val (pe_call Gn hr (by rfl) gn Kn bn .nil pass0 (pa_cons (pe_ix ix_tup (pv 0) pe_int (fun _ _ => rfl)) pa_nil)))))))
      (pss_one (ps_ret pe_bl))
      pss_nil)
      (pss_cons (ps_set (i := 2) nd rfl (.inl rfl) (pe_cmpR op_eq (pe_ix ix_tup (pv 0) pe_int (fun _ _ => rfl)) pe_str (nomark _)))
      (pss_one (ps_ret (pe_and (pe_call Gf hr (by rfl) gf Kf bf .nil pass0 (pa_cons (pe_ix ix_tup (pv 0) pe_int (fun _ _ => rfl)) (pa_cons (pv 1) (pa_cons (pv 2) pa_nil)))) (pe_one (pe_call Gf hr (by rfl) gf Kf bf .nil pass0 (pa_cons (pe_ix ix_tup (pv 0) pe_int (fun _ _ => rfl)) (pa_cons (pv 1) (pa_cons (pv 2) pa_nil)))))))))))))), ?_⟩
  have nf : isSt d = false → ∀ H', Same H H' → Q (.bl false) H' := fun e H' s' => by
    have := q H' s'
    rw [okS_nf e] at this
    exact this
  refine ⟨v, rfl, v, .ty "tuple", _, _, _, rfl, .ty "tuple", hd.ty, kit_t K d, _, rfl, ?_⟩
  cases hd with
  | tup hs ha =>
    rename_i a xs ds
    refine iteF ⟨.ref a, rfl, Nat.zero_le _, fun t0 nt0 => ?_⟩
    have s0 := same_upd (o := .tup []) nt0
    refine ⟨a, t0, xs, rfl, rfl, (KeepT.of s0).seqt hs, .inl (.inl upd_same), _, rfl, ?_⟩
    have hs1 := (KeepT.of s0).seqt hs
    have ha1 := ha.keep (KeepO.of (ok := ok) s0)
    revert hs1 ha1 s0
    generalize upd H t0 (.tup []) = H1
    intro s0 hs1 ha1
    cases ha1 with
    | nil => exact iteT (iteT (nf rfl H1 s0))
    | cons h1 r1 =>
    rename_i v1 us d1 r
    refine iteF ⟨.ref a, rfl, a, _, 0, v1, rfl, rfl, hs1, at0, v1, .ty "str", _, _, _, rfl, .ty "str", h1.ty, kit_s K d1, _, rfl, ?_⟩
    cases h1 with
    | str z =>
      have hl1 := r1.len
      have hr1 : ∀ y, y ∈ r → Lk n y := fun y hy => hl _ rfl y (List.mem_cons_of_mem _ hy)
      have nth : ∀ {j : Nat} {y : PyData} {H' : Hp}, Same H1 H' → r[j]? = some y → ∃ u, (V.str z :: us)[j + 1]? = some u ∧ SqT K H' a (V.str z :: us) ∧ Dd K ok H' u y := fun {j y H'} s' hj => by
        have hjl : j < r.length := (List.getElem?_eq_some_iff.mp hj).1
        have hu : us[j]? = some (us[j]'(by omega)) := List.getElem?_eq_getElem _
        obtain ⟨y', e1, e2⟩ := dd_at (r1.keep (KeepO.of s')) hu
        rw [hj] at e1
        cases e1
        exact ⟨_, by rw [List.getElem?_cons_succ]; exact hu, (KeepT.of s').seqt hs1, e2⟩
      refine iteF ⟨.ref a, rfl, a, _, rfl, .inr hs1, fun dg ndg => ?_⟩
      refine ⟨upd_same, stK, rfl, by decide, ?_⟩
      have s2 : Same H1 (upd (upd H1 dg (.dK [])) dg (.dK (mergeK [] stK))) := fun b o e => by rw [upd_ne (ne_of_none e ndg), upd_ne (ne_of_none e ndg)]; exact e
      have hdg : upd (upd H1 dg (.dK [])) dg (.dK (mergeK [] stK)) dg = some (.dK (mergeK [] stK)) := upd_same
      revert s2 hdg
      generalize upd (upd H1 dg (.dK [])) dg (.dK (mergeK [] stK)) = H2
      intro s2 hdg
      have s02 := s0.trans s2
      have hs2 := (KeepT.of s2).seqt hs1
      refine ⟨dg, rfl, .inl ⟨_, .inl hdg⟩, .ref a, rfl, a, _, 0, .str z, rfl, rfl, hs2, at0, _, DGet.k (k := .inr z) hdg, ?_⟩
      have no : okS kn (.tuple (.str z :: r)) = false → ∀ H', Same H H' → Q (.bl false) H' := fun e H' s' => by
        have := q H' s'
        rw [e] at this
        exact this
      by_cases hw : z ∈ stW
      case neg =>
        rw [st_no hw]
        refine ⟨rfl, _, rfl, ?_⟩
        rw [show (!decide (V.int (((V.str z :: us).length : Nat) : Int) = (none : Option V).getD (.int 0))) = true from by
          rw [decide_eq_false (fun e => by have e : V.int (((V.str z :: us).length : Nat) : Int) = V.int 0 := e; injection e with e; rw [List.length_cons] at e; omega)]; rfl]
        exact iteT (no (okS_none (lookS_no hw)) H2 s02)
      obtain ⟨fs, lk, hv⟩ := st_ok hw
      rw [hv]
      refine ⟨rfl, _, rfl, ?_⟩
      by_cases c : fs.length = r.length
      case neg =>
        rw [show (!decide (V.int (((V.str z :: us).length : Nat) : Int) = (some (V.int ((fs.length : Int) + 1))).getD (.int 0))) = true from by
          rw [decide_eq_false (fun e => c (by have e : V.int (((V.str z :: us).length : Nat) : Int) = V.int ((fs.length : Int) + 1) := e; injection e with e; rw [List.length_cons] at e; omega))]; rfl]
        exact iteT (no (okS_len lk c) H2 s02)
      rw [show (!decide (V.int (((V.str z :: us).length : Nat) : Int) = (some (V.int ((fs.length : Int) + 1))).getD (.int 0))) = false from by
        rw [decide_eq_true (by show V.int _ = V.int _; congr 1; rw [List.length_cons]; omega)]; rfl]
      have hA2 := s02 _ _ hA
      -- let
      refine iteF ⟨.ref a, rfl, a, _, 0, .str z, rfl, rfl, hs2, at0, rfl, _, rfl, ite2 (fun e1 => ?_) (fun e1 => ?_)⟩
      · have e1 : z = "let" := by simpa using e1
        subst e1
        have lk3 : lookS "let" = some (["name", "keyless"] : List Str) := by decide
        rw [lk3] at lk
        cases lk
        obtain ⟨x, y, rfl⟩ : ∃ x y, r = [x, y] := by
          match r, c with
          | [x, y], _ => exact ⟨x, y, rfl⟩
        have q1 := q
        rw [okS_let] at q1
        obtain ⟨u1, a1, a2, a3⟩ := nth (j := 0) s2 rfl
        refine ⟨.ref a, rfl, a, _, 1, u1, rfl, rfl, a2, atI_nat (j := 1) a1, u1, x, ok, rfl, a3, shB_sh (hr1 x (by simp)).sh, fun H3 s3 => ⟨_, rfl, ?_⟩⟩
        cases hx : isN x with
        | false =>
          rw [hx, Bool.false_and] at q1
          exact iteF (q1 H3 (s02.trans s3))
        | true =>
        rw [hx, Bool.true_and] at q1
        obtain ⟨zt, rfl⟩ : ∃ zt, x = .str zt := by
          cases x with
          | str zt => exact ⟨zt, rfl⟩
          | _ => cases hx
        cases a3
        replace q1 : ∀ H', Same H H' → Q (.bl (!decide (zt ∈ kn) && fitL kn false y)) H' := q1
        have s23 := s2.trans s3
        refine iteT ⟨.ref a, rfl, a, _, 1, .str zt, rfl, rfl, (KeepT.of s3).seqt hs2, atI_nat (j := 1) a1, .ref lA, rfl, lA, kn.map V.str, rfl, .inl (.inl (.inl (s3 _ _ hA2))), rfl, flat_strsW _, _, rfl, ?_⟩
        show if (!inV (.str zt) (kn.map V.str)) = true then _ else _
        rw [in_strs]
        cases hk : decide (zt ∈ kn) with
        | true =>
          rw [hk] at q1
          exact iteF (q1 H3 (s02.trans s3))
        | false =>
        rw [hk, Bool.not_false, Bool.true_and] at q1
        obtain ⟨u2, b1, b2, b3⟩ := nth (j := 1) s23 rfl
        exact iteT ⟨.ref a, rfl, a, _, 2, u2, rfl, rfl, b2, atI_nat (j := 2) b1, .ref lA, rfl, u2, y, ok, lA, kn, false, rfl, b3, hok, hr1 y (by simp), s3 _ _ hA2, fun H4 s4 => q1 H4 (s02.trans (s3.trans s4))⟩
      have e1 : z ≠ "let" := fun x => e1 (by simpa using x)
      have hlen : (V.int (((V.str z :: us).length : Nat) : Int)) = .int ((r.length : Int) + 1) := by
        congr 1
        rw [List.length_cons, hl1]
        omega
      refine ⟨.ref a, rfl, a, _, rfl, .inr hs2, ?_⟩
      rw [hlen]
      refine ⟨rfl, _, rfl, ?_⟩
      by_cases hc : z = "need" ∨ z = "tell"
      · have lk3 : lookS z = some (["keyless"] : List Str) := by rcases hc with rfl | rfl <;> decide
        rw [lk3] at lk
        cases lk
        obtain ⟨y, rfl⟩ : ∃ y, r = [y] := by
          match r, c with
          | [y], _ => exact ⟨y, rfl⟩
        have q1 := q
        rw [okS_one lk3 e1] at q1
        obtain ⟨u1, a1, a2, a3⟩ := nth (j := 0) s2 rfl
        rw [decide_eq_true (by rfl)]
        exact iteT ⟨.ref a, rfl, a, _, 1, u1, rfl, rfl, a2, atI_nat (j := 1) a1, .ref lA, rfl, u1, y, ok, lA, kn, false, rfl, a3, hok, hr1 y (by simp), hA2, fun H4 s4 => q1 H4 (s02.trans s4)⟩
      have hpe : z = "put" ∨ z = "each" := by
        simp only [stW, List.mem_cons, List.not_mem_nil, or_false] at hw
        rcases hw with h | h | h | h | h
        · exact absurd h e1
        · exact absurd (.inl h) hc
        · exact absurd (.inr h) hc
        · exact .inl h
        · exact .inr h
      have hf4 : fs.length = 4 := by
        rcases hpe with rfl | rfl
        · rw [show lookS "put" = some (["name", "keyless", "name", "keyless"] : List Str) by decide] at lk
          cases lk
          rfl
        · rw [show lookS "each" = some (["name", "row", "name", "row"] : List Str) by decide] at lk
          cases lk
          rfl
      rw [decide_eq_false (fun e => by injection e with e; omega)]
      obtain ⟨t, x, cc, y, rfl⟩ : ∃ t x cc y, r = [t, x, cc, y] := by
        match r, c.symm.trans hf4 with
        | [t, x, cc, y], _ => exact ⟨t, x, cc, y, rfl⟩
      have q1 : ∀ H', Same H H' → Q (.bl (isN t && (isN cc && (fitL kn (decide (z = "each")) x && fitL kn (decide (z = "each")) y)))) H' := by
        rcases hpe with rfl | rfl
        · rw [okS_put] at q
          exact q
        · rw [okS_each] at q
          exact q
      obtain ⟨u1, a1, a2, a3⟩ := nth (j := 0) s2 rfl
      refine iteF ⟨.ref a, rfl, a, _, 1, u1, rfl, rfl, a2, atI_nat (j := 1) a1, u1, t, ok, rfl, a3, shB_sh (hr1 t (by simp)).sh, fun H3 s3 => ⟨_, rfl, ?_⟩⟩
      have s03 := s02.trans s3
      cases hx : isN t with
      | false =>
        rw [hx, Bool.false_and] at q1
        exact iteT (iteT (q1 H3 s03))
      | true =>
      rw [hx, Bool.true_and] at q1
      obtain ⟨u3, b1, b2, b3⟩ := nth (j := 2) (s2.trans s3) rfl
      refine iteF ⟨.ref a, rfl, a, _, 3, u3, rfl, rfl, b2, atI_nat (j := 3) b1, u3, cc, ok, rfl, b3, shB_sh (hr1 cc (by simp)).sh, fun H4 s4 => ⟨_, rfl, ?_⟩⟩
      have s04 := s03.trans s4
      cases hy : isN cc with
      | false =>
        rw [hy, Bool.false_and] at q1
        exact iteT (q1 H4 s04)
      | true =>
      rw [hy, Bool.true_and] at q1
      have s24 := s3.trans s4
      have s14 := s2.trans s24
      obtain ⟨u2, c1, c2, c3⟩ := nth (j := 1) s14 rfl
      have ez : decide (V.str z = V.str "each") = decide (z = "each") := decide_eq_decide.mpr ⟨fun e => by injection e, fun e => by rw [e]⟩
      refine iteF ⟨.ref a, rfl, a, _, 0, .str z, rfl, rfl, (KeepT.of s24).seqt hs2, at0, rfl, ?_⟩
      rw [ez]
      refine ⟨.ref a, rfl, a, _, 2, u2, rfl, rfl, c2, atI_nat (j := 2) c1, .ref lA, rfl, _, rfl, u2, x, ok, lA, kn, decide (z = "each"), rfl, c3, hok, hr1 x (by simp), s24 _ _ hA2, fun H5 s5 => ⟨_, rfl, ?_⟩⟩
      have s05 := s04.trans s5
      cases hf1 : fitL kn (decide (z = "each")) x with
      | false =>
        rw [hf1, Bool.false_and] at q1
        exact iteF (q1 H5 s05)
      | true =>
      rw [hf1, Bool.true_and] at q1
      obtain ⟨u4, d1, d2, d3⟩ := nth (j := 3) (s14.trans s5) rfl
      exact iteT ⟨.ref a, rfl, a, _, 4, u4, rfl, rfl, d2, atI_nat (j := 4) d1, .ref lA, rfl, _, rfl, u4, y, ok, lA, kn, decide (z = "each"), rfl, d3, hok, hr1 y (by simp), s5 _ _ (s24 _ _ hA2), fun H6 s6 => q1 H6 (s05.trans s6)⟩
    | _ => exact iteT (nf rfl H1 s0)
  | _ => exact iteT (iteT (nf rfl H (fun _ _ e => e)))
end
end L9

namespace L9
open PySem PySem.Spec PyProof.Rows L2 GR AD RZ WX ZE TX RVT
/-- a transaction, of anything -/
def isTr : PyData → Bool
  | .tuple ds => goT [] ds
  | _ => false
section
variable {P : Program} {w : World} {K : PySem.W.Frag} {mg : Str → Option Value} {base : Heap}
def sp_itA (K : PySem.W.Frag) : Sp := fun vs H Q _ => ∃ (v : V) (d : PyData) (ok : Addr → Prop) (S : List Str), vs = [v] ∧ Dd K ok H v d ∧ (∀ ds, d = .tuple ds → (∀ y, y ∈ ds → Zp S y) ∧ ds.length ≤ 4000000) ∧ S.length ≤ 60 ∧ ∀ H', Same H H' → Q (.bl (isTr d)) H'
theorem ok_is_tr {f fl fs fm : Addr} {fd dl dS dm : FuncData} {k : Nat} (F : Fun K "is_transaction" "is_transaction" s_is_transaction f fd) (Gl : FnOk P w K mg base CX0 k fl dl ["statement"] (sp_nl K)) (gl : mg "names_let" = some (.ref fl)) (Kl : PySem.W.keepIn K (.ref fl) = true) (bl : Binds K dl ["statement"] [])
    (Gs : FnOk P w K mg base CX0 k fs dS ["thing"] (sp_ist K)) (gs : mg "is_statement" = some (.ref fs)) (Ks : PySem.W.keepIn K (.ref fs) = true) (bs : Binds K dS ["thing"] [])
    (Gm : FnOk P w K mg base CX0 k fm dm ["statement", "known"] (sp_mf K)) (gm : mg "may_follow" = some (.ref fm)) (Km : PySem.W.keepIn K (.ref fm) = true) (bm : Binds K dm ["statement", "known"] []) (misi : mg "isinstance" = none) (mtuple : mg "tuple" = none) : FnOk P w K mg base CX0 (k + 1) f fd ["thing"] (sp_itA K) := by
  have nd := sc_is_transaction.nd
  refine F.ok sc_is_transaction (fun vs H Q E h => ?_) (fun cdv A outer s H vs Q E hr h => ?_)
  · obtain ⟨v, d, ok, S, rfl, _⟩ := h
    rfl
  obtain ⟨v, d, ok, S, rfl, hd, hZ', hS60, q⟩ := h
  refine ⟨_, (pss_cons (ps_if (pt_not (pt_val (pe_callB call_isi (by rfl) misi boot_isinstance (pa_cons (pv 0) (pa_cons (pe_bltn (v := .ty "tuple") (by rfl) mtuple boot_tuple rfl) pa_nil)))))
      (pss_one (ps_ret pe_bl))
      pss_nil)
      (pss_cons (ps_set (i := 1) nd rfl (.inl rfl) pe_dnewK)
      (pss_cons (ps_for PassesOwn.never rfl (pi_tup (pv 0)) (pg_name (i := 2) nd rfl (Or.inl rfl))
      (pss_cons (ps_if (PW.pt (pw_or (pt_not (pt_val (pe_call Gs hr (by rfl) gs Ks bs .nil pass0 (pa_cons (pv 2) pa_nil)))) (pw_or1 (pt_not (pt_val (pe_call Gm hr (by rfl) gm Km bm .nil pass0 (pa_cons (pv 2) (pa_cons (pv 1) pa_nil))))))))
        (pss_one (ps_ret pe_bl))
        pss_nil)
        (pss_one (ps_expr (pe_bm PySem.F.plainAttrs_dict PySem.F.slot_dict_update PySem.F.type_dict_update mt_dupd (pv 1) (pa_cons (pe_call Gl hr (by rfl) gl Kl bl .nil pass0 (pa_cons (pv 2) pa_nil)) pa_nil))))))
      (pss_one (ps_ret pe_bl))))), ?_⟩
  refine ⟨v, rfl, v, .ty "tuple", _, _, _, rfl, .ty "tuple", hd.ty, kit_t K _, _, rfl, ?_⟩
  cases d with
  | tuple ds =>
    obtain ⟨a, us, rfl, hS, hA⟩ := L9.Dd.tup_inv hd
    obtain ⟨hZ, hl1000⟩ := hZ' ds rfl
    have lu := hA.len
    replace q : ∀ H', Same H H' → Q (.bl (goT [] ds)) H' := q
    refine iteF ?_
    refine fun kA nk => ⟨.ref a, rfl, a, rfl, ⟨us, (KeepT.of (same_upd nk)).seqt hS⟩, ?_⟩
    have s0 := same_upd (o := .dK []) nk
    have hk0 : KnAt (upd H kA (.dK [])) kA [] := ⟨[], upd_same, rfl⟩
    revert s0 hk0
    generalize upd H kA (.dK []) = H1
    intro s0 hk0
    obtain ⟨kvs0, hk00, _⟩ := id hk0
    have keepO : ∀ {H' : Hp}, (∀ b o, b ≠ kA → H1 b = some o → H' b = some o) → KeepO (fun b => ok b ∧ b ≠ kA) H1 H' := fun kk =>
      ⟨fun b xs e => kk _ _ (ne_of e hk00 fun z => nomatch z) e, fun b o xs e => kk _ _ (ne_of e hk00 fun z => nomatch z) e, fun b o hb e => kk _ _ hb.2 e⟩
    have hAo := (hA.off nk).keep (KeepO.of s0)
    have hS1 := (KeepT.of s0).seqt hS
    refine for_it (walk_tup (xs := us)) (TInv K ok a kA H1 ds) ⟨none, [], rfl, hk0, Nat.le_refl _, rfl, fun b o _ e => e⟩ ?_ ?_ ?_
    · rintro i σ H' _ ⟨y, kn, rfl, _, _, _, kk⟩
      exact (keepO kk).seqt hS1
    · rintro i x σ H0' H' hi ⟨y, kn, rfl, hk, hkl, hg, kk⟩ ⟨rfl, hx⟩
      obtain ⟨d, hdi, hxd⟩ := dd_at hAo hx
      have hz := hZ d (List.mem_of_getElem? hdi)
      have hi2 : i < ds.length := (List.getElem?_eq_some_iff.mp hdi).1
      have hxd1 := hxd.keep (keepO kk)
      have fin : ∀ H2, Same H' H2 → Same H H2 := fun H2 s2 b o e => s2 _ _ (kk _ _ (ne_of_none e nk) (s0 _ _ e))
      rw [List.drop_eq_getElem_cons hi2, (List.getElem?_eq_some_iff.mp hdi).2, goT] at hg
      refine ⟨x, rfl, x, d, _, rfl, hxd1, hz.ys, fun H2 s2 => ⟨_, rfl, ?_⟩⟩
      cases c1 : isSt d with
      | false =>
        rw [c1, Bool.false_and] at hg
        have := q H2 (fin H2 s2)
        rw [hg] at this
        exact iteT (iteT this)
      | true =>
      rw [c1, Bool.true_and] at hg
      have hsp : Sp' d := ⟨c1, hz.ys⟩
      refine iteF ⟨x, rfl, .ref kA, rfl, x, d, _, kA, kn, S, rfl, hxd1.keep (KeepO.of s2), hsp, hk.keep s2, hS60, txS_in hz.tx c1, fun H3 s3 => ⟨_, rfl, ?_⟩⟩
      have s23 := s2.trans s3
      cases c2 : mayF d kn with
      | false =>
        rw [c2, Bool.false_and] at hg
        have := q H3 (fin H3 s23)
        rw [hg] at this
        exact iteT this
      | true =>
      rw [c2, Bool.true_and] at hg
      have hk3 := hk.keep s23
      have hty : tyV K "dict" (.ref kA) H3 := by
        obtain ⟨kvs, g1, _⟩ := hk3
        exact .inr (.inr (.inl ⟨rfl, .inl ⟨kvs, g1⟩⟩))
      refine iteF ⟨.ref kA, rfl, hty, x, rfl, x, d, _, rfl, hxd1.keep (KeepO.of s23), c1, fun H4 p s4 np hp => ?_⟩
      obtain ⟨kvs, g1, g2⟩ := hk3
      have g4 := s4 _ _ g1
      have hll := letsL_le d
      have hkv : kvs.length = kn.length := by
        have := congrArg List.length g2
        rwa [List.length_map, List.length_map] at this
      have hnot : ∀ z, z ∈ letsL d → z ∉ kn := by
        unfold mayF at c2
        rw [Bool.and_eq_true, Bool.not_eq_true'] at c2
        intro z hz2 hzk
        have := List.any_eq_false.mp c2.1 z hz2
        exact this (decide_eq_true hzk)
      refine ⟨kA, p, kvs, _, rfl, rfl, ne_of_none g1 np, g4, hp, ?_, some x, kn ++ letsL d, rfl, ⟨_, upd_same, KnAt.put g4 g2 hll hnot⟩, ?_, hg, fun b o hb e => ?_⟩
      · rw [List.length_map]
        exact small1000' (by omega)
      · rw [List.length_append]
        omega
      · rw [upd_ne hb]
        exact s4 _ _ (s23 _ _ (kk b o hb e))
    · rintro σ H' ⟨y, kn, rfl, hk, hkl, hg, kk⟩
      rw [lu, List.drop_length] at hg
      have := q H' fun b o e => kk _ _ (ne_of_none e nk) (s0 _ _ e)
      rw [hg] at this
      exact this
  | _ => exact iteT (q H fun _ _ e => e)
abbrev s_law_is_transaction : Stmt := topS 57
abbrev N_ltr : List Str := ["_law_thing", "_law_lets", "_law_statement_here"]
theorem sc_law_is_transaction : FnScope N_ltr ["_law_thing"] (defScope s_law_is_transaction) := ⟨rfl, rfl, rfl, by decide +kernel, rfl, by decide +kernel, by decide +kernel⟩
def sp_ltr (K : PySem.W.Frag) (n : Nat) : Sp := fun vs H Q _ => ∃ (v : V) (d : PyData) (ok : Addr → Prop), vs = [v] ∧ Dd K ok H v d ∧ (∀ b, ok b → b ≠ sysModules) ∧ (∀ ds, d = .tuple ds → (∀ y, y ∈ ds → ∀ es, y = .tuple es → ∀ x, x ∈ es → Lk n x) ∧ ds.length ≤ 4000000) ∧ ∀ H', Same H H' → Q (.bl (isTr d)) H'
/-- the walk over the statements -/
def UInv (v : V) (lA : Addr) (H0 : Hp) (ds : List PyData) (i : Nat) (σ : L2.St) (H : Hp) : Prop :=
  ∃ (y : Option V) (kn : List Str), σ = [some v, some (.ref lA), y] ∧ H lA = some (.lst (kn.map V.str)) ∧ kn.length ≤ i ∧ goT [] ds = goT kn (ds.drop i) ∧ (∀ b o, b ≠ lA → H0 b = some o → H b = some o)
theorem ok_law_is_transaction {n : Nat} {f fs : Addr} {fd dS : FuncData} {k : Nat} (F : Fun K "_law_is_transaction" "_law_is_transaction" s_law_is_transaction f fd)
    (Gs : FnOk P w K mg base CX0 k fs dS ["_law_thing", "_law_lets"] (sp_lst K n)) (gs : mg "_law_is_statement" = some (.ref fs)) (Ks : PySem.W.keepIn K (.ref fs) = true) (bs : Binds K dS ["_law_thing", "_law_lets"] [])
    (misi : mg "isinstance" = none) (mtuple : mg "tuple" = none) : FnOk P w K mg base CX0 (k + 1) f fd ["_law_thing"] (sp_ltr K n) := by
  have nd := sc_law_is_transaction.nd
  refine F.ok sc_law_is_transaction (fun vs H Q E h => ?_) (fun cdv A outer s H vs Q E hr h => ?_)
  · obtain ⟨v, d, ok, rfl, _⟩ := h
    rfl
  obtain ⟨v, d, ok, rfl, hd, hok, hl, q⟩ := h
  refine ⟨_, (pss_cons (ps_if (pt_not (pt_val (pe_callB call_isi (by rfl) misi boot_isinstance (pa_cons (pv 0) (pa_cons (pe_bltn (v := .ty "tuple") (by rfl) mtuple boot_tuple rfl) pa_nil)))))
      (pss_one (ps_ret pe_bl))
      pss_nil)
      (pss_cons (ps_set (i := 1) nd rfl (.inl rfl) (pe_lst pa_nil))
      (pss_cons (ps_for PassesOwn.never rfl (pi_tup (pv 0)) (pg_name (i := 2) nd rfl (Or.inl rfl))
      (pss_cons (ps_if (pt_not (pt_val (pe_call Gs hr (by rfl) gs Ks bs .nil pass0 (pa_cons (pv 2) (pa_cons (pv 1) pa_nil)))))
        (pss_one (ps_ret pe_bl))
        pss_nil)
        (pss_one (ps_if (pt_cmpR op_eq (pe_ix ix_tup (pv 2) pe_int (fun _ _ => rfl)) pe_str (nomark _))
        (pss_one (ps_expr (pe_bm PySem.F.plainAttrs_list PySem.F.slot_list_append PySem.F.type_list_append mt_append (pv 1) (pa_cons (pe_ix ix_tup (pv 2) pe_int (fun _ _ => rfl)) pa_nil))))
        pss_nil))))
      (pss_one (ps_ret pe_bl))))), ?_⟩
  refine ⟨v, rfl, v, .ty "tuple", _, _, _, rfl, .ty "tuple", hd.ty, kit_t K _, _, rfl, ?_⟩
  cases d with
  | tuple ds =>
    obtain ⟨a, us, rfl, hS, hA⟩ := L9.Dd.tup_inv hd
    obtain ⟨hZ, hl1000⟩ := hl ds rfl
    have lu := hA.len
    replace q : ∀ H', Same H H' → Q (.bl (goT [] ds)) H' := q
    refine iteF ⟨Nat.zero_le _, fun lA nl => ?_⟩
    refine ⟨.ref a, rfl, a, rfl, ⟨us, (KeepT.of (same_upd nl)).seqt hS⟩, ?_⟩
    have s0 := same_upd (o := .lst []) nl
    have hk0 : upd H lA (.lst []) lA = some (.lst (([] : List Str).map V.str)) := upd_same
    revert s0 hk0
    generalize upd H lA (.lst []) = H1
    intro s0 hk0
    have keepO : ∀ {H' : Hp}, (∀ b o, b ≠ lA → H1 b = some o → H' b = some o) → KeepO (fun b => ok b ∧ b ≠ lA) H1 H' := fun kk =>
      ⟨fun b xs e => kk _ _ (ne_of e hk0 fun z => nomatch z) e, fun b o xs e => kk _ _ (ne_of e hk0 fun z => nomatch z) e, fun b o hb e => kk _ _ hb.2 e⟩
    have hAo := (hA.off nl).keep (KeepO.of s0)
    have hS1 := (KeepT.of s0).seqt hS
    refine for_it (walk_tup (xs := us)) (UInv (.ref a) lA H1 ds) ⟨none, [], rfl, hk0, Nat.le_refl _, rfl, fun b o _ e => e⟩ ?_ ?_ ?_
    · rintro i σ H' _ ⟨y, kn, rfl, _, _, _, kk⟩
      exact (keepO kk).seqt hS1
    · rintro i x σ H0' H' hi ⟨y, kn, rfl, hk, hkl, hg, kk⟩ ⟨rfl, hx⟩
      obtain ⟨d, hdi, hxd⟩ := dd_at hAo hx
      have hz := hZ d (List.mem_of_getElem? hdi)
      have hi2 : i < ds.length := (List.getElem?_eq_some_iff.mp hdi).1
      have hxd1 := hxd.keep (keepO kk)
      have fin : ∀ H2, Same H' H2 → Same H H2 := fun H2 s2 b o e => s2 _ _ (kk _ _ (ne_of_none e nl) (s0 _ _ e))
      rw [List.drop_eq_getElem_cons hi2, (List.getElem?_eq_some_iff.mp hdi).2, goT, ← Bool.and_assoc] at hg
      refine ⟨x, rfl, .ref lA, rfl, x, d, _, lA, kn, rfl, hxd1, fun b hb => hok b hb.1, hz, hk, fun H2 s2 => ⟨_, rfl, ?_⟩⟩
      unfold okS
      cases c1 : (isSt d && mayF d kn) with
      | false =>
        rw [c1, Bool.false_and] at hg
        have := q H2 (fin H2 s2)
        rw [hg] at this
        exact iteT this
      | true =>
      rw [c1, Bool.true_and] at hg
      rw [Bool.and_eq_true] at c1
      obtain ⟨wd, fs', r, rfl, lk, hf⟩ := isSt_inv c1.1
      obtain ⟨a2, us2, rfl, hS2, hA2⟩ := L9.Dd.tup_inv hxd1
      cases hA2 with
      | cons h1 r1 =>
      cases h1
      rename_i us3
      have hk2 := s2 _ _ hk
      refine iteF ⟨.ref a2, rfl, a2, _, 0, .str wd, rfl, rfl, (KeepT.of s2).seqt hS2, at0, rfl, _, rfl, ite2 (fun e1 => ?_) (fun e1 => ?_)⟩
      · have e1 : wd = "let" := by simpa using e1
        subst e1
        rw [show lookS "let" = some (["name", "keyless"] : List Str) by decide] at lk
        cases lk
        obtain ⟨x1, r', rfl⟩ : ∃ x1 r', r = x1 :: r' := by
          cases r with
          | nil => cases hf
          | cons x1 r' => exact ⟨x1, r', rfl⟩
        have hx1 : isN x1 = true := by
          have hf' : (fitsS "name" x1 && fitsAllS ["keyless"] r') = true := hf
          rw [fits_nm, Bool.and_eq_true] at hf'
          exact hf'.1
        obtain ⟨zt, rfl⟩ : ∃ zt, x1 = .str zt := by
          cases x1 with
          | str zt => exact ⟨zt, rfl⟩
          | _ => cases hx1
        cases r1 with
        | cons h2 r2 =>
        cases h2
        have hll : letsL (.tuple (.str "let" :: .str zt :: r')) = [zt] := rfl
        rw [hll] at hg
        refine ⟨.ref lA, rfl, .inl ⟨rfl, _, .inl (.inl hk2)⟩, .ref a2, rfl, a2, _, 1, .str zt, rfl, rfl, (KeepT.of s2).seqt hS2, atI_nat (j := 1) rfl, lA, kn.map V.str, .str zt, rfl, rfl, hk2, ?_, _, kn ++ [zt], rfl, ?_, ?_, hg, fun b o hb e => ?_⟩
        · rw [List.length_map]
          exact Nat.lt_of_lt_of_le (show kn.length < 4000001 by omega) (by rw [sizeLine_eq]; decide)
        · rw [upd_same, List.map_append]
          rfl
        · rw [List.length_append]
          show kn.length + 1 ≤ i + 1
          omega
        · rw [upd_ne hb]
          exact s2 _ _ (kk b o hb e)
      · have e1 : wd ≠ "let" := fun x => e1 (by simpa using x)
        rw [letsL_no e1, List.append_nil] at hg
        exact ⟨_, kn, rfl, hk2, by omega, hg, fun b o hb e => s2 _ _ (kk b o hb e)⟩
    · rintro σ H' ⟨y, kn, rfl, hk, hkl, hg, kk⟩
      rw [lu, List.drop_length] at hg
      have := q H' fun b o e => kk _ _ (ne_of_none e nl) (s0 _ _ e)
      rw [hg] at this
      exact this
  | _ => exact iteT (q H fun _ _ e => e)
end
end L9

namespace L9
open PySem PySem.Spec PyProof.Rows L2 GR AD RZ WX ZE TX RVT
/-! slices by a place within -/
theorem six_lo (n j : Nat) : HT.sIx n 0 (some (j : Int)) = min j n := HT.sIx_nat _ _ j
theorem six_hi (n j : Nat) : HT.sIx n n (some (j : Int)) = min j n := HT.sIx_nat _ _ j
theorem cut_to {xs : List V} {j : Nat} (h : j ≤ xs.length) : cutV xs none (some (j : Int)) = xs.take j := by
  unfold cutV
  rw [HT.sIx_none, six_hi, List.drop_zero, Nat.min_eq_left h, Nat.sub_zero]
theorem cut_from {xs : List V} {j : Nat} (h : j ≤ xs.length) : cutV xs (some (j : Int)) none = xs.drop j := by
  unfold cutV
  rw [HT.sIx_none, six_lo, Nat.min_eq_left h]
  exact List.take_of_length_le (by rw [List.length_drop]; omega)
theorem cut_both {xs : List V} {i j : Nat} (h : i ≤ xs.length) : cutV xs (some (i : Int)) (some (j : Int)) = (xs.drop i).take (j - i) := by
  unfold cutV
  rw [six_lo, six_hi, Nat.min_eq_left h]
  by_cases e : j ≤ xs.length
  · rw [Nat.min_eq_left e]
  · rw [Nat.min_eq_right (by omega), List.take_of_length_le (by rw [List.length_drop]; omega), List.take_of_length_le (by rw [List.length_drop]; omega)]
/-- t[..] of a tuple as a value: some tuple of these, all as it was -/
theorem slice_any {K : PySem.W.Frag} {H : Hp} {a : Addr} {xs : List V} {lo hi : Option Int} {Q : VK} (hx : SqT K H a xs) (h : ∀ H' p, Same H H' → SqT K H' p (cutV xs lo hi) → Q (.ref p) H') : rSlA K (.ref a) lo hi H Q := by
  refine ⟨a, xs, rfl, hx, fun hw => ?_, fun hw p np => h _ p (same_upd np) (.inl (.inl upd_same))⟩
  refine h H a (fun _ _ e => e) ?_
  have : cutV xs lo hi = xs := by
    unfold cutV
    rw [hw.1, hw.2, List.drop_zero, Nat.sub_zero, List.take_length]
  rw [this]
  exact hx
theorem slice_from {σ : L2.St} {K : PySem.W.Frag} {H : Hp} {a : Addr} {xs : List V} {lo : Option Int} {Q : VK} (hx : SqT K H a xs) (h : ∀ H' p, Same H H' → SqT K H' p (cutV xs lo none) → Q (.ref p) H') : tNoPart σ H fun u H3 => rSlA K (.ref a) lo u H3 Q := slice_any hx h
/-- t + u of tuples as a value -/
theorem cat_any {K : PySem.W.Frag} {H : Hp} {a b : Addr} {xs ys : List V} {Q : VK} (hx : SqT K H a xs) (hy : SqT K H b ys) (hl : xs.length + ys.length ≤ sizeLine) (h : ∀ H' p, Same H H' → SqT K H' p (xs ++ ys) → Q (.ref p) H') : rCatA K (.ref a) (.ref b) H Q := by
  refine ⟨a, b, xs, ys, rfl, rfl, hx, hy, hl, fun e => ?_, fun _ e => ?_, fun _ _ p np => h _ p (same_upd np) (.inl (.inl upd_same))⟩
  · subst e
    exact h H b (fun _ _ e => e) hy
  · subst e
    exact h H a (fun _ _ e => e) (by rw [List.append_nil]; exact hx)
theorem dd_take {K : PySem.W.Frag} {ok : Addr → Prop} {H : Hp} : ∀ {vs : List V} {ds : List PyData} (i : Nat), DdAll K ok H vs ds → DdAll K ok H (vs.take i) (ds.take i)
  | _, _, 0, _ => by rw [List.take_zero, List.take_zero]; exact .nil
  | _, _, i + 1, .nil => by rw [List.take_nil, List.take_nil]; exact .nil
  | _, _, i + 1, .cons a t => by rw [List.take_succ_cons, List.take_succ_cons]; exact .cons a (dd_take i t)
theorem dd_drop {K : PySem.W.Frag} {ok : Addr → Prop} {H : Hp} : ∀ {vs : List V} {ds : List PyData} (i : Nat), DdAll K ok H vs ds → DdAll K ok H (vs.drop i) (ds.drop i)
  | _, _, 0, h => h
  | _, _, i + 1, .nil => by rw [List.drop_nil, List.drop_nil]; exact .nil
  | _, _, i + 1, .cons a t => by rw [List.drop_succ_cons, List.drop_succ_cons]; exact dd_drop i t
theorem dd_rev {K : PySem.W.Frag} {ok : Addr → Prop} {H : Hp} : ∀ {vs : List V} {ds : List PyData}, DdAll K ok H vs ds → DdAll K ok H vs.reverse ds.reverse
  | _, _, .nil => .nil
  | _, _, .cons a t => by rw [List.reverse_cons, List.reverse_cons]; exact (dd_rev t).app (.cons a .nil)
/-- the value of one that lies nowhere -/
def vOf : PyData → V
  | .bool b => .bl b
  | .int i => .int i
  | .str z => .str z
  | _ => .non
def isAtom : PyData → Bool
  | .none => true
  | .bool _ => true
  | .int _ => true
  | .str _ => true
  | _ => false
theorem dd_atoms {K : PySem.W.Frag} {ok : Addr → Prop} {H : Hp} : ∀ {ds : List PyData}, ds.all isAtom = true → DdAll K ok H (ds.map vOf) ds
  | [], _ => .nil
  | d :: ds, h => by
    rw [List.all_cons, Bool.and_eq_true] at h
    refine .cons ?_ (dd_atoms h.2)
    cases d with
    | none => exact .non
    | bool b => exact .bl b
    | int i => exact .int i
    | str z => exact .str z
    | _ => exact absurd h.1 (by simp [isAtom])
theorem dd_mem {K : PySem.W.Frag} {ok : Addr → Prop} {H : Hp} {v : V} : ∀ {vs : List V} {ds : List PyData}, DdAll K ok H vs ds → v ∈ vs → ∃ d, d ∈ ds ∧ Dd K ok H v d
  | _, _, .nil, h => (nomatch h)
  | _, _, .cons a t, h => by
    rcases List.mem_cons.mp h with rfl | h
    · exact ⟨_, List.mem_cons_self, a⟩
    · obtain ⟨d, hd, e⟩ := dd_mem t h
      exact ⟨d, List.mem_cons_of_mem _ hd, e⟩
/-- a new tuple of atoms -/
theorem dd_new {K : PySem.W.Frag} {ok : Addr → Prop} {H : Hp} {p : Addr} (ds : List PyData) (h : ds.all isAtom = true) : Dd K ok (upd H p (.tup (ds.map vOf))) (.ref p) (.tuple ds) := .tup (.inl (.inl upd_same)) (dd_atoms h)
/-- not the deck's, not where the modules are -/
def Off (d c : Addr) : Addr → Prop := fun b => b ≠ d ∧ b ≠ c ∧ b ≠ sysModules
theorem Keep.off {d c : Addr} {H H' : Hp} {N : Int} (k : Keep d c H H') (D : Deck H d c N) : KeepO (Off d c) H H' := by
  have t := k.t D
  exact ⟨t.1, t.2, fun b o h e => k b o h.1 h.2.1 e⟩
theorem dd_newM {K : PySem.W.Frag} {ok : Addr → Prop} {H : Hp} {p : Addr} (m : H p = none) (ds : List PyData) (h : ds.all isAtom = true) : Dd K ok (upd H p (.tup (ds.map vOf))) (.ref p) (.tuple ds) := .tup (.inl (.inl upd_same)) (dd_atoms h)
theorem dd_tupM {K : PySem.W.Frag} {ok : Addr → Prop} {H : Hp} {p : Addr} {xs : List V} {ds : List PyData} (m : H p = none) (h : DdAll K ok (upd H p (.tup xs)) xs ds) : Dd K ok (upd H p (.tup xs)) (.ref p) (.tuple ds) := .tup (.inl (.inl upd_same)) h
theorem dd_lstM {K : PySem.W.Frag} {ok : Addr → Prop} {H : Hp} {p : Addr} {xs : List V} {ds : List PyData} (m : H p = none) (o : ok p) (h : DdAll K ok (upd H p (.lst xs)) xs ds) : Dd K ok (upd H p (.lst xs)) (.ref p) (.list ds) := .lst upd_same o h
theorem dd_dkM {K : PySem.W.Frag} {ok : Addr → Prop} {H : Hp} {p : Addr} {kvs : List (Key × V)} {ds : List PyData} (m : H p = none) (o : ok p) (h : DdAll K ok (upd H p (.dK kvs)) (kvs.map (·.2)) ds) : Dd K ok (upd H p (.dK kvs)) (.ref p) (.dict ((kvs.map fun q => keyD q.1).zip ds)) := .dk upd_same o h
theorem dd_dkM2 {K : PySem.W.Frag} {ok : Addr → Prop} {H : Hp} {p : Addr} {o : HO} {kvs : List (Key × V)} {ds : List PyData} (m : H p = none) (a : ok p) (h : DdAll K ok (upd (upd H p o) p (.dK kvs)) (kvs.map (·.2)) ds) : Dd K ok (upd (upd H p o) p (.dK kvs)) (.ref p) (.dict ((kvs.map fun q => keyD q.1).zip ds)) := .dk upd_same a h
/-! ### texts -/
theorem upC : ∀ c, c < 127 → okC c = true → (Unicode.upperOf c).all okC = true := by decide +kernel
theorem upper_ok {z : Str} (h : z.cps.toList.all okC = true) : (Txt.upper z).cps.toList.all okC = true := by
  rw [List.all_eq_true] at h ⊢
  intro c hc
  have hc' : c ∈ (z.cps.mapIdx fun i c => (Unicode.upperOf c).toArray).flatten := Array.mem_toList_iff.mp hc
  rw [Array.mem_flatten] at hc'
  obtain ⟨xs, hxs, hcx⟩ := hc'
  rw [Array.mem_mapIdx] at hxs
  obtain ⟨i, hi, rfl⟩ := hxs
  have hd := h z.cps[i] (Array.mem_toList_iff.mpr (Array.getElem_mem hi))
  have := List.all_eq_true.mp (upC _ (okC_iff.mp hd).1.2 hd)
  exact this c (by simpa using hcx)
theorem cut_ok {z : Str} (h : z.cps.toList.all okC = true) (lo hi : Option Int) : (cutS z lo hi).cps.toList.all okC = true ∧ (cutS z lo hi).length ≤ z.length := by
  have hs : ((z.cps.toList.drop (HT.sIx z.length 0 lo)).take (HT.sIx z.length z.length hi - HT.sIx z.length 0 lo)).Sublist z.cps.toList := (List.take_sublist _ _).trans (List.drop_sublist _ _)
  refine ⟨?_, ?_⟩
  · rw [List.all_eq_true] at h ⊢
    intro c hc
    exact h c (hs.subset hc)
  · show (List.toArray _).size ≤ z.cps.size
    rw [List.size_toArray, ← Array.length_toList]
    exact hs.length_le
theorem app_ok {x y : Str} (hx : x.cps.toList.all okC = true) (hy : y.cps.toList.all okC = true) : (x ++ y).cps.toList.all okC = true ∧ (x ++ y).length = x.length + y.length := by
  refine ⟨?_, ?_⟩
  · show (x.cps ++ y.cps).toList.all okC = true
    rw [Array.toList_append, List.all_append, hx, hy]
    rfl
  · show (x.cps ++ y.cps).size = x.cps.size + y.cps.size
    rw [Array.size_append]
theorem int_ok (i : Int) : (PySem.Str.ofString (toString i)).cps.toList.all okC = true := by
  rw [List.all_eq_true]
  intro c hc
  have hc' : c ∈ (PyData.int i).shown.cps.toList := by rw [PyData.shown_int]; exact hc
  have h1 : ¬ (c ≠ 45 ∧ (c < 48 ∨ 57 < c)) := fun h => shown_int_free' h i hc'
  rw [okC_iff]
  omega
theorem cut_from' (xs : List V) (j : Nat) : cutV xs (some (j : Int)) none = xs.drop j := by
  by_cases h : j ≤ xs.length
  · exact cut_from h
  · unfold cutV
    rw [HT.sIx_none, six_lo, Nat.min_eq_right (by omega), List.drop_of_length_le (by omega), List.drop_of_length_le (by omega), List.take_nil]
/-! ### expressions that give known data -/
/-- whatever the heap behind H0, the expression gives x -/
def Gv (K : PySem.W.Frag) (ok : Addr → Prop) (H0 : Hp) (σ : L2.St) (t : TE) (x : PyData) : Prop := ∀ (H : Hp) (Q : VK), Same H0 H → (∀ H' v, Same H H' → Dd K ok H' v x → Q v H') → t σ H Q
def Ga (K : PySem.W.Frag) (ok : Addr → Prop) (H0 : Hp) (σ : L2.St) (t : TA) (xs : List PyData) : Prop := ∀ (H : Hp) (R : List V → Hp → Prop), Same H0 H → (∀ H' vs, Same H H' → DdAll K ok H' vs xs → R vs H') → t σ H R
theorem cut_to' (xs : List V) (j : Nat) : cutV xs none (some (j : Int)) = xs.take j := by
  unfold cutV
  rw [HT.sIx_none, six_hi, List.drop_zero, Nat.sub_zero]
  by_cases h : j ≤ xs.length
  · rw [Nat.min_eq_left h]
  · rw [Nat.min_eq_right (by omega), List.take_of_length_le (Nat.le_refl _), List.take_of_length_le (by omega)]
theorem atD0 {α : Type} {x : α} {l : List α} : atI (x :: l) 0 = some x := atI_nat (j := 0) rfl
theorem atD1 {α : Type} {x y : α} {l : List α} : atI (x :: y :: l) 1 = some y := atI_nat (j := 1) rfl
theorem dd_atI {K : PySem.W.Frag} {ok : Addr → Prop} {H : Hp} {vs : List V} {xs : List PyData} (h : DdAll K ok H vs xs) {i : Int} {x : PyData} (hx : atI xs i = some x) : ∃ v, atI vs i = some v ∧ Dd K ok H v x := by
  have hl := h.len
  unfold atI at hx ⊢
  rw [hl]
  cases e : ixN xs.length i with
  | none => rw [e] at hx; cases hx
  | some j =>
    rw [e] at hx
    have hx' : xs[j]? = some x := hx
    have hj := (List.getElem?_eq_some_iff.mp hx').1
    obtain ⟨y, hy, hyd⟩ := dd_at h (List.getElem?_eq_getElem (show j < vs.length by omega))
    rw [hx'] at hy
    obtain rfl : x = y := Option.some.inj hy
    exact ⟨vs[j], List.getElem?_eq_getElem _, hyd⟩
theorem dd_tup {K : PySem.W.Frag} {ok : Addr → Prop} {H : Hp} {a : Addr} {us : List V} {xs : List PyData} (h : SqT K H a us) (h2 : DdAll K ok H us xs) : Dd K ok H (.ref a) (.tuple xs) := .tup h h2
section
variable {K : PySem.W.Frag} {ok : Addr → Prop} {H0 : Hp} {σ : L2.St}
theorem gv_c {v : V} {x : PyData} (h : ∀ H, Dd K ok H v x) : Gv K ok H0 σ (tC v) x := fun H Q _ q => q H v (fun _ _ e => e) (h H)
theorem gv_i (i : Int) : Gv K ok H0 σ (tC (.int i)) (.int i) := gv_c fun _ => .int i
theorem gv_s (z : Str) : Gv K ok H0 σ (tC (.str z)) (.str z) := gv_c fun _ => .str z
theorem gv_b (b : Bool) : Gv K ok H0 σ (tC (.bl b)) (.bool b) := gv_c fun _ => .bl b
theorem gv_var {i : Nat} {v : V} {x : PyData} (h : σ[i]? = some (some v)) (hd : Dd K ok H0 v x) : Gv K ok H0 σ (tVar i) x := fun H Q s q => ⟨v, h, q H v (fun _ _ e => e) (hd.keep (KeepO.of s))⟩
theorem ga_nil : Ga K ok H0 σ tNil [] := fun H R _ q => q H [] (fun _ _ e => e) .nil
theorem ga_cons {t : TE} {ta : TA} {x : PyData} {xs : List PyData} (h : Gv K ok H0 σ t x) (h2 : Ga K ok H0 σ ta xs) : Ga K ok H0 σ (tCons t ta) (x :: xs) := fun H R s q =>
  h H _ s fun H1 v s1 hv => h2 H1 _ (s.trans s1) fun H2 vs s2 hvs => q H2 (v :: vs) (s1.trans s2) (.cons (hv.keep (KeepO.of s2)) hvs)
theorem gv_tup {t : TA} {xs : List PyData} (h : Ga K ok H0 σ t xs) (hl : xs.length ≤ 1000 := by exact Nat.le_of_ble_eq_true rfl) : Gv K ok H0 σ (tTup t) (.tuple xs) := fun H Q s q =>
  h H _ s fun H1 vs s1 hvs => ⟨small_le (by rw [hvs.len]; exact hl), fun p np => by
    have sp := same_upd (o := .tup vs) np
    exact q _ _ (s1.trans sp) (.tup (.inl (.inl upd_same)) (hvs.keep (KeepO.of sp)))⟩
theorem gv_cat {t u : TE} {xs ys : List PyData} (h : Gv K ok H0 σ t (.tuple xs)) (h2 : Gv K ok H0 σ u (.tuple ys)) (hl : xs.length + ys.length ≤ 4000000 := by (try simp only [List.length_append, List.length_cons, List.length_nil, List.length_take, List.length_drop]); omega) : Gv K ok H0 σ (tOp (rCatA K) t u) (.tuple (xs ++ ys)) := fun H Q s q =>
  h H _ s fun H1 v s1 hv => h2 H1 _ (s.trans s1) fun H2 v2 s2 hv2 => by
    obtain ⟨a, us, rfl, ha, hau⟩ := L9.Dd.tup_inv (hv.keep (KeepO.of s2))
    obtain ⟨b, ws, rfl, hb, hbw⟩ := L9.Dd.tup_inv hv2
    have l1 := hau.len
    have l2 := hbw.len
    exact cat_any ha hb (by rw [l1, l2, sizeLine_eq]; omega) fun H3 p s3 hp => q H3 (.ref p) (s1.trans (s2.trans s3)) (.tup hp ((hau.app hbw).keep (KeepO.of s3)))
theorem gv_add {t u : TE} {i j : Int} (h : Gv K ok H0 σ t (.int i)) (h2 : Gv K ok H0 σ u (.int j)) : Gv K ok H0 σ (tOp (rI0 fun i j => .int (i + j)) t u) (.int (i + j)) := fun H Q s q =>
  h H _ s fun H1 v s1 hv => h2 H1 _ (s.trans s1) fun H2 v2 s2 hv2 => by
    cases hv
    cases hv2
    exact ⟨i, j, rfl, rfl, q H2 _ (s1.trans s2) (.int _)⟩
theorem gv_neg {t : TE} {i : Int} (h : Gv K ok H0 σ t (.int i)) : Gv K ok H0 σ (tUn (rU fun i => .int (-i)) t) (.int (-i)) := fun H Q s q =>
  h H _ s fun H1 v s1 hv => by
    cases hv
    exact ⟨i, rfl, q H1 _ s1 (.int _)⟩
theorem gv_ix {t u : TE} {xs : List PyData} {i : Int} {x : PyData} (h : Gv K ok H0 σ t (.tuple xs)) (h2 : Gv K ok H0 σ u (.int i)) (hx : atI xs i = some x) : Gv K ok H0 σ (tOp (rIxT K) t u) x := fun H Q s q =>
  h H _ s fun H1 v s1 hv => h2 H1 _ (s.trans s1) fun H2 v2 s2 hv2 => by
    obtain ⟨a, us, rfl, ha, hau⟩ := L9.Dd.tup_inv (hv.keep (KeepO.of s2))
    cases hv2
    obtain ⟨w, hw, hwd⟩ := dd_atI hau hx
    exact ⟨a, us, i, w, rfl, rfl, ha, hw, q H2 w (s1.trans s2) hwd⟩
theorem gv_to {t u : TE} {xs : List PyData} {j : Nat} (h : Gv K ok H0 σ t (.tuple xs)) (h2 : Gv K ok H0 σ u (.int (j : Int))) : Gv K ok H0 σ (L2.tSl (rSlA K) t tNoPart (tPart u)) (.tuple (xs.take j)) := fun H Q s q =>
  h H _ s fun H1 v s1 hv => by
    obtain ⟨a, us, rfl, ha, hau⟩ := L9.Dd.tup_inv hv
    have l1 := hau.len
    exact h2 H1 _ (s.trans s1) fun H2 v2 s2 hv2 => by
      cases hv2
      refine ⟨(j : Int), rfl, slice_any ((KeepT.of s2).seqt ha) fun H3 p s3 hp => ?_⟩
      rw [cut_to'] at hp
      exact q H3 _ (s1.trans (s2.trans s3)) (.tup hp ((dd_take j hau).keep (KeepO.of (s2.trans s3))))
theorem gv_from {t u : TE} {xs : List PyData} {j : Nat} (h : Gv K ok H0 σ t (.tuple xs)) (h2 : Gv K ok H0 σ u (.int (j : Int))) : Gv K ok H0 σ (L2.tSl (rSlA K) t (tPart u) tNoPart) (.tuple (xs.drop j)) := fun H Q s q =>
  h H _ s fun H1 v s1 hv => by
    obtain ⟨a, us, rfl, ha, hau⟩ := L9.Dd.tup_inv hv
    exact h2 H1 _ (s.trans s1) fun H2 v2 s2 hv2 => by
      cases hv2
      refine ⟨(j : Int), rfl, slice_from ((KeepT.of s2).seqt ha) fun H3 p s3 hp => ?_⟩
      rw [cut_from'] at hp
      exact q H3 _ (s1.trans (s2.trans s3)) (.tup hp ((dd_drop j hau).keep (KeepO.of (s2.trans s3))))
theorem gv_rev {t : TE} {xs : List PyData} (h : Gv K ok H0 σ t (.tuple xs)) : Gv K ok H0 σ (tRevT K t) (.tuple xs.reverse) := fun H Q s q =>
  h H _ s fun H1 v s1 hv => by
    obtain ⟨a, us, rfl, ha, hau⟩ := L9.Dd.tup_inv hv
    refine ⟨a, us, rfl, ha, fun p np => ?_⟩
    have sp := same_upd (o := .tup us.reverse) np
    exact q _ _ (s1.trans sp) (.tup (.inl (.inl upd_same)) ((dd_rev hau).keep (KeepO.of sp)))
def rListS (K : PySem.W.Frag) : List V → Hp → VK → Prop := fun xs H Q => ∃ p ys, xs = [.ref p] ∧ SqT K H p ys ∧ ∀ l, H l = none → l ≠ sysModules → Q (.ref l) (upd H l (.lst ys))
theorem gv_list {t : TE} {xs : List PyData} (h : Gv K ok H0 σ t (.tuple xs)) (hok : ∀ H p, Same H0 H → H p = none → p ≠ sysModules → ok p) : Gv K ok H0 σ (tCB (rListS K) (tCons t tNil)) (.list xs) := fun H Q s q =>
  h H _ s fun H1 v s1 hv => by
    obtain ⟨a, us, rfl, ha, hau⟩ := L9.Dd.tup_inv hv
    refine ⟨a, us, rfl, ha, fun p np far => ?_⟩
    have sp := same_upd (o := .lst us) np
    exact q _ _ (s1.trans sp) (.lst upd_same (hok _ p (s.trans s1) np far) (hau.keep (KeepO.of sp)))
/-- a new list of such -/
theorem gl_lst {t : TA} {xs : List PyData} (h : Ga K ok H0 σ t xs) (hl : xs.length ≤ 1000) {H : Hp} {Q : VK} (s : Same H0 H) (q : ∀ H' L vs, Same H H' → H L = none → H' L = some (.lst vs) → DdAll K ok H' vs xs → Q (.ref L) H') : tLst t σ H Q :=
  h H _ s fun H1 vs s1 hvs => ⟨small_le (by rw [hvs.len]; exact hl), fun p np => by
    have sp := same_upd (o := .lst vs) np
    exact q _ p vs (s1.trans sp) (s1.free np) upd_same (hvs.keep (KeepO.of sp))⟩
/-- a list, and more behind it -/
theorem gl_more {i : Nat} {L : Addr} {us : List V} {ys : List PyData} {t : TA} {xs : List PyData} (hi : σ[i]? = some (some (.ref L))) (hL : H0 L = some (.lst us)) (hu : DdAll K ok H0 us ys) (h : Ga K ok H0 σ t xs) (hl : ys.length + xs.length ≤ 1000) {H : Hp} {Q : VK} (s : Same H0 H)
    (q : ∀ H' L' vs, Same H H' → H L' = none → H' L' = some (.lst vs) → DdAll K (fun b => ok b ∧ b ≠ L') H' vs (ys ++ xs) → Q (.ref L') H') : tOp rCat (tVar i) (tLst t) σ H Q := by
  refine ⟨.ref L, hi, gl_lst h (by omega) s fun H1 L1 vs s1 n1 hL1 hvs => ?_⟩
  have l1 := hu.len
  have l2 := hvs.len
  refine ⟨L, L1, us, vs, rfl, rfl, s1 _ _ (s _ _ hL), hL1, small_le (by omega), fun p np => ?_⟩
  have sp := same_upd (o := .lst (us ++ vs)) np
  exact q _ p _ (s1.trans sp) (s1.free np) upd_same ((((hu.keep (KeepO.of (s.trans s1))).app hvs).off np).keep (KeepO.of sp))
end
section
variable {K : PySem.W.Frag} {ok : Addr → Prop} {H0 : Hp} {σ : L2.St}
theorem gv_n : Gv K ok H0 σ (tC .non) .none := gv_c fun _ => .non
theorem gv_lst {t : TA} {xs : List PyData} (h : Ga K ok H0 σ t xs) (hok : ∀ H p, Same H0 H → H p = none → p ≠ sysModules → ok p) (hl : xs.length ≤ 1000 := by exact Nat.le_of_ble_eq_true rfl) : Gv K ok H0 σ (tLstS t) (.list xs) := fun H Q s q =>
  h H _ s fun H1 vs s1 hvs => ⟨small_le (by rw [hvs.len]; exact hl), fun p np far => by
    have sp := same_upd (o := .lst vs) np
    exact q _ _ (s1.trans sp) (.lst upd_same (hok _ p (s.trans s1) np far) (hvs.keep (KeepO.of sp)))⟩
theorem gv_d0 (hok : ∀ H p, Same H0 H → H p = none → p ≠ sysModules → ok p) : Gv K ok H0 σ (tSys tDNewK) (.dict []) := fun H Q s q =>
  fun p np far => q _ _ (same_upd np) (.dk (kvs := []) (ds := []) upd_same (hok H p s np (far p _ upd_same)) .nil)
theorem gv_d1 (z : Str) (i : Int) (hok : ∀ H p, Same H0 H → H p = none → p ≠ sysModules → ok p) : Gv K ok H0 σ (tSys (tDisp [(tC (.str z), tC (.int i))])) (.dict [(.str z, .int i)]) := fun H Q s q => by
  intro p np
  refine ⟨upd_same, [(.inr z, .int i)], rfl, Nat.le_of_ble_eq_true rfl, fun far => ?_⟩
  have s2 : Same H (upd (upd H p (.dK [])) p (.dK (mergeK [] [(.inr z, .int i)]))) := fun b o e => by rw [upd_ne (ne_of_none e np), upd_ne (ne_of_none e np)]; exact e
  exact q _ _ s2 (.dk (kvs := [(.inr z, .int i)]) (ds := [.int i]) upd_same (hok H p s np (far p _ upd_same)) (.cons (.int i) .nil))
theorem gv_pow {t u : TE} {i j : Int} (h : Gv K ok H0 σ t (.int i)) (h2 : Gv K ok H0 σ u (.int j)) (hc : CPow i j) : Gv K ok H0 σ (tOp (rI CPow fun i j => .int (i ^ j.toNat)) t u) (.int (i ^ j.toNat)) := fun H Q s q =>
  h H _ s fun H1 v s1 hv => h2 H1 _ (s.trans s1) fun H2 v2 s2 hv2 => by
    cases hv
    cases hv2
    exact ⟨i, j, rfl, rfl, hc, q H2 _ (s1.trans s2) (.int _)⟩
theorem gv_sub {t u : TE} {i j : Int} (h : Gv K ok H0 σ t (.int i)) (h2 : Gv K ok H0 σ u (.int j)) : Gv K ok H0 σ (tOp (rI0 fun i j => .int (i - j)) t u) (.int (i - j)) := fun H Q s q =>
  h H _ s fun H1 v s1 hv => h2 H1 _ (s.trans s1) fun H2 v2 s2 hv2 => by
    cases hv
    cases hv2
    exact ⟨i, j, rfl, rfl, q H2 _ (s1.trans s2) (.int _)⟩
theorem cut_but1 (xs : List V) : cutV xs none (some (-1)) = xs.take (xs.length - 1) := by
  unfold cutV
  have e : HT.sIx xs.length xs.length (some (-1)) = xs.length - 1 := by
    unfold HT.sIx
    show (if (-1 : Int) < 0 then _ else _) = _
    rw [if_pos (by decide)]
    omega
  rw [HT.sIx_none, e, List.drop_zero, Nat.sub_zero]
theorem gv_but1 {t : TE} {xs : List PyData} (h : Gv K ok H0 σ t (.tuple xs)) : Gv K ok H0 σ (L2.tSl (rSlA K) t tNoPart (tPart (tUn (rU fun i => .int (-i)) (tC (.int 1))))) (.tuple (xs.take (xs.length - 1))) := fun H Q s q =>
  h H _ s fun H1 v s1 hv => by
    obtain ⟨a, us, rfl, ha, hau⟩ := L9.Dd.tup_inv hv
    have l1 := hau.len
    refine ⟨1, rfl, -1, rfl, slice_any ha fun H3 p s3 hp => ?_⟩
    rw [cut_but1, l1] at hp
    exact q H3 _ (s1.trans s3) (.tup hp ((dd_take _ hau).keep (KeepO.of s3)))
def rSA : R2 := fun x y H Q => ∃ i j, x = .str i ∧ y = .str j ∧ i.length + j.length ≤ sizeLine ∧ Q (.str (i ++ j)) H
theorem gv_sadd {t u : TE} {x y : Str} (h : Gv K ok H0 σ t (.str x)) (h2 : Gv K ok H0 σ u (.str y)) (hl : x.length + y.length ≤ sizeLine) : Gv K ok H0 σ (tOp rSA t u) (.str (x ++ y)) := fun H Q s q =>
  h H _ s fun H1 v s1 hv => h2 H1 _ (s.trans s1) fun H2 v2 s2 hv2 => by
    cases hv
    cases hv2
    have g : ∃ i j, V.str x = .str i ∧ V.str y = .str j ∧ i.length + j.length ≤ sizeLine ∧ Q (.str (i ++ j)) H2 := ⟨x, y, rfl, rfl, hl, q H2 _ (s1.trans s2) (.str _)⟩
    exact g
theorem gv_sbut1 {t : TE} {x : Str} (h : Gv K ok H0 σ t (.str x)) (hl : x.length ≤ sizeLine) : Gv K ok H0 σ (L2.tSl rSlS t tNoPart (tPart (tUn (rU fun i => .int (-i)) (tC (.int 1))))) (.str (cutS x none (some (-1)))) := fun H Q s q =>
  h H _ s fun H1 v s1 hv => by
    cases hv
    exact ⟨1, rfl, -1, rfl, x, rfl, hl, q H1 _ s1 (.str _)⟩
/-- a new list, some times over -/
theorem gl_rep {t : TA} {xs : List PyData} (h : Ga K ok H0 σ t xs) (n : Nat) (hn : n ≤ 3) (hl : xs.length ≤ 100) {H : Hp} {Q : VK} (s : Same H0 H) (q : ∀ H' L vs, Same H H' → H L = none → H' L = some (.lst vs) → DdAll K ok H' vs (List.replicate n xs).flatten → Q (.ref L) H') : tOp rRep (tLst t) (tC (.int (n : Int))) σ H Q :=
  gl_lst h (by omega) s fun H1 L vs s1 n1 h1 hvs => by
    have l1 := hvs.len
    refine ⟨L, (n : Int), vs, rfl, rfl, h1, by omega, by omega, ?_, fun p np => ?_⟩
    · have : vs.length * n ≤ 100 * 3 := Nat.mul_le_mul (by omega) hn
      rw [show ((n : Int)).toNat = n by omega]
      exact small_le (by omega)
    · have sp := same_upd (o := .lst (List.replicate n vs).flatten) np
      rw [show ((n : Int)).toNat = n by omega]
      have all : ∀ m : Nat, DdAll K ok H1 (List.replicate m vs).flatten (List.replicate m xs).flatten := fun m => by
        induction m with
        | zero => exact .nil
        | succ m ih =>
          rw [List.replicate_succ, List.replicate_succ, List.flatten_cons, List.flatten_cons]
          exact hvs.app ih
      exact q _ p _ (s1.trans sp) (s1.free np) upd_same ((all n).keep (KeepO.of sp))
/-- a list, and another one behind it -/
theorem gl_cat {i : Nat} {L : Addr} {us : List V} {ys xs : List PyData} {t : TE} (hi : σ[i]? = some (some (.ref L))) (hL : H0 L = some (.lst us)) (hu : DdAll K ok H0 us ys) {H : Hp} {Q : VK} (s : Same H0 H) (hl : ys.length + xs.length ≤ 1000)
    (ht : ∀ R : VK, (∀ H' L' vs, Same H H' → H L' = none → H' L' = some (.lst vs) → DdAll K ok H' vs xs → R (.ref L') H') → t σ H R)
    (q : ∀ H' L' vs, Same H H' → H L' = none → H' L' = some (.lst vs) → DdAll K (fun b => ok b ∧ b ≠ L') H' vs (ys ++ xs) → Q (.ref L') H') : tOp rCat (tVar i) t σ H Q := by
  refine ⟨.ref L, hi, ht _ fun H1 L1 vs s1 n1 hL1 hvs => ?_⟩
  have l1 := hu.len
  have l2 := hvs.len
  refine ⟨L, L1, us, vs, rfl, rfl, s1 _ _ (s _ _ hL), hL1, small_le (by omega), fun p np => ?_⟩
  have sp := same_upd (o := .lst (us ++ vs)) np
  exact q _ p _ (s1.trans sp) (s1.free np) upd_same ((((hu.keep (KeepO.of (s.trans s1))).app hvs).off np).keep (KeepO.of sp))
end
end L9

namespace L9
open PySem PySem.Spec PyProof.Rows L2 GR AD RZ WX ZE TX RVT
/-! bounds, without what is shown -/
structure Be (S : List Str) (q m s p : Nat) (x : PyData) : Prop extends El S q m p x where
  sz : sz x ≤ s
structure Bes (S : List Str) (q m s p : Nat) (xs : List PyData) : Prop where
  els : ∀ y, y ∈ xs → El S q m p y
  sz : szs xs ≤ s
theorem szs_rev : ∀ zs : List PyData, szs zs.reverse = szs zs
  | [] => rfl
  | z :: zs => by rw [List.reverse_cons, szs_append, szs_rev zs, szs, szs, szs]; omega
section
variable {S S' : List Str} {q m q' m' s p s' p' : Nat}
theorem Bd.be {l : Nat} {x : PyData} (h : Bd S q m l s p x) : Be S q m s p x := ⟨h.toEl, h.sz⟩
theorem Be.mono {x : PyData} (h : Be S q m s p x) (hs : s ≤ s') (hp : p ≤ p') : Be S q m s' p' x := ⟨h.toEl.mono hp, Nat.le_trans h.sz hs⟩
theorem Be.wide {x : PyData} (h : Be S q m s p x) (hS : ∀ z, z ∈ S → z ∈ S') (hq : q ≤ q') (hm : m ≤ m') (hs : s ≤ s') (hp : p ≤ p') : Be S' q' m' s' p' x := ⟨h.toEl.wide hS hq hm hp, Nat.le_trans h.sz hs⟩
theorem Bes.mono {xs : List PyData} (h : Bes S q m s p xs) (hs : s ≤ s') (hp : p ≤ p') : Bes S q m s' p' xs := ⟨fun y hy => (h.els y hy).mono hp, Nat.le_trans h.sz hs⟩
theorem Bes.wide {xs : List PyData} (h : Bes S q m s p xs) (hS : ∀ z, z ∈ S → z ∈ S') (hq : q ≤ q') (hm : m ≤ m') (hs : s ≤ s') (hp : p ≤ p') : Bes S' q' m' s' p' xs := ⟨fun y hy => (h.els y hy).wide hS hq hm hp, Nat.le_trans h.sz hs⟩
theorem Bes.tup {xs : List PyData} (h : Bes S q m s p xs) : Be S q m (s + 1) (p + 1) (.tuple xs) := ⟨El.tup h.els, by rw [L9.sz]; have := h.sz; omega⟩
theorem Bes.lst {xs : List PyData} (h : Bes S q m s p xs) : Be S q m (s + 1) (p + 1) (.list xs) := ⟨El.lst h.els, by show 1 ≤ s + 1; omega⟩
theorem Be.inv {xs : List PyData} (h : Be S q m s (p + 1) (.tuple xs)) : Bes S q m (s - 1) p xs := by
  have h1 := h.dep
  have h2 := h.at'
  have h6 := h.sz
  simp only [PyData.depth] at h1
  rw [atB] at h2
  rw [L9.sz] at h6
  exact ⟨els_inv (by omega) h2, by omega⟩
theorem Bes.two {x : PyData} {xs : List PyData} (h : Be S q m s p x) (t : Bes S q m s' p xs) : Bes S q m (s + s') p (x :: xs) := by
  refine ⟨fun y hy => ?_, ?_⟩
  · rcases List.mem_cons.mp hy with rfl | hy
    · exact h.toEl
    · exact t.els y hy
  · rw [szs]; have := h.sz; have := t.sz; omega
theorem Bes.nil : Bes S q m 0 p [] := ⟨fun y hy => (nomatch hy), Nat.le_refl _⟩
theorem Bes.app {xs ys : List PyData} (h : Bes S q m s p xs) (t : Bes S q m s' p ys) : Bes S q m (s + s') p (xs ++ ys) := by
  refine ⟨mem3 h.els t.els, ?_⟩
  rw [szs_append]; have := h.sz; have := t.sz; omega
theorem Bes.sub {A B xs : List PyData} (h : Bes S q m s p xs) (e : xs = A ++ B) : Bes S q m s p A ∧ Bes S q m s p B ∧ szs A + szs B ≤ s := by
  subst e
  have h2 := h.sz
  rw [szs_append] at h2
  exact ⟨⟨fun y hy => h.els y (List.mem_append_left _ hy), by omega⟩, ⟨fun y hy => h.els y (List.mem_append_right _ hy), by omega⟩, h2⟩
theorem Bes.take {xs : List PyData} (h : Bes S q m s p xs) (i : Nat) : Bes S q m s p (xs.take i) := (h.sub (List.take_append_drop i xs).symm).1
theorem Bes.drop {xs : List PyData} (h : Bes S q m s p xs) (i : Nat) : Bes S q m s p (xs.drop i) := (h.sub (List.take_append_drop i xs).symm).2.1
theorem Bes.rev {xs : List PyData} (h : Bes S q m s p xs) : Bes S q m s p xs.reverse := ⟨fun y hy => h.els y (List.mem_reverse.mp hy), by rw [szs_rev]; exact h.sz⟩
/-- one item, and what lies around it -/
structure Ar (S : List Str) (q m s p : Nat) (A : List PyData) (x : PyData) (B : List PyData) : Prop where
  ela : ∀ y, y ∈ A → El S q m p y
  elx : El S q m p x
  elb : ∀ y, y ∈ B → El S q m p y
  sz : szs A + sz x + szs B ≤ s
theorem Bes.around {i : Nat} {xs : List PyData} {x : PyData} (h : Bes S q m s p xs) (hx : xs[i]? = some x) : Ar S q m s p (xs.take i) x (xs.drop (i + 1)) := by
  have h2 := h.sz
  have h3 := h.els
  rw [cut_at hx, szs_append, szs] at h2
  exact ⟨fun y hy => h3 y (List.mem_of_mem_take hy), h3 x (List.mem_of_getElem? hx), fun y hy => h3 y (List.mem_of_mem_drop hy), by omega⟩
variable {A B : List PyData} {x : PyData}
theorem Ar.out (h : Ar S q m s p A x B) : Bes S q m s p (A ++ B) := ⟨mem3 h.ela h.elb, by have := h.sz; rw [szs_append]; omega⟩
theorem Ar.twice (h : Ar S q m s p A x B) : Bes S q m (2 * s) p ((A ++ [x]) ++ (x :: B)) := by
  have h2 := h.sz
  refine ⟨mem3 (mem3 h.ela (mem1 h.elx)) (fun y hy => ?_), ?_⟩
  · rcases List.mem_cons.mp hy with rfl | hy
    · exact h.elx
    · exact h.elb y hy
  · rw [szs_append, szs_append, szs, szs, szs]; omega
theorem Ar.put {y : PyData} {n r : Nat} (h : Ar S q m s p A x B) (hS : ∀ z, z ∈ S → z ∈ S') (hq : q ≤ q') (hy : Be S' q' m (2 * L9.sz x + n) (p + r) y) : Bes S' q' m (2 * s + n) (p + r) ((A ++ [y]) ++ B) := by
  have h2 := h.sz
  have h4 := hy.sz
  refine ⟨mem3 (mem3 (fun y hy => (h.ela y hy).wide hS hq (Nat.le_refl _) (by omega)) (mem1 hy.toEl)) (fun y hy => (h.elb y hy).wide hS hq (Nat.le_refl _) (by omega)), ?_⟩
  rw [szs_append, szs_append, szs, szs]; omega
theorem bes_turn {i : Nat} {xs : List PyData} (h : Bes S q m s p xs) : Bes S q m s p ((xs.take i ++ ((xs.drop i).take 2).reverse) ++ xs.drop (i + 2)) := by
  have e1 : xs = xs.take i ++ ((xs.drop i).take 2 ++ xs.drop (i + 2)) := by
    rw [← List.drop_drop, List.take_append_drop, List.take_append_drop]
  have h2 := h.sz
  have h3 := h.els
  rw [e1] at h2
  rw [szs_append, szs_append] at h2
  refine ⟨mem3 (mem3 (fun y hy => h3 y (List.mem_of_mem_take hy)) (fun y hy => ?_)) (fun y hy => h3 y (List.mem_of_mem_drop hy)), ?_⟩
  · exact h3 y (List.mem_of_mem_drop (List.mem_of_mem_take (List.mem_reverse.mp hy)))
  · rw [szs_append, szs_append, szs_rev]; omega
end
/-! what is put in -/
abbrev moreS : List Str := ["A", "abcdefgh", "abcdefghi", "a b", "a1", "1", "/"]
theorem more_ok : ∀ w, w ∈ moreS → w.length ≤ 9 ∧ w.cps.toList.all okC = true := by decide +kernel
structure Cs (S : List Str) (q m : Nat) : Prop extends Bs S q m where
  more : ∀ w, w ∈ moreS → w ∈ S
  q1 : 9 ≤ q
  q2 : q ≤ 300
  m3 : 10 ^ 39 ≤ m
/-- at most one more text, twice as large -/
def Oe (S : List Str) (q m s p : Nat) (x : PyData) : Prop := ∃ z, Be (z :: S) (3 * q) m (2 * s + 40) (p + 3) x
section
variable {S : List Str} {q m s p : Nat}
theorem Be.oe {s' p' : Nat} {x : PyData} (h : Be S q m s' p' x) (hs : s' ≤ 2 * s + 40) (hp : p' ≤ p + 3) : Oe S q m s p x := ⟨"", h.wide (fun z hz => List.mem_cons_of_mem _ hz) (by omega) (Nat.le_refl _) hs hp⟩
theorem oe_str {z : Str} (hl : z.length ≤ 3 * q) (hc : z.cps.toList.all okC = true) : Oe S q m s p (.str z) := ⟨z, (bd_str List.mem_cons_self hl hc).be.mono (by omega) (by omega)⟩
/-- the texts that may stand in what is put in -/
structure Nn (S : List Str) (q : Nat) (z : Str) : Prop where
  mem : z ∈ S
  len : z.length ≤ q
  ok : z.cps.toList.all okC = true
theorem Nn.at' {z : Str} (h : Nn S q z) : atB S q m (.str z) = true := by
  rw [atB, h.ok, decide_eq_true h.mem, decide_eq_true h.len]
  rfl
theorem Cs.w (h : Cs S q m) {w : Str} (hw : w ∈ baseS ∨ w ∈ moreS) : atB S q m (.str w) = true := by
  rcases hw with hw | hw
  · obtain ⟨h1, h2⟩ := base_ok w hw
    exact Nn.at' ⟨h.base w hw, Nat.le_trans h1 (Nat.le_trans (by decide) h.q1), h2⟩
  · obtain ⟨h1, h2⟩ := more_ok w hw
    exact Nn.at' ⟨h.more w hw, Nat.le_trans h1 h.q1, h2⟩
theorem Cs.i (h : Cs S q m) {i : Int} (hi : i.natAbs ≤ 10 ^ 39) : atB S q m (.int i) = true := by
  rw [atB]
  exact decide_eq_true (Nat.le_trans hi h.m3)
theorem at_tup (ds : List PyData) : atB S q m (.tuple ds) = atBs S q m ds := by rw [atB]
theorem at_lst (ds : List PyData) : atB S q m (.list ds) = atBs S q m ds := by rw [atB]
theorem at_dic (kvs : List (PyData × PyData)) : atB S q m (.dict kvs) = atBk S q m kvs := by rw [atB]
theorem at_non : atB S q m .none = true := by rw [atB] <;> simp
theorem at_bl (b : Bool) : atB S q m (.bool b) = true := by rw [atB] <;> simp
theorem at_nil : atBs S q m [] = true := by rw [atBs]
theorem at_cons (d : PyData) (ds : List PyData) : atBs S q m (d :: ds) = (atB S q m d && atBs S q m ds) := by rw [atBs]
theorem atk_nil : atBk S q m [] = true := by rw [atBk]
theorem atk_cons (d e : PyData) (ds : List (PyData × PyData)) : atBk S q m ((d, e) :: ds) = ((atB S q m d && atB S q m e) && atBk S q m ds) := by rw [atBk]
end
abbrev kD : PyData := .tuple [.str "key"]
abbrev iD (i : Int) : PyData := .tuple [.str "int", .int i]
abbrev odd1 : List PyData := [.none, .bool true, .bool false, .int 0, .int 1, .int (-1), .int (10 ^ 18), .int (10 ^ 18 + 1), .int (0 - 10 ^ 18 - 1), .int (10 ^ 39), .str "", .str "key", .str "let", .str "sum"]
abbrev odd2 (z : Str) : List PyData := [.str "A", .str "abcdefgh", .str "abcdefghi", .str "a b", .str "a1", .str "in", .str z, .tuple [], .list [], .dict [], .dict [(.str "a", .int 1)], kD, .list [.str "key"]]
abbrev odd3 : List PyData := [.tuple [.str "key", .int 1]]
abbrev odd4 (z : Str) : List PyData := [iD (10 ^ 18), iD (10 ^ 18 + 1), .tuple [.str "int", .bool true], .tuple [.str "int", .str "1"], .tuple [.str "int"], .tuple [.str "var", .str z]]
abbrev odd5 (z : Str) : List PyData := [.tuple [.str "var", .str "if"], .tuple [.str "var", .str z, .int 1], .tuple [.str "let", .int 0], .tuple [.str "let", .int (0 - 1)], .tuple [.str "cell", .str z, kD, .str z]]
abbrev odd6 : List PyData := [.tuple [.str "at", iD 1, kD], .tuple [.str "at", kD, iD 1], .tuple [.str "if", kD, iD 1]]
abbrev rowZ (z : Str) : PyData := .tuple [.str "cell", .str z, kD, .str "in"]
abbrev odd7 (z : Str) : List PyData := [.tuple [.str "count", .str z, .tuple [], rowZ z, kD], .tuple [.str "first", .str z, .tuple [], rowZ z, kD, kD]]
abbrev odd8 (z : Str) : List PyData := [.tuple [.str "count", .str z, .tuple [iD 1], rowZ z, iD 1], .tuple [.str "count", .str z, .tuple [], iD 1, iD 1]]
abbrev odd9 (z : Str) : List PyData := [.tuple [.str "most", .str z, .tuple [], rowZ z, kD, iD 1], .tuple [.str "sum", .str z, .list [], rowZ z, iD 1, iD 1]]
abbrev odd0 : List PyData := [.tuple [.str "+", iD 1], .tuple [.str "/", iD 1, iD 1], .tuple [.str "tell", kD], .tuple [.str "tell", iD 1]]
abbrev oddA (z : Str) : List PyData := odd1 ++ odd2 z ++ odd3 ++ odd4 z ++ odd5 z ++ odd6 ++ odd7 z ++ odd8 z ++ odd9 z ++ odd0
theorem odd_len (z : Str) : (oddA z).length = 52 := rfl
theorem dep_all : ∀ {ds : List PyData} {n : Nat}, PyData.depthAll ds ≤ n → ∀ y, y ∈ ds → y.depth ≤ n := fun h y hy => Nat.le_trans (depth_mem hy) h
theorem odd_bd {S : List Str} {q m s p : Nat} (h : Cs S q m) {z : Str} (hz : Nn S q z) : ∀ y, y ∈ oddA z → Oe S q m s p y := by
  have w := fun (w : Str) (hw : w ∈ baseS ∨ w ∈ moreS) => h.w hw
  have i := fun (i : Int) (hi : i.natAbs ≤ 10 ^ 39) => h.i hi
  have ha : atBs S q m (oddA z) = true := by
    have hn : atB S q m (.str z) = true := hz.at'
    show atBs S q m _ = true
    simp only [oddA, odd1, odd2, odd3, odd4, odd5, odd6, odd7, odd8, odd9, odd0, kD, iD, rowZ, List.cons_append, List.nil_append, at_tup, at_lst, at_dic, at_non, at_bl, at_nil, at_cons, atk_nil, atk_cons, hn,
      w "" (.inl (by decide)), w "key" (.inl (by decide)), w "let" (.inl (by decide)), w "sum" (.inl (by decide)), w "A" (.inr (by decide)), w "abcdefgh" (.inr (by decide)), w "abcdefghi" (.inr (by decide)), w "a b" (.inr (by decide)), w "a1" (.inr (by decide)), w "in" (.inl (by decide)), w "a" (.inl (by decide)),
      w "int" (.inl (by decide)), w "1" (.inr (by decide)), w "var" (.inl (by decide)), w "if" (.inl (by decide)), w "cell" (.inl (by decide)), w "at" (.inl (by decide)), w "count" (.inl (by decide)), w "first" (.inl (by decide)), w "most" (.inl (by decide)), w "+" (.inl (by decide)), w "/" (.inr (by decide)), w "tell" (.inl (by decide)),
      i 0 (by decide), i 1 (by decide), i (-1) (by decide), i (10 ^ 18) (by decide), i (10 ^ 18 + 1) (by decide), i (0 - 10 ^ 18 - 1) (by decide), i (10 ^ 39) (by decide), i (0 - 1) (by decide), Bool.and_self]
  have hd : PyData.depthAll (oddA z) ≤ 3 := by
    simp only [oddA, odd1, odd2, odd3, odd4, odd5, odd6, odd7, odd8, odd9, odd0, kD, iD, rowZ, List.cons_append, List.nil_append, PyData.depthAll, PyData.depth, PyData.depthKv]
    decide
  have hs : (oddA z).all (fun y => Nat.ble (L9.sz y) 40) = true := by
    simp only [oddA, odd1, odd2, odd3, odd4, odd5, odd6, odd7, odd8, odd9, odd0, kD, iD, rowZ, List.cons_append, List.nil_append, List.all_cons, List.all_nil, sz, szs]
    decide
  intro y hy
  have e := els_inv hd ha y hy
  have hs' := List.all_eq_true.mp hs y hy
  exact Be.oe (s' := 40) (p' := 3) ⟨e, Nat.le_of_ble_eq_true hs'⟩ (by omega) (by omega)
end L9

namespace L9
open PySem PySem.Spec PyProof.Rows L2 GR AD RZ WX ZE TX RVT
section
variable {K : PySem.W.Frag} {ok : Addr → Prop} {H0 : Hp} {σ : L2.St}
def rUp : V → List V → Hp → VK → Prop := fun x xs H Q => ∃ a, x = .str a ∧ xs = [] ∧ a.length ≤ 5592405 ∧ Q (.str (Txt.upper a)) H
theorem gv_up {t : TE} {x : Str} (h : Gv K ok H0 σ t (.str x)) (hl : x.length ≤ 5592405) : Gv K ok H0 σ (tBM0 K "str" rUp t) (.str (Txt.upper x)) := fun H Q s q =>
  h H _ s fun H1 v s1 hv => by
    cases hv
    exact ⟨rfl, x, rfl, rfl, hl, q H1 _ s1 (.str _)⟩
theorem gl_lst2 {t : TA} {xs : List PyData} (h : Ga K ok H0 σ t xs) (hl : xs.length ≤ 1000) {H : Hp} {Q : VK} (s : Same H0 H) (q : ∀ H' L vs, Same H H' → H L = none → H' L = some (.lst vs) → DdAll K (fun b => ok b ∧ b ≠ L) H' vs xs → Q (.ref L) H') : tLst t σ H Q :=
  h H _ s fun H1 vs s1 hvs => ⟨small_le (by rw [hvs.len]; exact hl), fun p np => by
    have sp := same_upd (o := .lst vs) np
    exact q _ p vs (s1.trans sp) (s1.free np) upd_same ((hvs.off np).keep (KeepO.of sp))⟩
end
section
variable {P : Program} {w : World} {K : PySem.W.Frag} {mg : Str → Option Value} {base : Heap}
abbrev s_law_odd : Stmt := topS 58
abbrev N_odd : List Str := ["_law_deck_here", "_law_thing", "_law_name", "_law_some", "_law_row"]
abbrev ps_odd : List Str := ["_law_deck_here", "_law_thing", "_law_name"]
theorem sc_law_odd : FnScope N_odd ps_odd (defScope s_law_odd) := ⟨rfl, rfl, rfl, by decide +kernel, rfl, by decide +kernel, by decide +kernel⟩
def sp_odd (K : PySem.W.Frag) : Sp := fun vs H Q _ => ∃ (d c : Addr) (N : Int) (v : V) (x : PyData) (z : Str) (S : List Str) (q m s p : Nat), vs = [.ref d, v, .str z] ∧ Deck H d c N ∧ N < 2 ^ 58 ∧ Dd K (Off d c) H v x ∧ Be S q m s p x ∧ Cs S q m ∧ Nn S q z ∧ s ≤ 1000000 ∧
  ∀ H' v' x', Keep d c H H' → Deck H' d c (N + 1) → Dd K (Off d c) H' v' x' → Oe S q m s p x' → Q v' H'
/-- the list so far -/
def OSt (K : PySem.W.Frag) (d c : Addr) (v : V) (z : Str) (ys : List PyData) (y4 : Option V) (H0 : Hp) (σ : L2.St) (H : Hp) : Prop :=
  ∃ L vs, σ = [some (.ref d), some v, some (.str z), some (.ref L), y4] ∧ Same H0 H ∧ H0 L = none ∧ H L = some (.lst vs) ∧ DdAll K (fun b => Off d c b ∧ b ≠ L) H vs ys
/-- and the row -/
def OSr (K : PySem.W.Frag) (d c : Addr) (v : V) (z : Str) (ys : List PyData) (H0 : Hp) (σ : L2.St) (H : Hp) : Prop := ∃ r, OSt K d c v z ys (some r) H0 σ H ∧ Dd K (Off d c) H r (rowZ z)
/-- at the end -/
def OSe (K : PySem.W.Frag) (d c : Addr) (v : V) (z : Str) (S : List Str) (q m s p mx : Nat) (H0 : Hp) (σ : L2.St) (H : Hp) : Prop := ∃ ys y4, OSt K d c v z ys y4 H0 σ H ∧ (∀ y, y ∈ ys → Oe S q m s p y) ∧ 52 ≤ ys.length ∧ ys.length ≤ mx
theorem mem_rep {α : Type} {xs : List α} {y : α} : ∀ {n : Nat}, y ∈ (List.replicate n xs).flatten → y ∈ xs
  | 0, h => (nomatch h)
  | n + 1, h => by
    rw [List.replicate_succ, List.flatten_cons] at h
    rcases List.mem_append.mp h with h | h
    · exact h
    · exact mem_rep h
theorem len_rep {α : Type} {xs : List α} : ∀ n : Nat, (List.replicate n xs).flatten.length = n * xs.length
  | 0 => by rw [List.replicate_zero, List.flatten_nil, List.length_nil, Nat.zero_mul]
  | n + 1 => by rw [List.replicate_succ, List.flatten_cons, List.length_append, len_rep n, Nat.add_mul, Nat.one_mul, Nat.add_comm]
theorem ok_odd {f fp : Addr} {fd dp : FuncData} {k : Nat} (F : Fun K "_law_odd" "_law_odd" s_law_odd f fd)
    (Gp : FnOk P w K mg base CX0 k fp dp ["_law_deck_here", "_law_some"] (sp_pick K)) (gp : mg "_law_pick" = some (.ref fp)) (Kp : PySem.W.keepIn K (.ref fp) = true) (bp : Binds K dp ["_law_deck_here", "_law_some"] [])
    (misi : mg "isinstance" = none) (mtuple : mg "tuple" = none) (mlist : mg "list" = none) (mstr : mg "str" = none) : FnOk P w K mg base CX0 (k + 1) f fd ps_odd (sp_odd K) := by
  have nd := sc_law_odd.nd
  refine F.ok sc_law_odd (fun vs H Q E h => ?_) (fun cdv A outer s0 H vs Q E hr h => ?_)
  · obtain ⟨d, c, N, v, x, z, S, q, m, s, p, rfl, _⟩ := h
    rfl
  obtain ⟨d, c, N, v, x, z, S, q, m, s, p, rfl, D, hN, hd, hb, hC, hz, hs, qq⟩ := h
  refine ⟨_, (Evl.pss_cut (ps_set (i := 3) nd rfl (.inl rfl) (pe_lst (pa_cons pe_non (pa_cons pe_bl (pa_cons pe_bl (pa_cons pe_int (pa_cons pe_int (pa_cons (pe_un un_neg pe_int) (pa_cons (pe_op op_pow pe_int pe_int) (pa_cons (pe_op op_add (pe_op op_pow pe_int pe_int) pe_int) (pa_cons (pe_op op_sub (pe_op op_sub pe_int (pe_op op_pow pe_int pe_int)) pe_int) (pa_cons (pe_op op_pow pe_int pe_int) (pa_cons pe_str (pa_cons pe_str (pa_cons pe_str (pa_cons pe_str pa_nil))))))))))))))))
      (Evl.pss_cut (ps_set (i := 3) nd rfl (.inl rfl) (pe_op op_cat (pv 3) (pe_lst (pa_cons pe_str (pa_cons pe_str (pa_cons pe_str (pa_cons pe_str (pa_cons pe_str (pa_cons pe_str (pa_cons (pv 2) (pa_cons (pe_tup pa_nil) (pa_cons (pe_lstS pa_nil) (pa_cons (pe_sys pe_dnewK) (pa_cons (pe_sys (pe_disp (pps_cons pe_str pe_int pps_nil) (by decide) rfl (by simp) (by decide))) (pa_cons (pe_tup (pa_cons pe_str pa_nil)) (pa_cons (pe_lstS (pa_cons pe_str pa_nil)) pa_nil))))))))))))))))
      (Evl.pss_cut (ps_expr (pe_bm PySem.F.plainAttrs_list PySem.F.slot_list_append PySem.F.type_list_append mt_append (pv 3) (pa_cons (pe_tup (pa_cons pe_str (pa_cons pe_int pa_nil))) pa_nil)))
      (Evl.pss_cut (ps_set (i := 3) nd rfl (.inl rfl) (pe_op op_cat (pv 3) (pe_lst (pa_cons (pe_tup (pa_cons pe_str (pa_cons (pe_op op_pow pe_int pe_int) pa_nil))) (pa_cons (pe_tup (pa_cons pe_str (pa_cons (pe_op op_add (pe_op op_pow pe_int pe_int) pe_int) pa_nil))) (pa_cons (pe_tup (pa_cons pe_str (pa_cons pe_bl pa_nil))) (pa_cons (pe_tup (pa_cons pe_str (pa_cons pe_str pa_nil))) (pa_cons (pe_tup (pa_cons pe_str pa_nil)) (pa_cons (pe_tup (pa_cons pe_str (pa_cons (pv 2) pa_nil))) pa_nil)))))))))
      (Evl.pss_cut (ps_set (i := 3) nd rfl (.inl rfl) (pe_op op_cat (pv 3) (pe_lst (pa_cons (pe_tup (pa_cons pe_str (pa_cons pe_str pa_nil))) (pa_cons (pe_tup (pa_cons pe_str (pa_cons (pv 2) (pa_cons pe_int pa_nil)))) (pa_cons (pe_tup (pa_cons pe_str (pa_cons pe_int pa_nil))) (pa_cons (pe_tup (pa_cons pe_str (pa_cons (pe_op op_sub pe_int pe_int) pa_nil))) (pa_cons (pe_tup (pa_cons pe_str (pa_cons (pv 2) (pa_cons (pe_tup (pa_cons pe_str pa_nil)) (pa_cons (pv 2) pa_nil))))) pa_nil))))))))
      (Evl.pss_cut (ps_set (i := 3) nd rfl (.inl rfl) (pe_op op_cat (pv 3) (pe_lst (pa_cons (pe_tup (pa_cons pe_str (pa_cons (pe_tup (pa_cons pe_str (pa_cons pe_int pa_nil))) (pa_cons (pe_tup (pa_cons pe_str pa_nil)) pa_nil)))) (pa_cons (pe_tup (pa_cons pe_str (pa_cons (pe_tup (pa_cons pe_str pa_nil)) (pa_cons (pe_tup (pa_cons pe_str (pa_cons pe_int pa_nil))) pa_nil)))) (pa_cons (pe_tup (pa_cons pe_str (pa_cons (pe_tup (pa_cons pe_str pa_nil)) (pa_cons (pe_tup (pa_cons pe_str (pa_cons pe_int pa_nil))) pa_nil)))) pa_nil))))))
      (Evl.pss_cut (ps_set (i := 4) nd rfl (.inl rfl) (pe_tup (pa_cons pe_str (pa_cons (pv 2) (pa_cons (pe_tup (pa_cons pe_str pa_nil)) (pa_cons pe_str pa_nil))))))
      (Evl.pss_cut (ps_set (i := 3) nd rfl (.inl rfl) (pe_op op_cat (pv 3) (pe_lst (pa_cons (pe_tup (pa_cons pe_str (pa_cons (pv 2) (pa_cons (pe_tup pa_nil) (pa_cons (pv 4) (pa_cons (pe_tup (pa_cons pe_str pa_nil)) pa_nil)))))) (pa_cons (pe_tup (pa_cons pe_str (pa_cons (pv 2) (pa_cons (pe_tup pa_nil) (pa_cons (pv 4) (pa_cons (pe_tup (pa_cons pe_str pa_nil)) (pa_cons (pe_tup (pa_cons pe_str pa_nil)) pa_nil))))))) pa_nil)))))
      (Evl.pss_cut (ps_set (i := 3) nd rfl (.inl rfl) (pe_op op_cat (pv 3) (pe_lst (pa_cons (pe_tup (pa_cons pe_str (pa_cons (pv 2) (pa_cons (pe_tup (pa_cons (pe_tup (pa_cons pe_str (pa_cons pe_int pa_nil))) pa_nil)) (pa_cons (pv 4) (pa_cons (pe_tup (pa_cons pe_str (pa_cons pe_int pa_nil))) pa_nil)))))) (pa_cons (pe_tup (pa_cons pe_str (pa_cons (pv 2) (pa_cons (pe_tup pa_nil) (pa_cons (pe_tup (pa_cons pe_str (pa_cons pe_int pa_nil))) (pa_cons (pe_tup (pa_cons pe_str (pa_cons pe_int pa_nil))) pa_nil)))))) pa_nil)))))
      (Evl.pss_cut (ps_set (i := 3) nd rfl (.inl rfl) (pe_op op_cat (pv 3) (pe_lst (pa_cons (pe_tup (pa_cons pe_str (pa_cons (pv 2) (pa_cons (pe_tup pa_nil) (pa_cons (pv 4) (pa_cons (pe_tup (pa_cons pe_str pa_nil)) (pa_cons (pe_tup (pa_cons pe_str (pa_cons pe_int pa_nil))) pa_nil))))))) (pa_cons (pe_tup (pa_cons pe_str (pa_cons (pv 2) (pa_cons (pe_lstS pa_nil) (pa_cons (pv 4) (pa_cons (pe_tup (pa_cons pe_str (pa_cons pe_int pa_nil))) (pa_cons (pe_tup (pa_cons pe_str (pa_cons pe_int pa_nil))) pa_nil))))))) pa_nil)))))
      (Evl.pss_cut (ps_set (i := 3) nd rfl (.inl rfl) (pe_op op_cat (pv 3) (pe_lst (pa_cons (pe_tup (pa_cons pe_str (pa_cons (pe_tup (pa_cons pe_str (pa_cons pe_int pa_nil))) pa_nil))) (pa_cons (pe_tup (pa_cons pe_str (pa_cons (pe_tup (pa_cons pe_str (pa_cons pe_int pa_nil))) (pa_cons (pe_tup (pa_cons pe_str (pa_cons pe_int pa_nil))) pa_nil)))) (pa_cons (pe_tup (pa_cons pe_str (pa_cons (pe_tup (pa_cons pe_str pa_nil)) pa_nil))) (pa_cons (pe_tup (pa_cons pe_str (pa_cons (pe_tup (pa_cons pe_str (pa_cons pe_int pa_nil))) pa_nil))) pa_nil)))))))
      (Evl.pss_cut (ps_if (pt_val (pe_callB call_isi (by rfl) misi boot_isinstance (pa_cons (pv 1) (pa_cons (pe_bltn (v := .ty "tuple") (by rfl) mtuple boot_tuple rfl) pa_nil))))
      (pss_one (ps_set (i := 3) nd rfl (.inl rfl) (pe_op op_cat (pv 3) (pe_op op_rep (pe_lst (pa_cons (pe_callTy call_listS (by rfl) mlist boot_list (pa_cons (pv 1) pa_nil)) (pa_cons (pe_slice sl_tupA (pv 1) po_none (po_some (pe_un un_neg pe_int))) (pa_cons (pe_op op_catA (pv 1) (pe_slice sl_tupA (pv 1) po_none (po_some pe_int))) (pa_cons (pe_revT (pv 1)) (pa_cons (pe_tup (pa_cons (pv 1) pa_nil)) (pa_cons (pe_slice sl_tupA (pv 1) (po_some pe_int) po_none) pa_nil))))))) pe_int))))
      pss_nil)
      (Evl.pss_cut (ps_if (pt_val (pe_callB call_isi (by rfl) misi boot_isinstance (pa_cons (pv 1) (pa_cons (pe_bltn (v := .ty "str") (by rfl) mstr boot_str rfl) pa_nil))))
      (pss_one (ps_set (i := 3) nd rfl (.inl rfl) (pe_op op_cat (pv 3) (pe_op op_rep (pe_lst (pa_cons (pe_op op_add_str (pv 1) pe_str) (pa_cons (pe_slice sl_str (pv 1) po_none (po_some (pe_un un_neg pe_int))) (pa_cons (pe_bm0 PySem.F.plainAttrs_str PySem.F.slot_str_upper PySem.F.type_str_upper mt_upper (pv 1)) (pa_cons (pe_tup (pa_cons (pv 1) pa_nil)) pa_nil))))) pe_int))))
      pss_nil)
      (pss_one (ps_ret (pe_call Gp hr (by rfl) gp Kp bp .nil pass0 (pa_cons (pv 0) (pa_cons (pv 3) pa_nil)))))))))))))))))), ?_⟩
  have hok : ∀ H' p, Same H H' → H' p = none → p ≠ sysModules → Off d c p := fun H' p s n far => ⟨((D.same s).new n).1, ((D.same s).new n).2, far⟩
  have g18 : ∀ {H1 : Hp} {σ : L2.St}, Gv K (Off d c) H1 σ (tOp (rI CPow fun i j => .int (i ^ j.toNat)) (tC (.int 10)) (tC (.int 18))) (.int (10 ^ 18)) := fun {H1 σ} => gv_pow (gv_i 10) (gv_i 18) ⟨by decide, by decide, by decide⟩
  have g39 : ∀ {H1 : Hp} {σ : L2.St}, Gv K (Off d c) H1 σ (tOp (rI CPow fun i j => .int (i ^ j.toNat)) (tC (.int 10)) (tC (.int 39))) (.int (10 ^ 39)) := fun {H1 σ} => gv_pow (gv_i 10) (gv_i 39) ⟨by decide, by decide, by decide⟩
  have ik : ∀ {H1 : Hp} {σ : L2.St} (i : Int), Gv K (Off d c) H1 σ (tTup (tCons (tC (.str "int")) (tCons (tC (.int i)) tNil))) (iD i) := fun {H1 σ} i => gv_tup (ga_cons (gv_s "int") (ga_cons (gv_i i) ga_nil))
  have kk : ∀ {H1 : Hp} {σ : L2.St}, Gv K (Off d c) H1 σ (tTup (tCons (tC (.str "key")) tNil)) kD := fun {H1 σ} => gv_tup (ga_cons (gv_s "key") ga_nil)
  refine ⟨OSt K d c v z odd1 none H, ?_, ?_⟩
  · have G : Ga K (Off d c) H [some (.ref d), some v, some (.str z), none, none] _ odd1 := ga_cons gv_n (ga_cons (gv_b true) (ga_cons (gv_b false) (ga_cons (gv_i 0) (ga_cons (gv_i 1) (ga_cons (gv_neg (gv_i 1)) (ga_cons g18 (ga_cons (gv_add g18 (gv_i 1)) (ga_cons (gv_sub (gv_sub (gv_i 0) g18) (gv_i 1)) (ga_cons g39 (ga_cons (gv_s "") (ga_cons (gv_s "key") (ga_cons (gv_s "let") (ga_cons (gv_s "sum") ga_nil)))))))))))))
    exact gl_lst2 G (Nat.le_of_ble_eq_true rfl) (fun _ _ e => e) fun H1 L vs s1 n1 h1 d1 => ⟨L, vs, rfl, s1, n1, h1, d1⟩
  rintro σ1 H1 ⟨L1, vs1, rfl, s1, n1, h1, d1⟩
  have hk1 : ∀ H' p, Same H1 H' → H' p = none → p ≠ sysModules → Off d c p := fun H' p s n far => hok H' p (s1.trans s) n far
  refine ⟨OSt K d c v z (odd1 ++ odd2 z) none H, ?_, ?_⟩
  · have G : Ga K (Off d c) H1 [some (.ref d), some v, some (.str z), some (.ref L1), none] _ (odd2 z) := ga_cons (gv_s "A") (ga_cons (gv_s "abcdefgh") (ga_cons (gv_s "abcdefghi") (ga_cons (gv_s "a b") (ga_cons (gv_s "a1") (ga_cons (gv_s "in") (ga_cons (gv_var (i := 2) rfl (.str z)) (ga_cons (gv_tup ga_nil) (ga_cons (gv_lst ga_nil hk1) (ga_cons (gv_d0 hk1) (ga_cons (gv_d1 "a" 1 hk1) (ga_cons kk (ga_cons (gv_lst (ga_cons (gv_s "key") ga_nil) hk1) ga_nil))))))))))))
    exact gl_more (i := 3) rfl h1 (d1.mono fun b h => h.1) G (Nat.le_of_ble_eq_true rfl) (fun _ _ e => e) fun H2 L2 vs2 s2 n2 h2 d2 => ⟨L2, vs2, rfl, s1.trans s2, s1.free n2, h2, d2⟩
  rintro σ2 H2 ⟨L2, vs2, rfl, s2, n2, h2, d2⟩
  refine ⟨OSt K d c v z (odd1 ++ odd2 z ++ odd3) none H, ?_, ?_⟩
  · have G : Gv K (fun b => Off d c b ∧ b ≠ L2) H2 [some (.ref d), some v, some (.str z), some (.ref L2), none] _ (.tuple [.str "key", .int 1]) := gv_tup (ga_cons (gv_s "key") (ga_cons (gv_i 1) ga_nil))
    refine ⟨.ref L2, rfl, .inl ⟨rfl, _, .inl (.inl h2)⟩, G H2 _ (fun _ _ e => e) fun H3 v3 s3 hv3 => ?_⟩
    have h3 := s3 _ _ h2
    have kt : KeepT H3 (upd H3 L2 (.lst (vs2 ++ [v3]))) := KeepT.lst h3
    have ko : KeepO (fun b => Off d c b ∧ b ≠ L2) H3 (upd H3 L2 (.lst (vs2 ++ [v3]))) := ⟨kt.1, kt.2, fun b o hb e => by rw [upd_ne hb.2]; exact e⟩
    have l2 : vs2.length = 27 := by rw [d2.len]; rfl
    refine ⟨L2, vs2, v3, rfl, rfl, h3, small1000 (by omega), L2, vs2 ++ [v3], rfl, fun b o e => ?_, n2, upd_same, ((d2.keep (KeepO.of s3)).app (.cons hv3 .nil)).keep ko⟩
    rw [upd_ne (ne_of_none e n2)]
    exact s3 _ _ (s2 _ _ e)
  rintro σ3 H3 ⟨L3, vs3, rfl, s3, n3, h3, d3⟩
  refine ⟨OSt K d c v z (odd1 ++ odd2 z ++ odd3 ++ odd4 z) none H, ?_, ?_⟩
  · have G : Ga K (Off d c) H3 [some (.ref d), some v, some (.str z), some (.ref L3), none] _ (odd4 z) := ga_cons (gv_tup (ga_cons (gv_s "int") (ga_cons g18 ga_nil))) (ga_cons (gv_tup (ga_cons (gv_s "int") (ga_cons (gv_add g18 (gv_i 1)) ga_nil))) (ga_cons (gv_tup (ga_cons (gv_s "int") (ga_cons (gv_b true) ga_nil))) (ga_cons (gv_tup (ga_cons (gv_s "int") (ga_cons (gv_s "1") ga_nil))) (ga_cons (gv_tup (ga_cons (gv_s "int") ga_nil)) (ga_cons (gv_tup (ga_cons (gv_s "var") (ga_cons (gv_var (i := 2) rfl (.str z)) ga_nil))) ga_nil)))))
    exact gl_more (i := 3) rfl h3 (d3.mono fun b h => h.1) G (Nat.le_of_ble_eq_true rfl) (fun _ _ e => e) fun H4 L4 vs4 s4 n4 h4 d4 => ⟨L4, vs4, rfl, s3.trans s4, s3.free n4, h4, d4⟩
  rintro σ4 H4 ⟨L4, vs4, rfl, s4, n4, h4, d4⟩
  refine ⟨OSt K d c v z (odd1 ++ odd2 z ++ odd3 ++ odd4 z ++ odd5 z) none H, ?_, ?_⟩
  · have G : Ga K (Off d c) H4 [some (.ref d), some v, some (.str z), some (.ref L4), none] _ (odd5 z) := ga_cons (gv_tup (ga_cons (gv_s "var") (ga_cons (gv_s "if") ga_nil))) (ga_cons (gv_tup (ga_cons (gv_s "var") (ga_cons (gv_var (i := 2) rfl (.str z)) (ga_cons (gv_i 1) ga_nil)))) (ga_cons (gv_tup (ga_cons (gv_s "let") (ga_cons (gv_i 0) ga_nil))) (ga_cons (gv_tup (ga_cons (gv_s "let") (ga_cons (gv_sub (gv_i 0) (gv_i 1)) ga_nil))) (ga_cons (gv_tup (ga_cons (gv_s "cell") (ga_cons (gv_var (i := 2) rfl (.str z)) (ga_cons kk (ga_cons (gv_var (i := 2) rfl (.str z)) ga_nil))))) ga_nil))))
    exact gl_more (i := 3) rfl h4 (d4.mono fun b h => h.1) G (Nat.le_of_ble_eq_true rfl) (fun _ _ e => e) fun H5 L5 vs5 s5 n5 h5 d5 => ⟨L5, vs5, rfl, s4.trans s5, s4.free n5, h5, d5⟩
  rintro σ5 H5 ⟨L5, vs5, rfl, s5, n5, h5, d5⟩
  refine ⟨OSt K d c v z (odd1 ++ odd2 z ++ odd3 ++ odd4 z ++ odd5 z ++ odd6) none H, ?_, ?_⟩
  · have G : Ga K (Off d c) H5 [some (.ref d), some v, some (.str z), some (.ref L5), none] _ odd6 := ga_cons (gv_tup (ga_cons (gv_s "at") (ga_cons (ik 1) (ga_cons kk ga_nil)))) (ga_cons (gv_tup (ga_cons (gv_s "at") (ga_cons kk (ga_cons (ik 1) ga_nil)))) (ga_cons (gv_tup (ga_cons (gv_s "if") (ga_cons kk (ga_cons (ik 1) ga_nil)))) ga_nil))
    exact gl_more (i := 3) rfl h5 (d5.mono fun b h => h.1) G (Nat.le_of_ble_eq_true rfl) (fun _ _ e => e) fun H6 L6 vs6 s6 n6 h6 d6 => ⟨L6, vs6, rfl, s5.trans s6, s5.free n6, h6, d6⟩
  rintro σ6 H6 ⟨L6, vs6, rfl, s6, n6, h6, d6⟩
  refine ⟨OSr K d c v z (odd1 ++ odd2 z ++ odd3 ++ odd4 z ++ odd5 z ++ odd6) H, ?_, ?_⟩
  · have G : Gv K (Off d c) H6 [some (.ref d), some v, some (.str z), some (.ref L6), none] _ (rowZ z) := gv_tup (ga_cons (gv_s "cell") (ga_cons (gv_var (i := 2) rfl (.str z)) (ga_cons kk (ga_cons (gv_s "in") ga_nil))))
    exact G H6 _ (fun _ _ e => e) fun H7 r s7 hr7 => ⟨r, ⟨L6, vs6, rfl, s6.trans s7, n6, s7 _ _ h6, d6.keep (KeepO.of s7)⟩, hr7⟩
  rintro σ7 H7 ⟨r, ⟨L7, vs7, rfl, s7, n7, h7, d7⟩, r7⟩
  refine ⟨OSr K d c v z (odd1 ++ odd2 z ++ odd3 ++ odd4 z ++ odd5 z ++ odd6 ++ odd7 z) H, ?_, ?_⟩
  · have G : Ga K (Off d c) H7 [some (.ref d), some v, some (.str z), some (.ref L7), some r] _ (odd7 z) := ga_cons (gv_tup (ga_cons (gv_s "count") (ga_cons (gv_var (i := 2) rfl (.str z)) (ga_cons (gv_tup ga_nil) (ga_cons (gv_var (i := 4) rfl r7) (ga_cons kk ga_nil)))))) (ga_cons (gv_tup (ga_cons (gv_s "first") (ga_cons (gv_var (i := 2) rfl (.str z)) (ga_cons (gv_tup ga_nil) (ga_cons (gv_var (i := 4) rfl r7) (ga_cons kk (ga_cons kk ga_nil))))))) ga_nil)
    exact gl_more (i := 3) rfl h7 (d7.mono fun b h => h.1) G (Nat.le_of_ble_eq_true rfl) (fun _ _ e => e) fun H8 L8 vs8 s8 n8 h8 d8 => ⟨r, ⟨L8, vs8, rfl, s7.trans s8, s7.free n8, h8, d8⟩, r7.keep (KeepO.of s8)⟩
  rintro σ8 H8 ⟨r', ⟨L8, vs8, rfl, s8, n8, h8, d8⟩, r8⟩
  refine ⟨OSr K d c v z (odd1 ++ odd2 z ++ odd3 ++ odd4 z ++ odd5 z ++ odd6 ++ odd7 z ++ odd8 z) H, ?_, ?_⟩
  · have G : Ga K (Off d c) H8 [some (.ref d), some v, some (.str z), some (.ref L8), some r'] _ (odd8 z) := ga_cons (gv_tup (ga_cons (gv_s "count") (ga_cons (gv_var (i := 2) rfl (.str z)) (ga_cons (gv_tup (ga_cons (ik 1) ga_nil)) (ga_cons (gv_var (i := 4) rfl r8) (ga_cons (ik 1) ga_nil)))))) (ga_cons (gv_tup (ga_cons (gv_s "count") (ga_cons (gv_var (i := 2) rfl (.str z)) (ga_cons (gv_tup ga_nil) (ga_cons (ik 1) (ga_cons (ik 1) ga_nil)))))) ga_nil)
    exact gl_more (i := 3) rfl h8 (d8.mono fun b h => h.1) G (Nat.le_of_ble_eq_true rfl) (fun _ _ e => e) fun H9 Lx vs9 s9 n9 h9 d9 => ⟨r', ⟨Lx, vs9, rfl, s8.trans s9, s8.free n9, h9, d9⟩, r8.keep (KeepO.of s9)⟩
  rintro σ9 H9 ⟨r9', ⟨Lx, vs9, rfl, s9, n9, h9, d9⟩, r9⟩
  have hk9 : ∀ H' p, Same H9 H' → H' p = none → p ≠ sysModules → Off d c p := fun H' p s n far => hok H' p (s9.trans s) n far
  refine ⟨OSr K d c v z (odd1 ++ odd2 z ++ odd3 ++ odd4 z ++ odd5 z ++ odd6 ++ odd7 z ++ odd8 z ++ odd9 z) H, ?_, ?_⟩
  · have G : Ga K (Off d c) H9 [some (.ref d), some v, some (.str z), some (.ref Lx), some r9'] _ (odd9 z) := ga_cons (gv_tup (ga_cons (gv_s "most") (ga_cons (gv_var (i := 2) rfl (.str z)) (ga_cons (gv_tup ga_nil) (ga_cons (gv_var (i := 4) rfl r9) (ga_cons kk (ga_cons (ik 1) ga_nil))))))) (ga_cons (gv_tup (ga_cons (gv_s "sum") (ga_cons (gv_var (i := 2) rfl (.str z)) (ga_cons (gv_lst ga_nil hk9) (ga_cons (gv_var (i := 4) rfl r9) (ga_cons (ik 1) (ga_cons (ik 1) ga_nil))))))) ga_nil)
    exact gl_more (i := 3) rfl h9 (d9.mono fun b h => h.1) G (Nat.le_of_ble_eq_true rfl) (fun _ _ e => e) fun Ha La vsa sa na ha da => ⟨r9', ⟨La, vsa, rfl, s9.trans sa, s9.free na, ha, da⟩, r9.keep (KeepO.of sa)⟩
  rintro σa Ha ⟨ra', ⟨La, vsa, rfl, sa, na, ha, da⟩, ra⟩
  refine ⟨OSt K d c v z (oddA z) (some ra') H, ?_, ?_⟩
  · have G : Ga K (Off d c) Ha [some (.ref d), some v, some (.str z), some (.ref La), some ra'] _ odd0 := ga_cons (gv_tup (ga_cons (gv_s "+") (ga_cons (ik 1) ga_nil))) (ga_cons (gv_tup (ga_cons (gv_s "/") (ga_cons (ik 1) (ga_cons (ik 1) ga_nil)))) (ga_cons (gv_tup (ga_cons (gv_s "tell") (ga_cons kk ga_nil))) (ga_cons (gv_tup (ga_cons (gv_s "tell") (ga_cons (ik 1) ga_nil))) ga_nil)))
    exact gl_more (i := 3) rfl ha (da.mono fun b h => h.1) G (Nat.le_of_ble_eq_true rfl) (fun _ _ e => e) fun Hb Lb vsb sb nb hb db => ⟨Lb, vsb, rfl, sa.trans sb, sa.free nb, hb, db⟩
  rintro σb Hb ⟨Lb, vsb, rfl, sb, nb, hLb, db⟩
  have hdb := hd.keep (KeepO.of sb)
  have hkb : ∀ H' p, Same Hb H' → H' p = none → p ≠ sysModules → Off d c p := fun H' p s n far => hok H' p (sb.trans s) n far
  refine ⟨OSe K d c v z S q m s p 100 H, ?_, ?_⟩
  · refine ⟨v, rfl, v, .ty "tuple", _, _, _, rfl, .ty "tuple", hdb.ty, kit_t K x, _, rfl, ?_⟩
    have keep0 : OSe K d c v z S q m s p 100 H [some (.ref d), some v, some (.str z), some (.ref Lb), some ra'] Hb := ⟨oddA z, some ra', ⟨Lb, vsb, rfl, sb, nb, hLb, db⟩, odd_bd hC hz, Nat.le_of_ble_eq_true rfl, Nat.le_of_ble_eq_true rfl⟩
    cases x with
    | tuple ds =>
      have hdv := hdb
      obtain ⟨a, us, rfl, hs', ha'⟩ := L9.Dd.tup_inv hdb
      have hpd : 1 ≤ p := by
        have := hb.dep
        simp only [PyData.depth] at this
        omega
      obtain ⟨p', rfl⟩ : ∃ p', p = p' + 1 := ⟨p - 1, by omega⟩
      have B := hb.inv
      have hsz := hb.sz
      rw [L9.sz] at hsz
      have hln := szs_len ds
      refine iteT ?_
      have T : Gv K (Off d c) Hb [some (.ref d), some (.ref a), some (.str z), some (.ref Lb), some ra'] (tVar 1) (.tuple ds) := gv_var (i := 1) rfl hdv
      have G : Ga K (Off d c) Hb [some (.ref d), some (.ref a), some (.str z), some (.ref Lb), some ra'] _ [.list ds, .tuple (ds.take (ds.length - 1)), .tuple (ds ++ ds.take 1), .tuple ds.reverse, .tuple [.tuple ds], .tuple (ds.drop 1)] :=
        ga_cons (gv_list T hkb) (ga_cons (gv_but1 T) (ga_cons (gv_cat T (gv_to (j := 1) T (gv_i 1))) (ga_cons (gv_rev T) (ga_cons (gv_tup (ga_cons T ga_nil)) (ga_cons (gv_from (j := 1) T (gv_i 1)) ga_nil)))))
      refine gl_cat (i := 3) rfl hLb (db.mono fun b h => h.1) (fun _ _ e => e) (by rw [len_rep]; exact Nat.le_of_ble_eq_true rfl) (fun R hR => gl_rep G 2 (by decide) (Nat.le_of_ble_eq_true rfl) (fun _ _ e => e) hR) fun H' L' vs' s' n' h' d' => ⟨_, _, ⟨L', vs', rfl, sb.trans s', sb.free n', h', d'⟩, fun y hy => ?_, ?_, ?_⟩
      · rcases List.mem_append.mp hy with hy | hy
        · exact odd_bd hC hz y hy
        have hy := mem_rep hy
        simp only [List.mem_cons, List.not_mem_nil, or_false] at hy
        rcases hy with rfl | rfl | rfl | rfl | rfl | rfl
        · exact (B.lst).oe (by omega) (by omega)
        · exact ((B.take _).tup).oe (by omega) (by omega)
        · exact ((B.app (B.take 1)).tup).oe (by omega) (by omega)
        · exact ((B.rev).tup).oe (by omega) (by omega)
        · exact ((Bes.two hb .nil).tup).oe (by omega) (by omega)
        · exact ((B.drop 1).tup).oe (by omega) (by omega)
      · rw [List.length_append, len_rep]
        exact Nat.le_of_ble_eq_true rfl
      · rw [List.length_append, len_rep]
        exact Nat.le_of_ble_eq_true rfl
    | _ => exact iteF keep0
  rintro σc Hc ⟨ys, y4, ⟨Lc, vsc, rfl, sc, nc, hLc, dc⟩, hy, l1, l2⟩
  have hdc := hd.keep (KeepO.of sc)
  refine ⟨OSe K d c v z S q m s p 200 H, ?_, ?_⟩
  · refine ⟨v, rfl, v, .ty "str", _, _, _, rfl, .ty "str", hdc.ty, kit_s K x, _, rfl, ?_⟩
    have keep0 : OSe K d c v z S q m s p 200 H [some (.ref d), some v, some (.str z), some (.ref Lc), y4] Hc := ⟨ys, y4, ⟨Lc, vsc, rfl, sc, nc, hLc, dc⟩, hy, l1, by omega⟩
    cases x with
    | str zx =>
      have hat := hb.at'
      rw [atB, Bool.and_eq_true, Bool.and_eq_true, decide_eq_true_eq, decide_eq_true_eq] at hat
      obtain ⟨hzS, hzq, hzc⟩ := hat
      have hq2 := hC.q2
      have hdv := hdc
      cases hdc
      refine iteT ?_
      have T : Gv K (Off d c) Hc [some (.ref d), some (.str zx), some (.str z), some (.ref Lc), y4] (tVar 1) (.str zx) := gv_var (i := 1) rfl hdv
      have big : 1000 ≤ sizeLine := small_le (by decide)
      have G : Ga K (Off d c) Hc [some (.ref d), some (.str zx), some (.str z), some (.ref Lc), y4] _ [.str (zx ++ "a"), .str (cutS zx none (some (-1))), .str (Txt.upper zx), .tuple [.str zx]] :=
        ga_cons (gv_sadd T (gv_s "a") (by show zx.length + 1 ≤ sizeLine; omega)) (ga_cons (gv_sbut1 T (by omega)) (ga_cons (gv_up T (by omega)) (ga_cons (gv_tup (ga_cons T ga_nil)) ga_nil)))
      refine gl_cat (i := 3) rfl hLc (dc.mono fun b h => h.1) (fun _ _ e => e) (by rw [len_rep]; show ys.length + 12 ≤ 1000; omega) (fun R hR => gl_rep G 3 (by decide) (Nat.le_of_ble_eq_true rfl) (fun _ _ e => e) hR) fun H' L' vs' s' n' h' d' => ⟨_, _, ⟨L', vs', rfl, sc.trans s', sc.free n', h', d'⟩, fun y hy' => ?_, ?_, ?_⟩
      · rcases List.mem_append.mp hy' with hy' | hy'
        · exact hy y hy'
        have hy' := mem_rep hy'
        simp only [List.mem_cons, List.not_mem_nil, or_false] at hy'
        have ha := app_ok hzc (y := "a") (by decide)
        have hc2 := cut_ok hzc none (some (-1))
        have hup := upper_ok hzc
        rcases hy' with rfl | rfl | rfl | rfl
        · exact oe_str (by rw [ha.2]; show zx.length + 1 ≤ 3 * q; have := hC.q1; omega) ha.1
        · exact oe_str (by omega) hc2.1
        · exact oe_str (by have := PyProof.Rows.len_upper zx; omega) hup
        · exact ((Bes.two hb .nil).tup).oe (by omega) (by omega)
      · rw [List.length_append]
        omega
      · rw [List.length_append, len_rep]
        show ys.length + 12 ≤ 200
        omega
    | _ => exact iteF keep0
  rintro σd Hd ⟨ys, y4, ⟨Ld, vsd, rfl, sd, ne, hLd, dd⟩, hy, l1, l2⟩
  have lv := dd.len
  have hLn := D.new ne
  refine ⟨.ref d, rfl, .ref Ld, rfl, .inl ⟨d, c, Ld, N, vsd, rfl, D.same sd, by omega, .inl (.inl hLd), fun e => ?_, by omega, hLn.1, hLn.2, fun H9 v9 k9 D9 hv => ?_⟩⟩
  · rw [e] at lv
    have : ys.length = 0 := lv.symm
    omega
  · obtain ⟨y, hy', hyd⟩ := dd_mem ((dd.mono fun b h => h.1).keep (k9.off (D.same sd))) hv
    exact qq H9 v9 y ((Keep.of sd).trans k9) D9 hyd (hy y hy')
end
end L9

namespace L9
open PySem PySem.Spec PyProof.Rows L2 GR AD RZ WX ZE TX RVT
section
variable {P : Program} {w : World} {K : PySem.W.Frag} {mg : Str → Option Value} {base : Heap}
abbrev s_law_bent : Stmt := topS 59
abbrev N_ben : List Str := ["_law_deck_here", "_law_thing", "_law_name", "_law_at", "_law_way"]
theorem sc_law_bent : FnScope N_ben ps_odd (defScope s_law_bent) := ⟨rfl, rfl, rfl, by decide +kernel, rfl, by decide +kernel, by decide +kernel⟩
/-- a bend of a thing of depth less than n -/
def sp_bent (K : PySem.W.Frag) (n : Nat) : Sp := fun vs H Q _ => ∃ (d c : Addr) (N : Int) (v : V) (x : PyData) (z : Str) (S : List Str) (q m p : Nat), vs = [.ref d, v, .str z] ∧ Deck H d c N ∧ N + 3 * (n : Int) < 2 ^ 58 ∧ Dd K (Off d c) H v x ∧ x.depth < n ∧ El S q m p x ∧ L9.sz x ≤ 1000000 ∧ Cs S q m ∧ Nn S q z ∧
  ∀ H' v' x', Keep d c H H' → Deck H' d c (N + 3 * (n : Int)) → Dd K (Off d c) H' v' x' → Oe S q m (L9.sz x) p x' → Q v' H'
theorem ok_bent_step {n : Nat} {f fd' fo : Addr} {fd dd do' : FuncData} {k : Nat} (F : Fun K "_law_bent" "_law_bent" s_law_bent f fd)
    (Gd : FnOk P w K mg base CX0 k fd' dd ["_law_deck_here", "_law_most"] sp_draw) (gd : mg "_law_draw" = some (.ref fd')) (Kd : PySem.W.keepIn K (.ref fd') = true) (bd : Binds K dd ["_law_deck_here", "_law_most"] [])
    (Go : FnOk P w K mg base CX0 k fo do' ps_odd (sp_odd K)) (go : mg "_law_odd" = some (.ref fo)) (Ko : PySem.W.keepIn K (.ref fo) = true) (bo : Binds K do' ps_odd [])
    (Gb : FnOk P w K mg base CX0 k f fd ps_odd (sp_bent K n)) (gb : mg "_law_bent" = some (.ref f)) (Kb : PySem.W.keepIn K (.ref f) = true) (bb : Binds K fd ps_odd [])
    (misi : mg "isinstance" = none) (mtuple : mg "tuple" = none) (mlen : mg "len" = none) : FnOk P w K mg base CX0 (k + 1) f fd ps_odd (sp_bent K (n + 1)) := by
  have nd := sc_law_bent.nd
  refine F.ok sc_law_bent (fun vs H Q E h => ?_) (fun cdv A outer s H vs Q E hr h => ?_)
  · obtain ⟨d, c, N, v, x, z, S, q, m, p, rfl, _⟩ := h
    rfl
  obtain ⟨d, c, N, v, x, z, S, q, m, p, rfl, D, hN, hd, hdep, hel, hlen, hC, hz, qq⟩ := h
  have hu0 := hr.units0
  refine ⟨_, (pss_cons (ps_if (PW.pt (pw_or (pt_not (pt_val (pe_callB call_isi (by rfl) misi boot_isinstance (pa_cons (pv 1) (pa_cons (pe_bltn (v := .ty "tuple") (by rfl) mtuple boot_tuple rfl) pa_nil))))) (pw_or (pt_cmpR (op_eqT0 hu0) (pv 1) (pe_tup pa_nil) (nomark _)) (pw_or1 (pt_cmpR op_eq (pe_call Gd hr (by rfl) gd Kd bd .nil pass0 (pa_cons (pv 0) (pa_cons pe_int pa_nil))) pe_int (nomark _))))))
      (pss_one (ps_ret (pe_call Go hr (by rfl) go Ko bo .nil pass0 (pa_cons (pv 0) (pa_cons (pv 1) (pa_cons (pv 2) pa_nil))))))
      pss_nil)
      (pss_cons (ps_set (i := 3) nd rfl (.inl rfl) (pe_call Gd hr (by rfl) gd Kd bd .nil pass0 (pa_cons (pv 0) (pa_cons (pe_callB call_len_seq (by rfl) mlen PySem.boot_len (pa_cons (pv 1) pa_nil)) pa_nil))))
      (pss_cons (ps_set (i := 4) nd rfl (.inl rfl) (pe_call Gd hr (by rfl) gd Kd bd .nil pass0 (pa_cons (pv 0) (pa_cons pe_int pa_nil))))
      (pss_cons (ps_if (pt_cmpR op_eq (pv 4) pe_int (nomark _))
      (pss_one (ps_ret (pe_op op_catA (pe_op op_catA (pe_slice sl_tupA (pv 1) po_none (po_some (pv 3))) (pe_revT (pe_slice sl_tupA (pv 1) (po_some (pv 3)) (po_some (pe_op op_add (pv 3) pe_int))))) (pe_slice sl_tupA (pv 1) (po_some (pe_op op_add (pv 3) pe_int)) po_none))))
      pss_nil)
      (pss_cons (ps_if (pt_cmpR op_eq (pv 4) pe_int (nomark _))
      (pss_one (ps_ret (pe_op op_catA (pe_slice sl_tupA (pv 1) po_none (po_some (pe_op op_add (pv 3) pe_int))) (pe_slice sl_tupA (pv 1) (po_some (pv 3)) po_none))))
      pss_nil)
      (pss_cons (ps_if (pt_cmpR op_eq (pv 4) pe_int (nomark _))
      (pss_one (ps_ret (pe_op op_catA (pe_slice sl_tupA (pv 1) po_none (po_some (pv 3))) (pe_slice sl_tupA (pv 1) (po_some (pe_op op_add (pv 3) pe_int)) po_none))))
      pss_nil)
      (pss_one (ps_ret (pe_op op_catA (pe_op op_catA (pe_slice sl_tupA (pv 1) po_none (po_some (pv 3))) (pe_tup (pa_cons (pe_call Gb hr (by rfl) gb Kb bb .nil pass0 (pa_cons (pv 0) (pa_cons (pe_ix ix_tup (pv 1) (pv 3) (fun _ _ => rfl)) (pa_cons (pv 2) pa_nil)))) pa_nil))) (pe_slice sl_tupA (pv 1) (po_some (pe_op op_add (pv 3) pe_int)) po_none)))))))))), ?_⟩
  have od : ∀ (E' : XK) (H2 : Hp) (M : Int), Keep d c H H2 → Deck H2 d c M → M + 1 ≤ N + 3 * ((n : Int) + 1) → sp_odd K [.ref d, v, .str z] H2 Q E' := fun E' H2 M k2 D2 hM =>
    ⟨d, c, M, v, x, z, S, q, m, L9.sz x, p, rfl, D2, by omega, hd.keep (k2.off D), ⟨hel, Nat.le_refl _⟩, hC, hz, hlen, fun H' v' x' k' D' h' o' => qq H' v' x' (k2.trans k') (D'.mono (by omega)) h' o'⟩
  refine ⟨v, rfl, v, .ty "tuple", _, _, _, rfl, .ty "tuple", hd.ty, kit_t K x, _, rfl, ?_⟩
  cases x with
  | tuple ds =>
    obtain ⟨a, xs, rfl, hs, ha⟩ := L9.Dd.tup_inv hd
    refine iteF ⟨.ref a, rfl, Nat.zero_le _, fun e0 ne0 => ?_⟩
    have se := same_upd (o := .tup []) ne0
    refine ⟨a, e0, xs, rfl, rfl, (KeepT.of se).seqt hs, .inl (.inl upd_same), _, rfl, ?_⟩
    have De := D.same se
    revert De se
    generalize upd H e0 (.tup []) = H1
    intro se De
    cases hem : xs.isEmpty with
    | true => exact iteT (iteT ⟨.ref d, rfl, .ref a, rfl, .str z, rfl, od E H1 N (Keep.of se) De (by omega)⟩)
    | false =>
    have hne : xs ≠ [] := fun e => by rw [e] at hem; cases hem
    have hpos : 0 < xs.length := List.length_pos_iff.mpr hne
    refine iteF ⟨.ref d, rfl, d, c, N, 8, rfl, De, by omega, by decide, by decide, fun H2 r2 k2 D2 _ _ => ⟨rfl, _, rfl, ?_⟩⟩
    have k02 := (Keep.of se).trans k2
    refine ite2 (fun _ => ⟨.ref d, rfl, .ref a, rfl, .str z, rfl, od E H2 (N + 1) k02 D2 (by omega)⟩) (fun _ => ?_)
    have lx := ha.len
    obtain ⟨p', rfl⟩ : ∃ p', p = p' + 1 := ⟨p - 1, by have := hel.dep; simp only [PyData.depth] at this; omega⟩
    have B : Bes S q m (szs ds) p' ds := ((show Be S q m (szs ds + 1) (p' + 1) (.tuple ds) from ⟨hel, by rw [L9.sz]; omega⟩).inv).mono (by omega) (by omega)
    have esz : L9.sz (.tuple ds) = 1 + szs ds := by rw [L9.sz]
    rw [esz] at qq hlen
    have hln := szs_len ds
    have hxl : xs.length ≤ 1000000 := by omega
    have big : 4000010 ≤ sizeLine := by rw [sizeLine_eq]; decide
    have hs2 := (k02.t D).seqt hs
    refine ⟨.ref d, rfl, .ref a, rfl, a, xs, rfl, .inr hs2, d, c, N + 1, _, rfl, D2, by omega, by omega, by omega, fun H3 at' k3 D3 c0 c1 => ?_⟩
    obtain ⟨j, rfl⟩ := Int.eq_ofNat_of_zero_le c0
    have hj : j < xs.length := by omega
    refine ⟨.ref d, rfl, d, c, N + 1 + 1, 16, rfl, D3, by omega, by decide, by decide, fun H4 way k4 D4 _ _ => ?_⟩
    have k04 := k02.trans (k3.trans k4)
    have hs4 := (k04.t D).seqt hs
    have ha4 := ha.keep (k04.off D)
    obtain ⟨xj, hxj⟩ : ∃ xj, ds[j]? = some xj := ⟨ds[j]'(by omega), List.getElem?_eq_getElem _⟩
    obtain ⟨vj, hvj⟩ : ∃ vj, xs[j]? = some vj := ⟨xs[j], List.getElem?_eq_getElem _⟩
    have ar := B.around hxj
    -- a tuple, new or old, at the end
    have fin : ∀ H' t (us : List V) (es : List PyData), Keep d c H4 H' → Deck H' d c (N + 3 * ((n : Int) + 1)) → SqT K H' t us → DdAll K (Off d c) H' us es → (∃ z, Bes (z :: S) (3 * q) m (2 * szs ds + 41) (p' + 3) es) → Q (.ref t) H' := fun H' t us es k D' ht hd' hb => by
      obtain ⟨z1, hb⟩ := hb
      exact qq H' _ _ (k04.trans k) D' (.tup ht hd') ⟨z1, (hb.tup).mono (by omega) (by omega)⟩
    have fin1 : ∀ H' t (us : List V) (es : List PyData), Same H4 H' → SqT K H' t us → DdAll K (Off d c) H4 us es → Bes S q m (2 * szs ds + 41) (p' + 3) es → Q (.ref t) H' := fun H' t us es s ht hd' hb =>
      fin H' t us es (Keep.of s) ((D4.same s).mono (by omega)) ht (hd'.keep (KeepO.of s)) ⟨"", hb.wide (fun z hz => List.mem_cons_of_mem _ hz) (by omega) (Nat.le_refl _) (Nat.le_refl _) (Nat.le_refl _)⟩
    have tk : ∀ i, DdAll K (Off d c) H4 (xs.take i) (ds.take i) := fun i => dd_take i ha4
    have dr : ∀ i, DdAll K (Off d c) H4 (xs.drop i) (ds.drop i) := fun i => dd_drop i ha4
    have ltk : ∀ i, (xs.take i).length ≤ 1000000 := fun i => by rw [List.length_take]; omega
    have ldr : ∀ i, (xs.drop i).length ≤ 1000000 := fun i => by rw [List.length_drop]; omega
    refine ⟨.int way, rfl, rfl, _, rfl, ite2 (fun _ => ?_) (fun _ => ?_)⟩
    · have e5 : cutV xs (some (j : Int)) (some ((j : Int) + 2)) = (xs.drop j).take 2 := by
        rw [show (j : Int) + 2 = ((j + 2 : Nat) : Int) from rfl, cut_both (Nat.le_of_lt hj), show j + 2 - j = 2 by omega]
      refine ⟨.ref a, rfl, .int (j : Int), rfl, (j : Int), rfl, slice_any hs4 fun H5 p5 s5 h5 => ⟨.ref a, rfl, .int (j : Int), rfl, (j : Int), rfl, .int (j : Int), rfl, (j : Int), 2, rfl, rfl, (j : Int) + 2, rfl, slice_any ((KeepT.of s5).seqt hs4) fun H6 p6 s6 h6 => ⟨p6, (xs.drop j).take 2, rfl, e5 ▸ h6, fun p7 n7 => ?_⟩⟩⟩
      have h5' : SqT K H5 p5 (xs.take j) := by rw [← cut_to' xs j]; exact h5
      have s7 := same_upd (o := .tup ((xs.drop j).take 2).reverse) n7
      have l2 : ((xs.drop j).take 2).reverse.length ≤ 2 := by rw [List.length_reverse, List.length_take]; omega
      have := ltk j
      have := ldr (j + 2)
      refine cat_any ((KeepT.of (s6.trans s7)).seqt h5') (.inl (.inl upd_same)) (by omega) fun H8 p8 s8 h8 => ⟨.ref a, rfl, .int (j : Int), rfl, (j : Int), 2, rfl, rfl, (j : Int) + 2, rfl, slice_from ((KeepT.of (s5.trans (s6.trans (s7.trans s8)))).seqt hs4) fun H9 p9 s9 h9 => ?_⟩
      have h9' : SqT K H9 p9 (xs.drop (j + 2)) := by rw [← cut_from' xs (j + 2)]; exact h9
      refine cat_any ((KeepT.of s9).seqt h8) h9' (by rw [List.length_append]; omega) fun H10 p10 s10 h10 => ?_
      exact fin1 H10 p10 _ _ (s5.trans (s6.trans (s7.trans (s8.trans (s9.trans s10))))) h10 (((tk j).app (dd_rev (dd_take 2 (dr j)))).app (dr (j + 2))) ((bes_turn B).mono (by omega) (by omega))
    refine ⟨.int way, rfl, rfl, _, rfl, ite2 (fun _ => ?_) (fun _ => ?_)⟩
    · refine ⟨.ref a, rfl, .int (j : Int), rfl, (j : Int), 1, rfl, rfl, (j : Int) + 1, rfl, slice_any hs4 fun H5 p5 s5 h5 => ⟨.ref a, rfl, .int (j : Int), rfl, (j : Int), rfl, slice_from ((KeepT.of s5).seqt hs4) fun H6 p6 s6 h6 => ?_⟩⟩
      have h5' : SqT K H5 p5 (xs.take (j + 1)) := by rw [← cut_to' xs (j + 1)]; exact h5
      have h6' : SqT K H6 p6 (xs.drop j) := by rw [← cut_from' xs j]; exact h6
      have := ltk (j + 1)
      have := ldr j
      refine cat_any ((KeepT.of s6).seqt h5') h6' (by omega) fun H7 p7 s7 h7 => ?_
      have hb := (ar.twice).mono (s' := 2 * szs ds + 41) (p' := p' + 3) (by omega) (by omega)
      have hdr : ds.drop j = xj :: ds.drop (j + 1) := by
        rw [List.drop_eq_getElem_cons (by omega), (List.getElem?_eq_some_iff.mp hxj).2]
      rw [← take_at hxj, ← hdr] at hb
      exact fin1 H7 p7 _ _ (s5.trans (s6.trans s7)) h7 ((tk (j + 1)).app (dr j)) hb
    refine ⟨.int way, rfl, rfl, _, rfl, ite2 (fun _ => ?_) (fun _ => ?_)⟩
    · refine ⟨.ref a, rfl, .int (j : Int), rfl, (j : Int), rfl, slice_any hs4 fun H5 p5 s5 h5 => ⟨.ref a, rfl, .int (j : Int), rfl, (j : Int), 1, rfl, rfl, (j : Int) + 1, rfl, slice_from ((KeepT.of s5).seqt hs4) fun H6 p6 s6 h6 => ?_⟩⟩
      have h5' : SqT K H5 p5 (xs.take j) := by rw [← cut_to' xs j]; exact h5
      have h6' : SqT K H6 p6 (xs.drop (j + 1)) := by rw [← cut_from' xs (j + 1)]; exact h6
      have := ltk j
      have := ldr (j + 1)
      refine cat_any ((KeepT.of s6).seqt h5') h6' (by omega) fun H7 p7 s7 h7 => ?_
      exact fin1 H7 p7 _ _ (s5.trans (s6.trans s7)) h7 ((tk j).app (dr (j + 1))) ((ar.out).mono (by omega) (by omega))
    refine ⟨.ref a, rfl, .int (j : Int), rfl, (j : Int), rfl, slice_any hs4 fun H5 p5 s5 h5 => ⟨.ref d, rfl, .ref a, rfl, .int (j : Int), rfl, a, xs, (j : Int), vj, rfl, rfl, (KeepT.of s5).seqt hs4, atI_nat hvj, .str z, rfl, ?_⟩⟩
    have h5' : SqT K H5 p5 (xs.take j) := by rw [← cut_to' xs j]; exact h5
    obtain ⟨y, hy, hyd⟩ := dd_at (ha4.keep (KeepO.of (ok := Off d c) s5)) hvj
    rw [hxj] at hy
    obtain rfl : xj = y := Option.some.inj hy
    have hyl : L9.sz xj ≤ 1000000 := by
      have := ar.sz
      omega
    have hyn : xj.depth < n := by
      have h1 := depth_mem (List.mem_of_getElem? hxj)
      simp only [PyData.depth] at hdep
      omega
    refine ⟨d, c, _, vj, xj, z, S, q, m, p', rfl, D4.same s5, by omega, hyd, hyn, ar.elx, hyl, hC, hz, fun H6 v6 x6 k6 D6 hd6 ho6 => ⟨small_le (Nat.le_of_ble_eq_true rfl), fun p7 n7 => ?_⟩⟩
    have s7 := same_upd (o := .tup [v6]) n7
    have kT : KeepT H5 H6 := k6.t (D4.same s5)
    have := ltk j
    have := ldr (j + 1)
    refine cat_any ((kT.trans (KeepT.of s7)).seqt h5') (.inl (.inl upd_same)) (by rw [List.length_singleton]; omega) fun H8 p8 s8 h8 => ⟨.ref a, rfl, .int (j : Int), rfl, (j : Int), 1, rfl, rfl, (j : Int) + 1, rfl, slice_from ((((KeepT.of s5).trans kT).trans (KeepT.of (s7.trans s8))).seqt hs4) fun H9 p9 s9 h9 => ?_⟩
    have h9' : SqT K H9 p9 (xs.drop (j + 1)) := by rw [← cut_from' xs (j + 1)]; exact h9
    refine cat_any ((KeepT.of s9).seqt h8) h9' (by rw [List.length_append, List.length_singleton]; omega) fun H10 p10 s10 h10 => ?_
    have s6a := s7.trans (s8.trans (s9.trans s10))
    have k4a : Keep d c H4 H10 := (Keep.of s5).trans (k6.trans (Keep.of s6a))
    obtain ⟨z1, ho6⟩ := ho6
    have hput := ar.put (S' := z1 :: S) (q' := 3 * q) (n := 40) (r := 3) (fun z hz => List.mem_cons_of_mem _ hz) (by omega) ho6
    exact fin H10 p10 _ _ k4a ((D6.same s6a).mono (by omega)) h10 ((((tk j).keep (k4a.off D4)).app (.cons (hd6.keep (KeepO.of s6a)) .nil)).app ((dr (j + 1)).keep (k4a.off D4))) ⟨z1, hput.mono (by omega) (by omega)⟩
  | _ => exact iteT (iteT ⟨.ref d, rfl, v, rfl, .str z, rfl, od E H N (fun _ _ _ _ e => e) D (by omega)⟩)
theorem ok_bent {f fd' fo : Addr} {fd dd do' : FuncData} {k : Nat} (F : Fun K "_law_bent" "_law_bent" s_law_bent f fd)
    (Gd : FnOk P w K mg base CX0 k fd' dd ["_law_deck_here", "_law_most"] sp_draw) (gd : mg "_law_draw" = some (.ref fd')) (Kd : PySem.W.keepIn K (.ref fd') = true) (bd : Binds K dd ["_law_deck_here", "_law_most"] [])
    (Go : FnOk P w K mg base CX0 k fo do' ps_odd (sp_odd K)) (go : mg "_law_odd" = some (.ref fo)) (Ko : PySem.W.keepIn K (.ref fo) = true) (bo : Binds K do' ps_odd [])
    (gb : mg "_law_bent" = some (.ref f)) (Kb : PySem.W.keepIn K (.ref f) = true) (bb : Binds K fd ps_odd [])
    (misi : mg "isinstance" = none) (mtuple : mg "tuple" = none) (mlen : mg "len" = none) : ∀ n : Nat, FnOk P w K mg base CX0 (k + n) f fd ps_odd (sp_bent K n)
  | 0 => ⟨fun vs H Q E h => by obtain ⟨_, _, _, _, _, _, _, _, _, _, _, _, _, _, h, _⟩ := h; exact absurd h (Nat.not_lt_zero _), fun A outer s H args us vs Q E hr he hb hv hs => by obtain ⟨_, _, _, _, _, _, _, _, _, _, _, _, _, _, h, _⟩ := hs; exact absurd h (Nat.not_lt_zero _)⟩
  | n + 1 => ok_bent_step (k := k + n) F (Gd.mono (by omega)) gd Kd bd (Go.mono (by omega)) go Ko bo (ok_bent F Gd gd Kd bd Go go Ko bo gb Kb bb misi mtuple mlen n) gb Kb bb misi mtuple mlen
end
end L9

namespace L9
open PySem PySem.Spec PyProof.Rows L2 GR AD RZ WX ZE TX RVT
theorem off_far {d c : Addr} : ∀ a, Off d c a → a ≠ sysModules := fun a h => h.2.2
theorem sv_dd {K : PySem.W.Frag} {H : Hp} {v : V} {x : PyData} (h : SV K H v x) : Dd K F0 H v x := by
  obtain ⟨p, w, v1, vs, rfl, h1, h2, h3, h4⟩ := h
  exact dd_of _ _ h4.flat h3
theorem svs_dd {K : PySem.W.Frag} {H : Hp} : ∀ {us : List V} {ds : List PyData}, SVs K H us ds → DdAll K F0 H us ds
  | _, _, .nil => .nil
  | _, _, .cons h t => .cons (sv_dd h) (svs_dd t)
/-- what may be asked about -/
def Aq (d : PyData) : Prop := ∃ S q m s p, Be S q m s p d ∧ S.length ≤ 60 ∧ q ≤ 1000 ∧ s ≤ 3000000 ∧ p < 40
theorem Aq.of {S : List Str} {q m s p : Nat} {d : PyData} (h : Be S q m s p d) (h1 : S.length ≤ 60) (h2 : q ≤ 1000) (h3 : s ≤ 3000000) (h4 : p < 40) : Aq d := ⟨S, q, m, s, p, h, h1, h2, h3, h4⟩
theorem Aq.zp {d : PyData} (h : Aq d) : ∃ S : List Str, S.length ≤ 60 ∧ (∀ ds, d = .tuple ds → (∀ y, y ∈ ds → Zp S y) ∧ ds.length ≤ 4000000) ∧ (∀ ds, d = .tuple ds → (∀ y, y ∈ ds → ∀ es, y = .tuple es → ∀ x, x ∈ es → Lk 40 x) ∧ ds.length ≤ 4000000) := by
  obtain ⟨S, q, m, s, p, hb, h1, h2, h3, h4⟩ := h
  have inner : ∀ ds, d = .tuple ds → ∀ y, y ∈ ds → atB S q m y = true ∧ ∀ es, y = .tuple es → ∀ x, x ∈ es → shB x = true ∧ x.depth < 40 ∧ sz x ≤ 4000000 := by
    rintro ds rfl y hy
    have a := hb.at'
    have b := hb.dep
    have e := hb.sz
    rw [atB] at a
    simp only [PyData.depth] at b
    rw [sz] at e
    have ey := els_inv (p := p) (by omega) a y hy
    have sy := sz_mem hy
    refine ⟨ey.at', ?_⟩
    rintro es rfl x hx
    have a2 := ey.at'
    have b2 := ey.dep
    rw [atB] at a2
    simp only [PyData.depth] at b2
    rw [sz] at sy
    have ex := els_inv (p := p) (by omega) a2 x hx
    have sx := sz_mem hx
    have dx := ex.dep
    exact ⟨at_sh h2 x ex.at', by omega, by omega⟩
  have len : ∀ ds, d = .tuple ds → ds.length ≤ 4000000 := by
    rintro ds rfl
    have e := hb.sz
    rw [sz] at e
    have := szs_len ds
    omega
  refine ⟨S, h1, fun ds e => ⟨fun y hy => ?_, len ds e⟩, fun ds e => ⟨fun y hy es e2 x hx => ?_, len ds e⟩⟩
  · obtain ⟨g1, g2⟩ := inner ds e y hy
    exact ⟨at_tx y g1, fun es e2 x hx => ⟨(g2 es e2 x hx).1, (g2 es e2 x hx).2.1, (g2 es e2 x hx).2.2⟩⟩
  · obtain ⟨g1, g2⟩ := inner ds e y hy
    exact ⟨(g2 es e2 x hx).1, (g2 es e2 x hx).2.1, (g2 es e2 x hx).2.2⟩
section
variable {P : Program} {w : World} {K : PySem.W.Frag} {mg : Str → Option Value} {base : Heap}
abbrev s_law_right : Stmt := topS 60
abbrev N_rig : List Str := ["_law_thing", "_law_found"]
theorem sc_law_right : FnScope N_rig ["_law_thing"] (defScope s_law_right) := ⟨rfl, rfl, rfl, by decide +kernel, rfl, by decide +kernel, by decide +kernel⟩
def sp_right (K : PySem.W.Frag) : Sp := fun vs H Q _ => ∃ (v : V) (d : PyData) (ok : Addr → Prop), vs = [v] ∧ Dd K ok H v d ∧ (∀ b, ok b → b ≠ sysModules) ∧ Aq d ∧ ∀ H', Same H H' → Q (.bl true) H'
theorem ok_right {f fl fx : Addr} {fd dl dx : FuncData} {k : Nat} (F : Fun K "_law_right" "_law_right" s_law_right f fd)
    (Gl : FnOk P w K mg base CX0 k fl dl ["_law_thing"] (sp_ltr K 40)) (gl : mg "_law_is_transaction" = some (.ref fl)) (Kl : PySem.W.keepIn K (.ref fl) = true) (bl : Binds K dl ["_law_thing"] [])
    (Gx : FnOk P w K mg base CX0 k fx dx ["thing"] (sp_itA K)) (gx : mg "is_transaction" = some (.ref fx)) (Kx : PySem.W.keepIn K (.ref fx) = true) (bx : Binds K dx ["thing"] [])
    (misi : mg "isinstance" = none) (mbool : mg "bool" = none) : FnOk P w K mg base CX0 (k + 1) f fd ["_law_thing"] (sp_right K) := by
  have nd := sc_law_right.nd
  refine F.ok sc_law_right (fun vs H Q E h => ?_) (fun cdv A outer s H vs Q E hr h => ?_)
  · obtain ⟨v, d, ok, rfl, _⟩ := h
    rfl
  obtain ⟨v, d, ok, rfl, hd, hok, ha, q⟩ := h
  refine ⟨_, (pss_cons (ps_set (i := 1) nd rfl (.inl rfl) (pe_call Gx hr (by rfl) gx Kx bx .nil pass0 (pa_cons (pv 0) pa_nil)))
      (pss_one (ps_ret (pe_and (pe_callB call_isi (by rfl) misi boot_isinstance (pa_cons (pv 1) (pa_cons (pe_bltn (v := .ty "bool") (by rfl) mbool boot_bool rfl) pa_nil))) (pe_one (pe_cmpR op_eq (pv 1) (pe_call Gl hr (by rfl) gl Kl bl .nil pass0 (pa_cons (pv 0) pa_nil)) (nomark _))))))), ?_⟩
  obtain ⟨S, h60, z1, z2⟩ := ha.zp
  refine ⟨v, rfl, v, d, ok, S, rfl, hd, z1, h60, fun H1 s1 => ?_⟩
  refine ⟨.bl (isTr d), rfl, .bl (isTr d), .ty "bool", _, _, _, rfl, .ty "bool", (Dd.bl (K := K) (ok := ok) (H := H1) (isTr d)).ty, kit_b K _, _, rfl, iteT ?_⟩
  refine ⟨.bl (isTr d), rfl, v, rfl, v, d, ok, rfl, hd.keep (KeepO.of s1), hok, z2, fun H2 s2 => ⟨rfl, ?_⟩⟩
  rw [decide_eq_true (rfl : V.bl (isTr d) = V.bl (isTr d))]
  exact q H2 (s1.trans s2)
/-- the texts of a turn -/
abbrev roundS (ts cs ns ls : List Str) : List Str := baseS ++ (moreS ++ (ts ++ (cs ++ (ns ++ ls))))
theorem round_len {ts cs ns ls : List Str} (h1 : ts.length = 2) (h2 : cs.length = 3) (h3 : ns.length = 3) (h4 : ls.length ≤ 7) : (roundS ts cs ns ls).length ≤ 46 := by
  rw [List.length_append, List.length_append, List.length_append, List.length_append, List.length_append, h1, h2, h3]
  have : baseS.length = 24 := rfl
  have : moreS.length = 7 := rfl
  omega
theorem round_cs {ts cs ns ls : List Str} : Cs (roundS ts cs ns ls) 9 (10 ^ 39) := ⟨⟨fun w hw => List.mem_append_left _ hw, by decide, by decide, by decide⟩, fun w hw => List.mem_append_right _ (List.mem_append_left _ hw), by decide, by decide, by decide⟩
theorem round_wz {ts cs ns ls : List Str} (h1 : ∀ z, z ∈ ts → Nm z) (h2 : ∀ z, z ∈ cs → Nm z) : Wz (roundS ts cs ns ls) ts cs :=
  ⟨fun z hz => ⟨h1 z hz, List.mem_append_right _ (List.mem_append_right _ (List.mem_append_left _ hz))⟩, fun z hz => ⟨h2 z hz, List.mem_append_right _ (List.mem_append_right _ (List.mem_append_right _ (List.mem_append_left _ hz)))⟩, List.mem_append_left _ (by decide)⟩
theorem round_ns {ts cs ns ls : List Str} {z : Str} (h : z ∈ ns) : z ∈ roundS ts cs ns ls := List.mem_append_right _ (List.mem_append_right _ (List.mem_append_right _ (List.mem_append_right _ (List.mem_append_left _ h))))
theorem round_ls {ts cs ns ls : List Str} {z : Str} (h : z ∈ ls) : z ∈ roundS ts cs ns ls := List.mem_append_right _ (List.mem_append_right _ (List.mem_append_right _ (List.mem_append_right _ (List.mem_append_right _ h))))
theorem bes_of {S : List Str} {q m s p : Nat} : ∀ {ds : List PyData}, (∀ x, x ∈ ds → Be S q m s p x) → Bes S q m (ds.length * s) p ds
  | [], _ => by rw [List.length_nil, Nat.zero_mul]; exact .nil
  | d :: ds, h => by
    have := Bes.two (h d List.mem_cons_self) (bes_of fun x hx => h x (List.mem_cons_of_mem _ hx))
    rw [List.length_cons, Nat.add_mul, Nat.one_mul, Nat.add_comm]
    exact this
/-- all of a turn's transaction -/
structure Rd (S : List Str) (ds : List PyData) : Prop where
  ok : goT [] ds = true
  bd : Be S 9 (10 ^ 39) 51101 14 (.tuple ds)
  len : S.length ≤ 46
  cs : Cs S 9 (10 ^ 39)
theorem round_ok {ts cs ns : List Str} (h1 : ∀ z, z ∈ ts → Nm z) (h2 : ∀ z, z ∈ cs → Nm z) (l1 : ts.length = 2) (l2 : cs.length = 3) (l3 : ns.length = 3) {ds : List PyData} (hc : Chain ts cs ds) (hl : ds.length ≤ 7) :
    Rd (roundS ts cs ns (letsD ds)) ds := by
  have w : Wz (roundS ts cs ns (letsD ds)) ts cs := round_wz h1 h2
  have hm : ∀ z, z ∈ letsD ds → z ∈ roundS ts cs ns (letsD ds) := fun z hz => round_ls hz
  have hb := bes_of fun x hx => ((hc.bd round_cs.toBs w hm) x hx).be
  have hll : (letsD ds).length ≤ 7 := Nat.le_trans (List.length_filterMap_le _ _) hl
  exact ⟨hc.ok w hm, ((hb.mono (s' := 51100) (by have : ds.length * 7300 ≤ 7 * 7300 := Nat.mul_le_mul_right _ hl; omega) (Nat.le_refl _)).tup).mono (by omega) (by omega), round_len l1 l2 l3 hll, round_cs⟩
end
end L9

set_option maxHeartbeats 8000000
namespace L9
open PySem PySem.Spec PyProof.Rows L2 GR AD RZ WX ZE TX RVT
section
variable {P : Program} {w : World} {K : PySem.W.Frag} {mg : Str → Option Value} {base : Heap}
abbrev s_law : Stmt := topS 61
abbrev N_law : List Str := ["_law_script", "_law_deck_here", "_law_turn", "_law_world_here", "_law_most", "_law_deep", "_law_good", "_law_bent_here", "_law_k", "_law_some", "_law_one"]
theorem sc_law : FnScope N_law ["_law_script"] (defScope s_law) := ⟨rfl, rfl, rfl, by decide +kernel, rfl, by decide +kernel, by decide +kernel⟩
def sp_law (K : PySem.W.Frag) : Sp := fun vs H Q _ => ∃ (a : Addr) (ns : List Int), vs = [.ref a] ∧ SqL K H a (ns.map V.int) ∧ ∀ H', Q (.bl true) H'
theorem ok_law {f f_deck f_world f_tran f_right f_it f_lt f_ben f_odd : Addr} {fd d_deck d_world d_tran d_right d_it d_lt d_ben d_odd : FuncData} {k : Nat} (F : Fun K "law" "law" s_law f fd)
    (G_deck : FnOk P w K mg base CX0 k f_deck d_deck ["_law_script"] (sp_deck K)) (g_deck : mg "_law_deck" = some (.ref f_deck)) (K_deck : PySem.W.keepIn K (.ref f_deck) = true) (b_deck : Binds K d_deck ["_law_script"] [])
    (G_world : FnOk P w K mg base CX0 k f_world d_world ["_law_deck_here"] sp_world) (g_world : mg "_law_world" = some (.ref f_world)) (K_world : PySem.W.keepIn K (.ref f_world) = true) (b_world : Binds K d_world ["_law_deck_here"] [])
    (G_tran : FnOk P w K mg base CX0 k f_tran d_tran ps_tr (sp_tran K)) (g_tran : mg "_law_transaction" = some (.ref f_tran)) (K_tran : PySem.W.keepIn K (.ref f_tran) = true) (b_tran : Binds K d_tran ps_tr [])
    (G_right : FnOk P w K mg base CX0 k f_right d_right ["_law_thing"] (sp_right K)) (g_right : mg "_law_right" = some (.ref f_right)) (K_right : PySem.W.keepIn K (.ref f_right) = true) (b_right : Binds K d_right ["_law_thing"] [])
    (G_it : FnOk P w K mg base CX0 k f_it d_it ["thing"] (sp_itA K)) (g_it : mg "is_transaction" = some (.ref f_it)) (K_it : PySem.W.keepIn K (.ref f_it) = true) (b_it : Binds K d_it ["thing"] [])
    (G_lt : FnOk P w K mg base CX0 k f_lt d_lt ["_law_thing"] (sp_ltr K 40)) (g_lt : mg "_law_is_transaction" = some (.ref f_lt)) (K_lt : PySem.W.keepIn K (.ref f_lt) = true) (b_lt : Binds K d_lt ["_law_thing"] [])
    (G_ben : FnOk P w K mg base CX0 k f_ben d_ben ps_odd (sp_bent K 40)) (g_ben : mg "_law_bent" = some (.ref f_ben)) (K_ben : PySem.W.keepIn K (.ref f_ben) = true) (b_ben : Binds K d_ben ps_odd [])
    (G_odd : FnOk P w K mg base CX0 k f_odd d_odd ps_odd (sp_odd K)) (g_odd : mg "_law_odd" = some (.ref f_odd)) (K_odd : PySem.W.keepIn K (.ref f_odd) = true) (b_odd : Binds K d_odd ps_odd [])
    (mrange : mg "range" = none) (mlist : mg "list" = none) : FnG P w K mg base CX0 (k + 1) f fd ["_law_script"] (sp_law K) := by
  have nd := sc_law.nd
  refine ok_g F sc_law (fun vs H Q E h => ?_) (fun cdv A outer s H vs Q E hg hr h => ?_)
  · obtain ⟨a, ns, rfl, _⟩ := h
    rfl
  obtain ⟨a, ns, rfl, hS, q⟩ := h
  have hu0 := hr.units0
  have hu1 := hu_of hr
  refine ⟨_, (pss_cons (ps_set (i := 1) nd rfl (.inl rfl) (pe_call G_deck hr (by rfl) g_deck K_deck b_deck .nil pass0 (pa_cons (pv 0) pa_nil)))
      (Evl.pss_cut (ps_for PassesOwn.never rfl (pi_range1 rfl mrange (pa_cons pe_int pa_nil)) (pg_name (i := 2) nd rfl (Or.inl rfl))
      (pss_cons (ps_set (i := 3) nd rfl (.inl rfl) (pe_call G_world hr (by rfl) g_world K_world b_world .nil pass0 (pa_cons (pv 1) pa_nil)))
        (Evl.pss_cut (ps_asg (pe_ix ix_list (pe_lst (pa_cons (pe_tup (pa_cons pe_int (pa_cons pe_int pa_nil))) (pa_cons (pe_tup (pa_cons pe_int (pa_cons pe_int pa_nil))) (pa_cons (pe_tup (pa_cons pe_int (pa_cons pe_int pa_nil))) pa_nil)))) (pv 2) (fun _ _ => rfl)) (pg_tup rfl (pgs_cons (pg_name (i := 4) nd rfl (Or.inl rfl)) (pgs_cons (pg_name (i := 5) nd rfl (Or.inl rfl)) pgs_nil))))
        (pss_cons (ps_set (i := 6) nd rfl (.inl rfl) (pe_call G_tran hr (by rfl) g_tran K_tran b_tran .nil pass0 (pa_cons (pv 1) (pa_cons (pv 3) (pa_cons (pv 4) (pa_cons (pv 5) pa_nil))))))
        (pss_cons (ps_if (PW.pt (pw_or (pt_cmpR op_notBl (pe_call G_it hr (by rfl) g_it K_it b_it .nil pass0 (pa_cons (pv 6) pa_nil)) pe_bl (nomark _)) (pw_or1 (pt_not (pt_val (pe_call G_lt hr (by rfl) g_lt K_lt b_lt .nil pass0 (pa_cons (pv 6) pa_nil)))))))
        (pss_one (ps_ret pe_bl))
        pss_nil)
        (pss_cons (ps_set (i := 7) nd rfl (.inl rfl) (pv 6))
        (Evl.pss_cut (ps_for PassesOwn.never rfl (pi_range1 rfl mrange (pa_cons pe_int pa_nil)) (pg_name (i := 8) nd rfl (Or.inl rfl))
        (Evl.pss_cut (ps_set (i := 7) nd rfl (.inl rfl) (pe_call G_ben hr (by rfl) g_ben K_ben b_ben .nil pass0 (pa_cons (pv 1) (pa_cons (pe_ix ix_list (pe_lst (pa_cons (pv 6) (pa_cons (pv 7) pa_nil))) (pe_op op_mod (pv 8) pe_int) (fun _ _ => rfl)) (pa_cons (pe_ix ix_list (pe_dget hu1 (pv 3) pe_str noSl_str) pe_int (fun _ _ => rfl)) pa_nil)))))
          (pss_one (ps_if (PW.pt (pw_or (pt_not (pt_val (pe_call G_right hr (by rfl) g_right K_right b_right .nil pass0 (pa_cons (pv 7) pa_nil)))) (pw_or1 (pt_not (pt_val (pe_call G_right hr (by rfl) g_right K_right b_right .nil pass0 (pa_cons (pe_tup (pa_cons (pv 7) pa_nil)) pa_nil)))))))
          (pss_one (ps_ret pe_bl))
          pss_nil))))
        (Evl.pss_cut (ps_set (i := 9) nd rfl (.inl rfl) (pe_lst (pa_cons (pe_revT (pv 6)) (pa_cons (pe_op op_catA (pv 6) (pv 6)) (pa_cons (pe_callTy call_listS (by rfl) mlist boot_list (pa_cons (pv 6) pa_nil)) (pa_cons (pe_call G_odd hr (by rfl) g_odd K_odd b_odd .nil pass0 (pa_cons (pv 1) (pa_cons (pv 6) (pa_cons pe_str pa_nil)))) pa_nil))))))
        (Evl.pss_cut (ps_expr (pe_bm PySem.F.plainAttrs_list PySem.F.slot_list_append PySem.F.type_list_append mt_append (pv 9) (pa_cons (pe_op op_catA (pv 6) (pe_tup (pa_cons (pe_tup (pa_cons pe_str (pa_cons (pe_tup (pa_cons pe_str pa_nil)) pa_nil))) pa_nil))) pa_nil)))
        (pss_one (ps_if (pt_cmpR (op_neL0 hu0) (pe_lc (own := [("_law_one", 10)]) (tt := tNot (tB (tCall (sp_right K) [] E0 (tCons (tVar 10) tNil)))) (te := tVar 10) rfl nd (pi_list (pv 9)) (blkOk_by (N := N_law) (sc := defScope s_law) (by decide +kernel)) (fun _ _ _ _ _ => (pg_name (i := 10) nd rfl (Or.inl rfl))) (fun _ _ _ _ _ => (pts_one (pt_not (pt_val (pe_call G_right hr (by rfl) g_right K_right b_right .nil pass0 (pa_cons (pv 10) pa_nil)))))) (fun _ _ _ _ _ => (pv 10))) (pe_lst pa_nil) (nomark _))
        (pss_one (ps_ret pe_bl))
        pss_nil)))))))))))
      (pss_one (ps_ret pe_bl)))), ?_⟩
  refine ⟨.ref a, rfl, a, ns, rfl, hS, fun H1 d c s1 n1 D1 => ?_⟩
  refine ⟨fun σ' H' => ∃ y2 y3 y4 y5 y6 y7 y8 y9, σ' = [some (.ref a), some (.ref d), y2, y3, y4, y5, y6, y7, y8, y9, none], ?_, ?_⟩
  · refine ⟨3, rfl, by decide, by decide, ?_⟩
    refine for_range (n := 3) (fun i σ H' => ∃ y2 y3 y4 y5 y6 y7 y8 y9, σ = [some (.ref a), some (.ref d), y2, y3, y4, y5, y6, y7, y8, y9, none] ∧ Deck H' d c (1000000 * (i : Int))) ?_ ?_ ?_
    · exact ⟨none, none, none, none, none, none, none, none, rfl, D1.mono (by omega)⟩
    · rintro i σ H2 hi ⟨y2, y3, y4, y5, y6, y7, y8, y9, rfl, D2⟩
      refine ⟨.ref d, rfl, d, c, _, rfl, D2, by omega, fun H3 u tl cl nl kl ts cs nms ks k3 D3 nu W3 => ?_⟩
      -- how many, how deep
      refine ⟨fun σ' H' => ∃ (many : Nat) (deep : Int), σ' = [some (.ref a), some (.ref d), some (.int (0 + (i : Int))), some (.ref u), some (.int (many : Int)), some (.int deep), y6, y7, y8, y9, none] ∧ many ≤ 7 ∧ deep ≤ 3 ∧ Same H3 H', ?_, ?_⟩
      · refine ⟨le2, fun t1 m1 => ⟨le2, fun t2 m2 => ⟨le2, fun t3 m3 => ⟨small_le (Nat.le_of_ble_eq_true rfl), fun L mL => ⟨.int (0 + (i : Int)), rfl, ?_⟩⟩⟩⟩⟩
        have a1 := same_upd (o := .tup [.int 7, .int 1]) m1
        have a2 := same_upd (o := .tup [.int 5, .int 2]) m2
        have a3 := same_upd (o := .tup [.int 2, .int 3]) m3
        have aL := same_upd (o := .lst [.ref t1, .ref t2, .ref t3]) mL
        rcases (show i = 0 ∨ i = 1 ∨ i = 2 by omega) with rfl | rfl | rfl
        · refine ⟨L, [.ref t1, .ref t2, .ref t3], _, .ref t1, rfl, rfl, .inl (.inl upd_same), atI_nat (j := 0) rfl, ?_⟩
          refine ⟨_, _, rfl, .inl (.inl (aL _ _ (a3 _ _ (a2 _ _ upd_same)))), rfl, _, _, rfl, _, _, rfl, rfl, 7, 1, rfl, by decide, by decide, a1.trans (a2.trans (a3.trans aL))⟩
        · refine ⟨L, [.ref t1, .ref t2, .ref t3], _, .ref t2, rfl, rfl, .inl (.inl upd_same), atI_nat (j := 1) rfl, ?_⟩
          refine ⟨_, _, rfl, .inl (.inl (aL _ _ (a3 _ _ upd_same))), rfl, _, _, rfl, _, _, rfl, rfl, 5, 2, rfl, by decide, by decide, a1.trans (a2.trans (a3.trans aL))⟩
        · refine ⟨L, [.ref t1, .ref t2, .ref t3], _, .ref t3, rfl, rfl, .inl (.inl upd_same), atI_nat (j := 2) rfl, ?_⟩
          refine ⟨_, _, rfl, .inl (.inl (aL _ _ upd_same)), rfl, _, _, rfl, _, _, rfl, rfl, 2, 3, rfl, by decide, by decide, a1.trans (a2.trans (a3.trans aL))⟩
      rintro σ1 H4 ⟨many, deep, rfl, hmany, hdeep, s4⟩
      have D4 := D3.same s4
      have W4 := W3.keep (Keep.of s4)
      refine ⟨.ref d, rfl, .ref u, rfl, .int (many : Int), rfl, .int deep, rfl, d, c, u, _, deep, many, ts, cs, nms, rfl, hdeep, hmany, D4, by omega, ⟨tl, cl, nl, kl, ks, W4⟩, fun H5 p us ds k5 D5 hp hus hul hch => ?_⟩
      have W5 := W4.keep k5
      have hlu := svs_len hus
      have R := round_ok (ns := nms) W4.at' W4.ac W4.lt W4.lc W4.ln hch (by omega)
      have hns : ∀ z, z ∈ nms → Nm z ∧ z ∈ roundS ts cs nms (letsD ds) := fun z hz => ⟨W5.an z hz, round_ns hz⟩
      revert R hns
      generalize roundS ts cs nms (letsD ds) = S
      intro R hns
      have hgood : Dd K (Off d c) H5 (.ref p) (.tuple ds) := .tup (.inl (.inl hp)) ((svs_dd hus).mono fun _ h => h.elim)
      have aq : Aq (.tuple ds) := Aq.of R.bd (by have := R.len; omega) (by decide) (by decide) (by decide)
      obtain ⟨S', h60, z1, z2⟩ := aq.zp
      have htr : isTr (.tuple ds) = true := R.ok
      refine ⟨.ref p, rfl, .ref p, .tuple ds, _, S', rfl, hgood, z1, h60, fun H6 s6 => ⟨true, true, by rw [htr], rfl, _, rfl, iteF ?_⟩⟩
      have hgood6 := hgood.keep (KeepO.of s6)
      refine ⟨.ref p, rfl, .ref p, .tuple ds, _, rfl, hgood6, off_far, z2, fun H7 s7 => ⟨_, rfl, ?_⟩⟩
      rw [htr]
      refine iteF ?_
      have s57 := s6.trans s7
      have D7 := D5.same s57
      have G7 := hgood.keep (KeepO.of s57)
      have W7 := W5.keep (Keep.of s57)
      clear hgood6
      refine ⟨.ref p, rfl, ?_⟩
      -- the bends
      refine ⟨fun σ' H' => ∃ vb y8, σ' = [some (.ref a), some (.ref d), some (.int (0 + (i : Int))), some (.ref u), some (.int (many : Int)), some (.int deep), some (.ref p), some vb, y8, y9, none] ∧ Deck H' d c (1000000 * (i : Int) + 300000) ∧ Dd K (Off d c) H' (.ref p) (.tuple ds), ?_, ?_⟩
      · refine ⟨6, rfl, by decide, by decide, ?_⟩
        refine for_range (n := 6) (fun e σ H' => ∃ vb xb y8, σ = [some (.ref a), some (.ref d), some (.int (0 + (i : Int))), some (.ref u), some (.int (many : Int)), some (.int deep), some (.ref p), some vb, y8, y9, none] ∧ Deck H' d c (1000000 * (i : Int) + 250000 + 200 * (e : Int)) ∧ Dd K (Off d c) H' (.ref p) (.tuple ds) ∧ Dd K (Off d c) H' vb xb ∧ (e % 2 = 1 → ∃ z, Be (z :: S) 27 (10 ^ 39) 102242 17 xb) ∧ Wd H' d c u tl cl nl kl ts cs nms ks) ?_ ?_ ?_
        · exact ⟨.ref p, .tuple ds, y8, rfl, D7.mono (by omega), G7, G7, fun e => absurd e (by decide), W7⟩
        · rintro e σ H8 he ⟨vb, xb, y8, rfl, D8, G8, B8, hb8, W8⟩
          refine ⟨fun σ' H' => ∃ vb' xb', σ' = [some (.ref a), some (.ref d), some (.int (0 + (i : Int))), some (.ref u), some (.int (many : Int)), some (.int deep), some (.ref p), some vb', some (.int (0 + (e : Int))), y9, none] ∧ Deck H' d c (1000000 * (i : Int) + 250000 + 200 * (e : Int) + 150) ∧ Dd K (Off d c) H' (.ref p) (.tuple ds) ∧ Dd K (Off d c) H' vb' xb' ∧ (∃ z z2, Be (z2 :: z :: S) 81 (10 ^ 39) 204524 20 xb') ∧ ((e + 1) % 2 = 1 → ∃ z, Be (z :: S) 27 (10 ^ 39) 102242 17 xb') ∧ Wd H' d c u tl cl nl kl ts cs nms ks, ?_, ?_⟩
          · obtain ⟨z0, zr, hz0⟩ : ∃ z0 zr, nms = z0 :: zr := by
              cases e : nms with
              | nil =>
                have := W8.ln
                rw [e] at this
                cases this
              | cons a b => exact ⟨a, b, rfl⟩
            have hz0n := hns z0 (by rw [hz0]; exact List.mem_cons_self)
            have hz8 : z0.length ≤ 8 := by
              have h1 := hz0n.1.2.1
              rw [Array.length_toList] at h1
              exact h1
            have hn9 : Nn S 9 z0 := ⟨hz0n.2, by omega, nm_okC hz0n.1⟩
            refine ⟨.ref d, rfl, .ref p, rfl, vb, rfl, le2, fun l hfl => ⟨.int (0 + (e : Int)), rfl, 0 + (e : Int), 2, rfl, rfl, (show (0 : Int) < 2 by decide), ?_⟩⟩
            have sl := same_upd (o := .lst [.ref p, vb]) hfl
            have hl : upd H8 l (.lst [.ref p, vb]) l = some (.lst [.ref p, vb]) := upd_same
            revert sl hl
            generalize upd H8 l (.lst [.ref p, vb]) = H9
            intro sl hl
            have W9 := W8.keep (Keep.of sl)
            have D9 := D8.same sl
            have G9 := G8.keep (KeepO.of sl)
            have B9 := B8.keep (KeepO.of sl)
            have hdg : DGet H9 u (.str "names") (some (.ref nl)) := DGet.k (k := .inr "names") W9.dct
            have hnl : H9 nl = some (.lst ((z0 :: zr).map V.str)) := by rw [← hz0]; exact W9.hn
            by_cases par : e % 2 = 0
            · have ei : (0 + (e : Int)) % 2 = 0 := by omega
              have hsz := R.bd.sz
              refine ⟨l, [.ref p, vb], _, .ref p, rfl, by show V.int ((0 + (e : Int)) % 2) = V.int ((0 : Nat) : Int); rw [ei]; rfl, .inl (.inl hl), atI_nat (j := 0) rfl, .ref u, rfl, u, .ref nl, rfl, hdg, nl, _, 0, .str z0, rfl, rfl, .inl (.inl hnl), at0, d, c, _, .ref p, .tuple ds, z0, S, 9, 10 ^ 39, 14, rfl, D9, by omega, G9, Nat.lt_of_le_of_lt R.bd.dep (by decide), R.bd.toEl, by omega, R.cs, hn9, fun H' v' x' k' D' h' o' => ?_⟩
              obtain ⟨z, hz⟩ := o'
              have hz' : Be (z :: S) 27 (10 ^ 39) 102242 17 x' := hz.mono (by omega) (by omega)
              exact ⟨v', x', rfl, D'.mono (by omega), G9.keep (k'.off D9), h', ⟨z, "", hz'.wide (fun y hy => List.mem_cons_of_mem _ hy) (by decide) (Nat.le_refl _) (by decide) (by decide)⟩, fun _ => ⟨z, hz'⟩, W9.keep k'⟩
            · have ei : (0 + (e : Int)) % 2 = 1 := by omega
              obtain ⟨z, hz⟩ := hb8 (by omega)
              have hsz := hz.sz
              have hC2 : Cs (z :: S) 27 (10 ^ 39) := ⟨⟨fun w hw => List.mem_cons_of_mem _ (R.cs.base w hw), by decide, by decide, by decide⟩, fun w hw => List.mem_cons_of_mem _ (R.cs.more w hw), by decide, by decide, by decide⟩
              refine ⟨l, [.ref p, vb], _, vb, rfl, by show V.int ((0 + (e : Int)) % 2) = V.int ((1 : Nat) : Int); rw [ei]; rfl, .inl (.inl hl), atI_nat (j := 1) rfl, .ref u, rfl, u, .ref nl, rfl, hdg, nl, _, 0, .str z0, rfl, rfl, .inl (.inl hnl), at0, d, c, _, vb, xb, z0, z :: S, 27, 10 ^ 39, 17, rfl, D9, by omega, B9, Nat.lt_of_le_of_lt hz.dep (by decide), hz.toEl, by omega, hC2, ⟨List.mem_cons_of_mem _ hn9.mem, by omega, hn9.ok⟩, fun H' v' x' k' D' h' o' => ?_⟩
              obtain ⟨z2, hz2⟩ := o'
              exact ⟨v', x', rfl, D'.mono (by omega), G9.keep (k'.off D9), h', ⟨z, z2, hz2.mono (by omega) (by omega)⟩, fun e1 => absurd e1 (by omega), W9.keep k'⟩
          rintro σ2 H9 ⟨vb', xb', rfl, D9, G9, B9, ⟨z, z2, hb9⟩, hb9', W9⟩
          have lS := R.len
          have aq1 : Aq xb' := Aq.of hb9 (by rw [List.length_cons, List.length_cons]; omega) (by decide) (by decide) (by decide)
          have aq2 : Aq (.tuple [xb']) := Aq.of ((Bes.two hb9 .nil).tup) (by rw [List.length_cons, List.length_cons]; omega) (by decide) (by decide) (by decide)
          refine ⟨vb', rfl, vb', xb', _, rfl, B9, off_far, aq1, fun H10 s10 => ⟨_, rfl, iteF ⟨vb', rfl, small_le (Nat.le_of_ble_eq_true rfl), fun p1 n1 => ?_⟩⟩⟩
          have s11 := same_upd (o := .tup [vb']) n1
          refine ⟨.ref p1, .tuple [xb'], _, rfl, .tup (.inl (.inl upd_same)) (.cons (B9.keep (KeepO.of (s10.trans s11))) .nil), off_far, aq2, fun H12 s12 => ⟨_, rfl, iteF ?_⟩⟩
          have s9 := s10.trans (s11.trans s12)
          exact ⟨vb', xb', _, rfl, (D9.same s9).mono (by omega), G9.keep (KeepO.of s9), B9.keep (KeepO.of s9), hb9', W9.keep (Keep.of s9)⟩
        · rintro σ H8 ⟨vb, xb, y8, rfl, D8, G8, B8, hb8, W8⟩
          exact ⟨vb, y8, rfl, D8.mono (by omega), G8⟩
      rintro σ2 H8 ⟨vb, y8', rfl, D8, G8⟩
      have lS := R.len
      have hld : ds.length ≤ 7 := by omega
      refine ⟨fun σ' H' => ∃ L vs ys, σ' = [some (.ref a), some (.ref d), some (.int (0 + (i : Int))), some (.ref u), some (.int (many : Int)), some (.int deep), some (.ref p), some vb, y8', some (.ref L), none] ∧ Deck H' d c (1000000 * (i : Int) + 300010) ∧ Dd K (fun b => Off d c b ∧ b ≠ L) H' (.ref p) (.tuple ds) ∧ H' L = some (.lst vs) ∧ DdAll K (fun b => Off d c b ∧ b ≠ L) H' vs ys ∧ L ≠ d ∧ L ≠ c ∧ vs.length = 4 ∧ ∀ y, y ∈ ys → Aq y, ?_, ?_⟩
      · obtain ⟨a8, us8, e8, hs8, ha8⟩ := L9.Dd.tup_inv G8
        cases e8
        have lu8 := ha8.len
        have big : 1000 ≤ sizeLine := small_le (by decide)
        refine ⟨.ref p, rfl, p, us8, rfl, hs8, fun p1 n1 => ?_⟩
        have s1' := same_upd (o := .tup us8.reverse) n1
        refine ⟨.ref p, rfl, .ref p, rfl, cat_any ((KeepT.of s1').seqt hs8) ((KeepT.of s1').seqt hs8) (by omega) fun Ha p2 sa h2 => ?_⟩
        have s1a := s1'.trans sa
        refine ⟨.ref p, rfl, p, us8, rfl, (KeepT.of s1a).seqt hs8, fun l3 n3 far3 => ?_⟩
        have s3 := same_upd (o := .lst us8) n3
        have s1b := s1a.trans s3
        have Db := D8.same s1b
        have hl3 := (D8.same s1a).new n3
        have r1 : Dd K (Off d c) (upd Ha l3 (.lst us8)) (.ref p1) (.tuple ds.reverse) := (Dd.tup (.inl (.inl upd_same)) ((dd_rev ha8).keep (KeepO.of s1'))).keep (KeepO.of (sa.trans s3))
        have r2 : Dd K (Off d c) (upd Ha l3 (.lst us8)) (.ref p2) (.tuple (ds ++ ds)) := (Dd.tup h2 ((ha8.app ha8).keep (KeepO.of s1a))).keep (KeepO.of s3)
        have r3 : Dd K (Off d c) (upd Ha l3 (.lst us8)) (.ref l3) (.list ds) := .lst upd_same ⟨hl3.1, hl3.2, far3⟩ (ha8.keep (KeepO.of s1b))
        have G8b := G8.keep (KeepO.of s1b)
        revert Db r1 r2 r3 G8b s1b
        generalize upd Ha l3 (.lst us8) = Hb
        intro s1b Db r1 r2 r3 G8b
        have na : Nn S 9 "a" := ⟨R.cs.base _ (by decide), by decide, by decide⟩
        refine ⟨.ref d, rfl, .ref p, rfl, d, c, _, .ref p, .tuple ds, "a", S, 9, 10 ^ 39, 51101, 14, rfl, Db, by omega, G8b, R.bd, R.cs, na, by decide, fun Hc vo xo kc Dc hdo ⟨zo, hoo⟩ => ⟨small_le (Nat.le_of_ble_eq_true rfl), fun L nL => ?_⟩⟩
        have sL := same_upd (o := .lst [.ref p1, .ref p2, .ref l3, vo]) nL
        have hLn := Dc.new nL
        have B0 := R.bd.inv
        refine ⟨L, _, [.tuple ds.reverse, .tuple (ds ++ ds), .list ds, xo], rfl, (Dc.same sL).mono (by omega), ((G8b.keep (kc.off Db)).off nL).keep (KeepO.of sL), upd_same, ((DdAll.cons (r1.keep (kc.off Db)) (.cons (r2.keep (kc.off Db)) (.cons (r3.keep (kc.off Db)) (.cons hdo .nil)))).off nL).keep (KeepO.of sL), hLn.1, hLn.2, rfl, fun y hy => ?_⟩
        simp only [List.mem_cons, List.not_mem_nil, or_false] at hy
        rcases hy with rfl | rfl | rfl | rfl
        · exact Aq.of (B0.rev).tup (by omega) (by decide) (by decide) (by decide)
        · exact Aq.of (B0.app B0).tup (by omega) (by decide) (by decide) (by decide)
        · exact Aq.of (B0.lst) (by omega) (by decide) (by decide) (by decide)
        · exact Aq.of hoo (by rw [List.length_cons]; omega) (by decide) (by decide) (by decide)
      rintro σ3 H9 ⟨L, vs, ys, rfl, D9, G9, hL9, d9, hLd, hLc, l4, aq9⟩
      refine ⟨fun σ' H' => ∃ vs ys, σ' = [some (.ref a), some (.ref d), some (.int (0 + (i : Int))), some (.ref u), some (.int (many : Int)), some (.int deep), some (.ref p), some vb, y8', some (.ref L), none] ∧ Deck H' d c (1000000 * (i : Int) + 300010) ∧ H' L = some (.lst vs) ∧ DdAll K (fun b => Off d c b ∧ b ≠ L) H' vs ys ∧ ∀ y, y ∈ ys → Aq y, ?_, ?_⟩
      · have G : Gv K (fun b => Off d c b ∧ b ≠ L) H9 [some (.ref a), some (.ref d), some (.int (0 + (i : Int))), some (.ref u), some (.int (many : Int)), some (.int deep), some (.ref p), some vb, y8', some (.ref L), none] _ (.tuple (ds ++ [.tuple [.str "tell", kD]])) :=
          gv_cat (gv_var (i := 6) rfl G9) (gv_tup (ga_cons (gv_tup (ga_cons (gv_s "tell") (ga_cons (gv_tup (ga_cons (gv_s "key") ga_nil)) ga_nil))) ga_nil)) (by rw [List.length_singleton]; omega)
        refine ⟨.ref L, rfl, .inl ⟨rfl, _, .inl (.inl hL9)⟩, G H9 _ (fun _ _ e => e) fun H10 v10 s10 hv10 => ?_⟩
        have h10 := s10 _ _ hL9
        have kt : KeepT H10 (upd H10 L (.lst (vs ++ [v10]))) := KeepT.lst h10
        have ko : KeepO (fun b => Off d c b ∧ b ≠ L) H10 (upd H10 L (.lst (vs ++ [v10]))) := ⟨kt.1, kt.2, fun b o hb e => by rw [upd_ne hb.2]; exact e⟩
        refine ⟨L, vs, v10, rfl, rfl, h10, small1000 (by omega), vs ++ [v10], ys ++ [.tuple (ds ++ [.tuple [.str "tell", kD]])], rfl, (D9.same s10).upd hLd hLc, upd_same, ((d9.keep (KeepO.of s10)).app (.cons hv10 .nil)).keep ko, fun y hy => ?_⟩
        rcases List.mem_append.mp hy with hy | hy
        · exact aq9 y hy
        · rw [List.mem_singleton.mp hy]
          have B0 := R.bd.inv
          have bk : Be S 9 (10 ^ 39) 20 13 (.tuple [.str "tell", kD]) := by
            have h1 : Be S 9 (10 ^ 39) 1 0 (.str "key") := (R.cs.toBs.w (w := "key") (by decide) 0).be
            have h2 : Be S 9 (10 ^ 39) 1 1 (.str "tell") := (R.cs.toBs.w (w := "tell") (by decide) 1).be
            exact ((Bes.two h2 (Bes.two ((Bes.two h1 .nil).tup) .nil)).tup).mono (by decide) (by decide)
          exact Aq.of (B0.app (Bes.two bk .nil)).tup (by omega) (by decide) (by decide) (by decide)
      rintro σ4 H10 ⟨vs', ys', rfl, D10, hL10, d10, aq10⟩
      refine ⟨.ref L, rfl, L, rfl, ⟨_, .inl (.inl hL10)⟩, fun B nB => ?_⟩
      refine walk_body (xs := vs') (fun _ H' => H' B = some (.lst []) ∧ Same H10 H') ?_ ?_ ?_ ?_
      · exact ⟨upd_same, same_upd nB⟩
      · rintro e H' _ ⟨_, kk⟩
        exact .inl (.inl (kk _ _ hL10))
      · rintro e y H' hy ⟨hB, kk⟩
        obtain ⟨x, hx, hyx⟩ := dd_at (d10.keep (KeepO.of kk)) hy
        exact ⟨rfl, y, rfl, y, x, _, rfl, hyx, fun b hb => hb.1.2.2, aq10 x (List.mem_of_getElem? hx), fun H'' s'' => ⟨_, rfl, iteF ⟨s'' _ _ hB, kk.trans s''⟩⟩⟩
      · rintro H' ⟨hB, kk⟩
        refine ⟨Nat.zero_le _, fun e0 ne0 => ?_⟩
        have se := same_upd (o := .lst []) ne0
        exact ⟨B, e0, [], rfl, rfl, .inl (.inl (se _ _ hB)), .inl (.inl upd_same), _, rfl, iteF ⟨_, _, _, _, _, _, _, _, rfl, (D10.same (kk.trans se)).mono (by omega)⟩⟩
    · rintro σ H2 ⟨y2, y3, y4, y5, y6, y7, y8, y9, rfl, D2⟩
      exact ⟨_, _, _, _, _, _, _, _, rfl⟩
  rintro σ1 H2 ⟨y2, y3, y4, y5, y6, y7, y8, y9, rfl⟩
  exact q _
end
end L9

namespace L9
open PySem PySem.Spec PyProof.Rows L2 GR WX AD RZ ZE TX RVT
/-- a def of that name stands in the text's top under x -/
def HasA (K : PySem.W.Frag) (x y : Str) (st : Stmt) : Prop := ∃ (f : Addr) (fd : FuncData), PySem.W.nsIn K mainGlobals x = some (some (.ref f)) ∧ Fun K y y st f fd
theorem has_mk {K : PySem.W.Frag} {x y : Str} {st : Stmt} {f : Addr} {oc : Value} {od an : Option Addr} {osl : Array (Option Value)} {kV doc pm cdv ct : Value} (a : PySem.W.nsIn K mainGlobals x = some (some (.ref f)))
    (l : K.lookup f = some ⟨oc, od, .func (PySem.W.fnOf y y (defArgs st) (defBody st) (defScope st) .none kV doc pm an cdv ct), osl⟩) (c : PySem.W.codeIn K cdv y = true) (k : PySem.W.keepIn K (.ref f) = true) : HasA K x y st := ⟨f, _, a, fun_mk l c k⟩
theorem FnG.mono {P : Program} {w : World} {K : PySem.W.Frag} {mg : Str → Option Value} {base : Heap} {CX : CXT} {j k : Nat} {f : Addr} {fd : FuncData} {ps : List Str} {sp : Sp} (F : FnG P w K mg base CX j f fd ps sp) (h : j ≤ k) : FnG P w K mg base CX k f fd ps sp :=
  ⟨F.size, fun A outer s H args us vs Q E hg hr => F.go A outer s H args us vs Q E hg (hr.mono h)⟩
theorem ktx_mk {K : PySem.W.Frag} {p : Addr} {fs : List Str} {d : Option Addr} {its : Array Value} {n : Nat} {sl : Array (Option Value)} (l : K.lookup p = some ⟨.type "tuple", d, .seq its n, sl⟩) (hv : Vals (fs.map V.str) its.toList) (hs : fs.length ≤ 100) : KTx K p fs := fun H =>
  .inr ⟨_, its, n, l, rfl, rfl, by have h1 := hv.length; rw [List.length_map] at h1; have h2 : its.toList.length = its.size := Array.length_toList ..; exact small_le (by omega), hv⟩
theorem tab_no {w : World} {es : Array DictEntry} (kl : PySem.W.KeysLit w.params es.toList) (hk : (es.toList.all fun e => table.any fun p => Value.isStrOf p.1 e.key) = true) (wd : Str) (h : look wd = none) : findBy Value.isStrOf es wd = none := by
  have q : (es.find? fun e => Value.isStrOf wd e.key) = none := by
    rw [Array.find?_eq_none]
    intro e he hq
    have he' := Array.mem_toList_iff.mpr he
    obtain ⟨x, t, e1, _⟩ := kl.all e he'
    have h1 := List.all_eq_true.mp hk e he'
    rw [List.any_eq_true] at h1
    obtain ⟨p, hp, h2⟩ := h1
    rw [e1] at hq h2
    have e3 : x = wd := eq_of_beq (show (x == wd) = true from hq)
    have e4 : x = p.1 := eq_of_beq (show (x == p.1) = true from h2)
    unfold look at h
    rw [Option.map_eq_none_iff, List.find?_eq_none] at h
    exact h p hp (decide_eq_true (e4.symm.trans e3))
  show (es.find? fun e => Value.isStrOf wd e.key).map (·.val) = none
  rw [q]
  rfl
theorem flds_mk {K : PySem.W.Frag} {w : World} {fA : Addr} {es : Array DictEntry} {n : Nat} (l : K.lookup fA = some ⟨.type "dict", none, .dict es n, #[]⟩) (kl : PySem.W.KeysLit w.params es.toList) (hk : (es.toList.all fun e => table.any fun p => Value.isStrOf p.1 e.key) = true) (low : (fA == sysModules) = false)
    {p0 : Addr} (q0 : PySem.W.nsIn K fA "int" = some (some (.ref p0))) (r0 : KTx K p0 ["value"])
    {p1 : Addr} (q1 : PySem.W.nsIn K fA "var" = some (some (.ref p1))) (r1 : KTx K p1 ["name"])
    {p2 : Addr} (q2 : PySem.W.nsIn K fA "key" = some (some (.ref p2))) (r2 : KTx K p2 [])
    {p3 : Addr} (q3 : PySem.W.nsIn K fA "let" = some (some (.ref p3))) (r3 : KTx K p3 ["position"])
    {p4 : Addr} (q4 : PySem.W.nsIn K fA "cell" = some (some (.ref p4))) (r4 : KTx K p4 ["name", "free", "name"])
    {p5 : Addr} (q5 : PySem.W.nsIn K fA "+" = some (some (.ref p5))) (r5 : KTx K p5 ["free", "free"])
    {p6 : Addr} (q6 : PySem.W.nsIn K fA "-" = some (some (.ref p6))) (r6 : KTx K p6 ["free", "free"])
    {p7 : Addr} (q7 : PySem.W.nsIn K fA "*" = some (some (.ref p7))) (r7 : KTx K p7 ["free", "free"])
    {p8 : Addr} (q8 : PySem.W.nsIn K fA "<" = some (some (.ref p8))) (r8 : KTx K p8 ["free", "free"])
    {p9 : Addr} (q9 : PySem.W.nsIn K fA "=" = some (some (.ref p9))) (r9 : KTx K p9 ["free", "free"])
    {p10 : Addr} (q10 : PySem.W.nsIn K fA "if" = some (some (.ref p10))) (r10 : KTx K p10 ["free", "free", "free"])
    {p11 : Addr} (q11 : PySem.W.nsIn K fA "at" = some (some (.ref p11))) (r11 : KTx K p11 ["free", "bound"])
    {p12 : Addr} (q12 : PySem.W.nsIn K fA "count" = some (some (.ref p12))) (r12 : KTx K p12 ["name", "extra", "bound", "bound"])
    {p13 : Addr} (q13 : PySem.W.nsIn K fA "sum" = some (some (.ref p13))) (r13 : KTx K p13 ["name", "extra", "bound", "bound", "bound"])
    {p14 : Addr} (q14 : PySem.W.nsIn K fA "most" = some (some (.ref p14))) (r14 : KTx K p14 ["name", "extra", "bound", "bound", "bound", "free"])
    {p15 : Addr} (q15 : PySem.W.nsIn K fA "first" = some (some (.ref p15))) (r15 : KTx K p15 ["name", "extra", "bound", "bound", "free"])
    : Tab K w fA es n ∧ Flds K w fA := by
  have ex : ∀ wd fs, (wd, fs) ∈ table → ∃ p, PySem.W.nsIn K fA wd = some (some (.ref p)) ∧ KTx K p fs := by
    intro wd fs h
    simp only [table, List.mem_cons, List.not_mem_nil, or_false, Prod.mk.injEq] at h
    rcases h with ⟨rfl, rfl⟩ | ⟨rfl, rfl⟩ | ⟨rfl, rfl⟩ | ⟨rfl, rfl⟩ | ⟨rfl, rfl⟩ | ⟨rfl, rfl⟩ | ⟨rfl, rfl⟩ | ⟨rfl, rfl⟩ | ⟨rfl, rfl⟩ | ⟨rfl, rfl⟩ | ⟨rfl, rfl⟩ | ⟨rfl, rfl⟩ | ⟨rfl, rfl⟩ | ⟨rfl, rfl⟩ | ⟨rfl, rfl⟩ | ⟨rfl, rfl⟩
    · exact ⟨p0, q0, r0⟩
    · exact ⟨p1, q1, r1⟩
    · exact ⟨p2, q2, r2⟩
    · exact ⟨p3, q3, r3⟩
    · exact ⟨p4, q4, r4⟩
    · exact ⟨p5, q5, r5⟩
    · exact ⟨p6, q6, r6⟩
    · exact ⟨p7, q7, r7⟩
    · exact ⟨p8, q8, r8⟩
    · exact ⟨p9, q9, r9⟩
    · exact ⟨p10, q10, r10⟩
    · exact ⟨p11, q11, r11⟩
    · exact ⟨p12, q12, r12⟩
    · exact ⟨p13, q13, r13⟩
    · exact ⟨p14, q14, r14⟩
    · exact ⟨p15, q15, r15⟩
  refine ⟨⟨l, kl, low, fun wd fs h => ?_, tab_no kl hk⟩, fun wd fs h => ?_⟩
  · obtain ⟨p, h1, h2⟩ := ex wd fs h
    exact ⟨p, PySem.W.find_K l h1, h2⟩
  · obtain ⟨p, h1, h2⟩ := ex wd fs h
    exact ⟨p, ⟨es, n, _, l, kl, h1, rfl⟩, h2⟩
theorem tabS_no {w : World} {es : Array DictEntry} (kl : PySem.W.KeysLit w.params es.toList) (hk : (es.toList.all fun e => tableS.any fun p => Value.isStrOf p.1 e.key) = true) (wd : Str) (h : lookS wd = none) : findBy Value.isStrOf es wd = none := by
  have q : (es.find? fun e => Value.isStrOf wd e.key) = none := by
    rw [Array.find?_eq_none]
    intro e he hq
    have he' := Array.mem_toList_iff.mpr he
    obtain ⟨x, t, e1, _⟩ := kl.all e he'
    have h1 := List.all_eq_true.mp hk e he'
    rw [List.any_eq_true] at h1
    obtain ⟨p, hp, h2⟩ := h1
    rw [e1] at hq h2
    have e3 : x = wd := eq_of_beq (show (x == wd) = true from hq)
    have e4 : x = p.1 := eq_of_beq (show (x == p.1) = true from h2)
    unfold lookS at h
    rw [Option.map_eq_none_iff, List.find?_eq_none] at h
    exact h p hp (decide_eq_true (e4.symm.trans e3))
  show (es.find? fun e => Value.isStrOf wd e.key).map (·.val) = none
  rw [q]
  rfl
theorem fldsS_mk {K : PySem.W.Frag} {w : World} {fA : Addr} {es : Array DictEntry} {n : Nat} (l : K.lookup fA = some ⟨.type "dict", none, .dict es n, #[]⟩) (kl : PySem.W.KeysLit w.params es.toList) (hk : (es.toList.all fun e => tableS.any fun p => Value.isStrOf p.1 e.key) = true) (low : (fA == sysModules) = false)
    {p0 : Addr} (q0 : PySem.W.nsIn K fA "let" = some (some (.ref p0))) (r0 : KTx K p0 ["name", "keyless"])
    {p1 : Addr} (q1 : PySem.W.nsIn K fA "need" = some (some (.ref p1))) (r1 : KTx K p1 ["keyless"])
    {p2 : Addr} (q2 : PySem.W.nsIn K fA "put" = some (some (.ref p2))) (r2 : KTx K p2 ["name", "keyless", "name", "keyless"])
    {p3 : Addr} (q3 : PySem.W.nsIn K fA "each" = some (some (.ref p3))) (r3 : KTx K p3 ["name", "row", "name", "row"])
    {p4 : Addr} (q4 : PySem.W.nsIn K fA "tell" = some (some (.ref p4))) (r4 : KTx K p4 ["keyless"])
    : TabS K w fA es n ∧ FldsS K w fA := by
  have ex : ∀ wd fs, (wd, fs) ∈ tableS → ∃ p, PySem.W.nsIn K fA wd = some (some (.ref p)) ∧ KTx K p fs := by
    intro wd fs h
    simp only [tableS, List.mem_cons, List.not_mem_nil, or_false, Prod.mk.injEq] at h
    rcases h with ⟨rfl, rfl⟩ | ⟨rfl, rfl⟩ | ⟨rfl, rfl⟩ | ⟨rfl, rfl⟩ | ⟨rfl, rfl⟩
    · exact ⟨p0, q0, r0⟩
    · exact ⟨p1, q1, r1⟩
    · exact ⟨p2, q2, r2⟩
    · exact ⟨p3, q3, r3⟩
    · exact ⟨p4, q4, r4⟩
  refine ⟨⟨l, kl, low, fun wd fs h => ?_, tabS_no kl hk⟩, fun wd fs h => ?_⟩
  · obtain ⟨p, h1, h2⟩ := ex wd fs h
    exact ⟨p, PySem.W.find_K l h1, h2⟩
  · obtain ⟨p, h1, h2⟩ := ex wd fs h
    exact ⟨p, ⟨es, n, _, l, kl, h1, rfl⟩, h2⟩
theorem all_mk {P : Program} {w : World} {K : PySem.W.Frag} {h : Heap} {mg : Str → Option Value} {fa : Addr} (X : K.In h) (G : h.Ns mainGlobals mg) (hfa : mg "law" = some (.ref fa))
    (X_is_integer : HasA K "is_integer" "is_integer" s_is_integer)
    (X_is_value : HasA K "is_value" "is_value" s_is_value)
    (X_is_name : HasA K "is_name" "is_name" s_is_name)
    (X_word_of : HasA K "word_of" "word_of" s_word_of)
    (X_is_expression : HasA K "is_expression" "is_expression" s_is_expression)
    (X_has_form : HasA K "has_form" "has_form" s_has_form)
    (X_fits_expressions : HasA K "fits_expressions" "fits" s_fits)
    (X_contained : HasA K "contained" "contained" s_contained)
    (X_contained_free : HasA K "contained_free" "contained_free" s_contained_free)
    (X_contained_of : HasA K "contained_of" "contained_of" s_contained_of)
    (X_one_deeper : HasA K "one_deeper" "one_deeper" s_one_deeper)
    (X_all_parts : HasA K "all_parts" "all_parts" s_all_parts)
    (X_rows_of : HasA K "rows_of" "rows_of" s_rows_of)
    (X_is_plain : HasA K "is_plain" "is_plain" s_is_plain)
    (X_is_plain_part : HasA K "is_plain_part" "is_plain_part" s_is_plain_part)
    (X_has_free_key : HasA K "has_free_key" "has_free_key" s_has_free_key)
    (X_is_simple : HasA K "is_simple" "is_simple" s_is_simple)
    (X_variables_of : HasA K "variables_of" "variables_of" s_variables_of)
    (X_is_transaction : HasA K "is_transaction" "is_transaction" s_is_transaction)
    (X_is_statement : HasA K "is_statement" "is_statement" s_is_statement)
    (X_fits_statements : HasA K "fits_statements" "fits" s_fits2)
    (X_may_follow : HasA K "may_follow" "may_follow" s_may_follow)
    (X_names_let : HasA K "names_let" "names_let" s_names_let)
    (X_names_used : HasA K "names_used" "names_used" s_names_used)
    (X_expressions_in : HasA K "expressions_in" "expressions_in" s_expressions_in)
    (X_law_deck : HasA K "_law_deck" "_law_deck" s_law_deck)
    (X_law_draw : HasA K "_law_draw" "_law_draw" s_law_draw)
    (X_law_pick : HasA K "_law_pick" "_law_pick" s_law_pick)
    (X_law_names : HasA K "_law_names" "_law_names" s_law_names)
    (X_law_world : HasA K "_law_world" "_law_world" s_law_world)
    (X_law_integer : HasA K "_law_integer" "_law_integer" s_law_integer)
    (X_law_cell : HasA K "_law_cell" "_law_cell" s_law_cell)
    (X_law_leaf : HasA K "_law_leaf" "_law_leaf" s_law_leaf)
    (X_law_aggregate : HasA K "_law_aggregate" "_law_aggregate" s_law_aggregate)
    (X_law_expression : HasA K "_law_expression" "_law_expression" s_law_expression)
    (X_law_statement : HasA K "_law_statement" "_law_statement" s_law_statement)
    (X_law_transaction : HasA K "_law_transaction" "_law_transaction" s_law_transaction)
    (X_law_is_name : HasA K "_law_is_name" "_law_is_name" s_law_is_name)
    (X_law_is_value : HasA K "_law_is_value" "_law_is_value" s_law_is_value)
    (X_law_inner : HasA K "_law_inner" "_law_inner" s_law_inner)
    (X_law_looked : HasA K "_law_looked" "_law_looked" s_law_looked)
    (X_law_fits : HasA K "_law_fits" "_law_fits" s_law_fits)
    (X_law_is_statement : HasA K "_law_is_statement" "_law_is_statement" s_law_is_statement)
    (X_law_is_transaction : HasA K "_law_is_transaction" "_law_is_transaction" s_law_is_transaction)
    (X_law_odd : HasA K "_law_odd" "_law_odd" s_law_odd)
    (X_law_bent : HasA K "_law_bent" "_law_bent" s_law_bent)
    (X_law_right : HasA K "_law_right" "_law_right" s_law_right)
    (X_law : HasA K "law" "law" s_law)
    (z_list : PySem.W.nsIn K mainGlobals "list" = some none) (z_sum : PySem.W.nsIn K mainGlobals "sum" = some none) (z_len : PySem.W.nsIn K mainGlobals "len" = some none) (z_range : PySem.W.nsIn K mainGlobals "range" = some none) (z_int : PySem.W.nsIn K mainGlobals "int" = some none) (z_bool : PySem.W.nsIn K mainGlobals "bool" = some none) (z_repr : PySem.W.nsIn K mainGlobals "repr" = some none) (z_tuple : PySem.W.nsIn K mainGlobals "tuple" = some none) (z_str : PySem.W.nsIn K mainGlobals "str" = some none) (z_isinstance : PySem.W.nsIn K mainGlobals "isinstance" = some none) (z_all : PySem.W.nsIn K mainGlobals "all" = some none) (z_any : PySem.W.nsIn K mainGlobals "any" = some none) (z_zip : PySem.W.nsIn K mainGlobals "zip" = some none) (z_sorted : PySem.W.nsIn K mainGlobals "sorted" = some none) (z_min : PySem.W.nsIn K mainGlobals "min" = some none) (z_max : PySem.W.nsIn K mainGlobals "max" = some none)
    {tk_LIMIT : Tok} (c_LIMIT : PySem.W.nsIn K mainGlobals "LIMIT" = some (some (.int LIM tk_LIMIT))) {tk_LONGEST_NAME : Tok} (c_LONGEST_NAME : PySem.W.nsIn K mainGlobals "LONGEST_NAME" = some (some (.int 8 tk_LONGEST_NAME)))
    {fA : Addr} {es : Array DictEntry} {nF : Nat} (z_FIELDS : PySem.W.nsIn K mainGlobals "FIELDS_expressions" = some (some (.ref fA))) (T_FIELDS : Tab K w fA es nF ∧ Flds K w fA)
    {fB : Addr} {es2 : Array DictEntry} {nF2 : Nat} (z_FIELDS2 : PySem.W.nsIn K mainGlobals "FIELDS_statements" = some (some (.ref fB))) (T_FIELDS2 : TabS K w fB es2 nF2 ∧ FldsS K w fB)
    {aA : Addr} (z_ALL : PySem.W.nsIn K mainGlobals "ALL_PARTS" = some (some (.ref aA))) (T_ALL : KTx K aA W2) {aW : Addr} (z_WORDS : PySem.W.nsIn K mainGlobals "WORDS" = some (some (.ref aW))) (T_WORDS : KTx K aW BARW) {aG : Addr} (z_AGG : PySem.W.nsIn K mainGlobals "AGGREGATES" = some (some (.ref aG))) (T_AGG : KTx K aG aggW) {tk_LET : Tok} (z_LETTERS : PySem.W.nsIn K mainGlobals "LETTERS" = some (some (.str L26 tk_LET)))
    : ∃ fd : FuncData, (∀ (s : Shared) (v : Value), BindsTo s fd ⟨[v], []⟩ [("_law_script", v)]) ∧ ∀ base : Heap, K.In base → base.Ns mainGlobals mg → FnG P w K mg base CX0 47 fa fd ["_law_script"] (sp_law K) := by
  obtain ⟨fis_integer, dis_integer, ais_integer, Fis_integer⟩ := X_is_integer
  have gis_integer := PySem.W.mg_of X G ais_integer
  have bis_integer : Binds K dis_integer ["thing"] [] := Fis_integer.binds (ps := ["thing"]) fun _ _ _ _ _ _ us hl => match us, hl with | [_], _ => rfl
  obtain ⟨fis_value, dis_value, ais_value, Fis_value⟩ := X_is_value
  have gis_value := PySem.W.mg_of X G ais_value
  have bis_value : Binds K dis_value ["thing"] [] := Fis_value.binds (ps := ["thing"]) fun _ _ _ _ _ _ us hl => match us, hl with | [_], _ => rfl
  obtain ⟨fis_name, dis_name, ais_name, Fis_name⟩ := X_is_name
  have gis_name := PySem.W.mg_of X G ais_name
  have bis_name : Binds K dis_name ["thing"] [] := Fis_name.binds (ps := ["thing"]) fun _ _ _ _ _ _ us hl => match us, hl with | [_], _ => rfl
  obtain ⟨fword_of, dword_of, aword_of, Fword_of⟩ := X_word_of
  have gword_of := PySem.W.mg_of X G aword_of
  have bword_of : Binds K dword_of ["thing"] [] := Fword_of.binds (ps := ["thing"]) fun _ _ _ _ _ _ us hl => match us, hl with | [_], _ => rfl
  obtain ⟨fis_expression, dis_expression, ais_expression, Fis_expression⟩ := X_is_expression
  have gis_expression := PySem.W.mg_of X G ais_expression
  have bis_expression : Binds K dis_expression ["thing"] [] := Fis_expression.binds (ps := ["thing"]) fun _ _ _ _ _ _ us hl => match us, hl with | [_], _ => rfl
  obtain ⟨fhas_form, dhas_form, ahas_form, Fhas_form⟩ := X_has_form
  have ghas_form := PySem.W.mg_of X G ahas_form
  have bhas_form : Binds K dhas_form ["thing"] [] := Fhas_form.binds (ps := ["thing"]) fun _ _ _ _ _ _ us hl => match us, hl with | [_], _ => rfl
  obtain ⟨ffits_expressions, dfits_expressions, afits_expressions, Ffits_expressions⟩ := X_fits_expressions
  have gfits_expressions := PySem.W.mg_of X G afits_expressions
  have bfits_expressions : Binds K dfits_expressions ["kind", "part"] [] := Ffits_expressions.binds (ps := ["kind", "part"]) fun _ _ _ _ _ _ us hl => match us, hl with | [_, _], _ => rfl
  obtain ⟨fcontained, dcontained, acontained, Fcontained⟩ := X_contained
  have gcontained := PySem.W.mg_of X G acontained
  have bcontained : Binds K dcontained ["expression"] [] := Fcontained.binds (ps := ["expression"]) fun _ _ _ _ _ _ us hl => match us, hl with | [_], _ => rfl
  obtain ⟨fcontained_free, dcontained_free, acontained_free, Fcontained_free⟩ := X_contained_free
  have gcontained_free := PySem.W.mg_of X G acontained_free
  have bcontained_free : Binds K dcontained_free ["expression"] [] := Fcontained_free.binds (ps := ["expression"]) fun _ _ _ _ _ _ us hl => match us, hl with | [_], _ => rfl
  obtain ⟨fcontained_of, dcontained_of, acontained_of, Fcontained_of⟩ := X_contained_of
  have gcontained_of := PySem.W.mg_of X G acontained_of
  have bcontained_of : Binds K dcontained_of ["expression", "wanted"] [] := Fcontained_of.binds (ps := ["expression", "wanted"]) fun _ _ _ _ _ _ us hl => match us, hl with | [_, _], _ => rfl
  obtain ⟨fone_deeper, done_deeper, aone_deeper, Fone_deeper⟩ := X_one_deeper
  have gone_deeper := PySem.W.mg_of X G aone_deeper
  have bone_deeper : Binds K done_deeper ["expressions"] [] := Fone_deeper.binds (ps := ["expressions"]) fun _ _ _ _ _ _ us hl => match us, hl with | [_], _ => rfl
  obtain ⟨fall_parts, dall_parts, aall_parts, Fall_parts⟩ := X_all_parts
  have gall_parts := PySem.W.mg_of X G aall_parts
  have ball_parts : Binds K dall_parts ["expression"] [] := Fall_parts.binds (ps := ["expression"]) fun _ _ _ _ _ _ us hl => match us, hl with | [_], _ => rfl
  obtain ⟨frows_of, drows_of, arows_of, Frows_of⟩ := X_rows_of
  have grows_of := PySem.W.mg_of X G arows_of
  have brows_of : Binds K drows_of ["table"] [] := Frows_of.binds (ps := ["table"]) fun _ _ _ _ _ _ us hl => match us, hl with | [_], _ => rfl
  obtain ⟨fis_plain, dis_plain, ais_plain, Fis_plain⟩ := X_is_plain
  have gis_plain := PySem.W.mg_of X G ais_plain
  have bis_plain : Binds K dis_plain ["expression"] [] := Fis_plain.binds (ps := ["expression"]) fun _ _ _ _ _ _ us hl => match us, hl with | [_], _ => rfl
  obtain ⟨fis_plain_part, dis_plain_part, ais_plain_part, Fis_plain_part⟩ := X_is_plain_part
  have gis_plain_part := PySem.W.mg_of X G ais_plain_part
  have bis_plain_part : Binds K dis_plain_part ["part"] [] := Fis_plain_part.binds (ps := ["part"]) fun _ _ _ _ _ _ us hl => match us, hl with | [_], _ => rfl
  obtain ⟨fhas_free_key, dhas_free_key, ahas_free_key, Fhas_free_key⟩ := X_has_free_key
  have ghas_free_key := PySem.W.mg_of X G ahas_free_key
  have bhas_free_key : Binds K dhas_free_key ["expression"] [] := Fhas_free_key.binds (ps := ["expression"]) fun _ _ _ _ _ _ us hl => match us, hl with | [_], _ => rfl
  obtain ⟨fis_simple, dis_simple, ais_simple, Fis_simple⟩ := X_is_simple
  have gis_simple := PySem.W.mg_of X G ais_simple
  have bis_simple : Binds K dis_simple ["expression"] [] := Fis_simple.binds (ps := ["expression"]) fun _ _ _ _ _ _ us hl => match us, hl with | [_], _ => rfl
  obtain ⟨fvariables_of, dvariables_of, avariables_of, Fvariables_of⟩ := X_variables_of
  have gvariables_of := PySem.W.mg_of X G avariables_of
  have bvariables_of : Binds K dvariables_of ["expression"] [] := Fvariables_of.binds (ps := ["expression"]) fun _ _ _ _ _ _ us hl => match us, hl with | [_], _ => rfl
  obtain ⟨fis_transaction, dis_transaction, ais_transaction, Fis_transaction⟩ := X_is_transaction
  have gis_transaction := PySem.W.mg_of X G ais_transaction
  have bis_transaction : Binds K dis_transaction ["thing"] [] := Fis_transaction.binds (ps := ["thing"]) fun _ _ _ _ _ _ us hl => match us, hl with | [_], _ => rfl
  obtain ⟨fis_statement, dis_statement, ais_statement, Fis_statement⟩ := X_is_statement
  have gis_statement := PySem.W.mg_of X G ais_statement
  have bis_statement : Binds K dis_statement ["thing"] [] := Fis_statement.binds (ps := ["thing"]) fun _ _ _ _ _ _ us hl => match us, hl with | [_], _ => rfl
  obtain ⟨ffits_statements, dfits_statements, afits_statements, Ffits_statements⟩ := X_fits_statements
  have gfits_statements := PySem.W.mg_of X G afits_statements
  have bfits_statements : Binds K dfits_statements ["kind", "part"] [] := Ffits_statements.binds (ps := ["kind", "part"]) fun _ _ _ _ _ _ us hl => match us, hl with | [_, _], _ => rfl
  obtain ⟨fmay_follow, dmay_follow, amay_follow, Fmay_follow⟩ := X_may_follow
  have gmay_follow := PySem.W.mg_of X G amay_follow
  have bmay_follow : Binds K dmay_follow ["statement", "known"] [] := Fmay_follow.binds (ps := ["statement", "known"]) fun _ _ _ _ _ _ us hl => match us, hl with | [_, _], _ => rfl
  obtain ⟨fnames_let, dnames_let, anames_let, Fnames_let⟩ := X_names_let
  have gnames_let := PySem.W.mg_of X G anames_let
  have bnames_let : Binds K dnames_let ["statement"] [] := Fnames_let.binds (ps := ["statement"]) fun _ _ _ _ _ _ us hl => match us, hl with | [_], _ => rfl
  obtain ⟨fnames_used, dnames_used, anames_used, Fnames_used⟩ := X_names_used
  have gnames_used := PySem.W.mg_of X G anames_used
  have bnames_used : Binds K dnames_used ["statement"] [] := Fnames_used.binds (ps := ["statement"]) fun _ _ _ _ _ _ us hl => match us, hl with | [_], _ => rfl
  obtain ⟨fexpressions_in, dexpressions_in, aexpressions_in, Fexpressions_in⟩ := X_expressions_in
  have gexpressions_in := PySem.W.mg_of X G aexpressions_in
  have bexpressions_in : Binds K dexpressions_in ["statement"] [] := Fexpressions_in.binds (ps := ["statement"]) fun _ _ _ _ _ _ us hl => match us, hl with | [_], _ => rfl
  obtain ⟨f_law_deck, d_law_deck, a_law_deck, F_law_deck⟩ := X_law_deck
  have g_law_deck := PySem.W.mg_of X G a_law_deck
  have b_law_deck : Binds K d_law_deck ["_law_script"] [] := F_law_deck.binds (ps := ["_law_script"]) fun _ _ _ _ _ _ us hl => match us, hl with | [_], _ => rfl
  obtain ⟨f_law_draw, d_law_draw, a_law_draw, F_law_draw⟩ := X_law_draw
  have g_law_draw := PySem.W.mg_of X G a_law_draw
  have b_law_draw : Binds K d_law_draw ["_law_deck_here", "_law_most"] [] := F_law_draw.binds (ps := ["_law_deck_here", "_law_most"]) fun _ _ _ _ _ _ us hl => match us, hl with | [_, _], _ => rfl
  obtain ⟨f_law_pick, d_law_pick, a_law_pick, F_law_pick⟩ := X_law_pick
  have g_law_pick := PySem.W.mg_of X G a_law_pick
  have b_law_pick : Binds K d_law_pick ["_law_deck_here", "_law_some"] [] := F_law_pick.binds (ps := ["_law_deck_here", "_law_some"]) fun _ _ _ _ _ _ us hl => match us, hl with | [_, _], _ => rfl
  obtain ⟨f_law_names, d_law_names, a_law_names, F_law_names⟩ := X_law_names
  have g_law_names := PySem.W.mg_of X G a_law_names
  have b_law_names : Binds K d_law_names ["_law_deck_here", "_law_many"] [] := F_law_names.binds (ps := ["_law_deck_here", "_law_many"]) fun _ _ _ _ _ _ us hl => match us, hl with | [_, _], _ => rfl
  obtain ⟨f_law_world, d_law_world, a_law_world, F_law_world⟩ := X_law_world
  have g_law_world := PySem.W.mg_of X G a_law_world
  have b_law_world : Binds K d_law_world ["_law_deck_here"] [] := F_law_world.binds (ps := ["_law_deck_here"]) fun _ _ _ _ _ _ us hl => match us, hl with | [_], _ => rfl
  obtain ⟨f_law_integer, d_law_integer, a_law_integer, F_law_integer⟩ := X_law_integer
  have g_law_integer := PySem.W.mg_of X G a_law_integer
  have b_law_integer : Binds K d_law_integer ["_law_deck_here", "_law_world_here"] [] := F_law_integer.binds (ps := ["_law_deck_here", "_law_world_here"]) fun _ _ _ _ _ _ us hl => match us, hl with | [_, _], _ => rfl
  obtain ⟨f_law_cell, d_law_cell, a_law_cell, F_law_cell⟩ := X_law_cell
  have g_law_cell := PySem.W.mg_of X G a_law_cell
  have b_law_cell : Binds K d_law_cell ["_law_table", "_law_key", "_law_column"] [] := F_law_cell.binds (ps := ["_law_table", "_law_key", "_law_column"]) fun _ _ _ _ _ _ us hl => match us, hl with | [_, _, _], _ => rfl
  obtain ⟨f_law_leaf, d_law_leaf, a_law_leaf, F_law_leaf⟩ := X_law_leaf
  have g_law_leaf := PySem.W.mg_of X G a_law_leaf
  have b_law_leaf : Binds K d_law_leaf ["_law_deck_here", "_law_world_here", "_law_scope", "_law_loose"] [] := F_law_leaf.binds (ps := ["_law_deck_here", "_law_world_here", "_law_scope", "_law_loose"]) fun _ _ _ _ _ _ us hl => match us, hl with | [_, _, _, _], _ => rfl
  obtain ⟨f_law_aggregate, d_law_aggregate, a_law_aggregate, F_law_aggregate⟩ := X_law_aggregate
  have g_law_aggregate := PySem.W.mg_of X G a_law_aggregate
  have b_law_aggregate : Binds K d_law_aggregate ["_law_deck_here", "_law_world_here", "_law_deep", "_law_scope"] [] := F_law_aggregate.binds (ps := ["_law_deck_here", "_law_world_here", "_law_deep", "_law_scope"]) fun _ _ _ _ _ _ us hl => match us, hl with | [_, _, _, _], _ => rfl
  obtain ⟨f_law_expression, d_law_expression, a_law_expression, F_law_expression⟩ := X_law_expression
  have g_law_expression := PySem.W.mg_of X G a_law_expression
  have b_law_expression : Binds K d_law_expression ["_law_deck_here", "_law_world_here", "_law_deep", "_law_scope", "_law_loose"] [] := F_law_expression.binds (ps := ["_law_deck_here", "_law_world_here", "_law_deep", "_law_scope", "_law_loose"]) fun _ _ _ _ _ _ us hl => match us, hl with | [_, _, _, _, _], _ => rfl
  obtain ⟨f_law_statement, d_law_statement, a_law_statement, F_law_statement⟩ := X_law_statement
  have g_law_statement := PySem.W.mg_of X G a_law_statement
  have b_law_statement : Binds K d_law_statement ["_law_deck_here", "_law_world_here", "_law_scope", "_law_deep"] [] := F_law_statement.binds (ps := ["_law_deck_here", "_law_world_here", "_law_scope", "_law_deep"]) fun _ _ _ _ _ _ us hl => match us, hl with | [_, _, _, _], _ => rfl
  obtain ⟨f_law_transaction, d_law_transaction, a_law_transaction, F_law_transaction⟩ := X_law_transaction
  have g_law_transaction := PySem.W.mg_of X G a_law_transaction
  have b_law_transaction : Binds K d_law_transaction ["_law_deck_here", "_law_world_here", "_law_most", "_law_deep"] [] := F_law_transaction.binds (ps := ["_law_deck_here", "_law_world_here", "_law_most", "_law_deep"]) fun _ _ _ _ _ _ us hl => match us, hl with | [_, _, _, _], _ => rfl
  obtain ⟨f_law_is_name, d_law_is_name, a_law_is_name, F_law_is_name⟩ := X_law_is_name
  have g_law_is_name := PySem.W.mg_of X G a_law_is_name
  have b_law_is_name : Binds K d_law_is_name ["_law_thing"] [] := F_law_is_name.binds (ps := ["_law_thing"]) fun _ _ _ _ _ _ us hl => match us, hl with | [_], _ => rfl
  obtain ⟨f_law_is_value, d_law_is_value, a_law_is_value, F_law_is_value⟩ := X_law_is_value
  have g_law_is_value := PySem.W.mg_of X G a_law_is_value
  have b_law_is_value : Binds K d_law_is_value ["_law_thing"] [] := F_law_is_value.binds (ps := ["_law_thing"]) fun _ _ _ _ _ _ us hl => match us, hl with | [_], _ => rfl
  obtain ⟨f_law_inner, d_law_inner, a_law_inner, F_law_inner⟩ := X_law_inner
  have g_law_inner := PySem.W.mg_of X G a_law_inner
  have b_law_inner : Binds K d_law_inner ["_law_thing"] [] := F_law_inner.binds (ps := ["_law_thing"]) fun _ _ _ _ _ _ us hl => match us, hl with | [_], _ => rfl
  obtain ⟨f_law_looked, d_law_looked, a_law_looked, F_law_looked⟩ := X_law_looked
  have g_law_looked := PySem.W.mg_of X G a_law_looked
  have b_law_looked : Binds K d_law_looked ["_law_thing"] [] := F_law_looked.binds (ps := ["_law_thing"]) fun _ _ _ _ _ _ us hl => match us, hl with | [_], _ => rfl
  obtain ⟨f_law_fits, d_law_fits, a_law_fits, F_law_fits⟩ := X_law_fits
  have g_law_fits := PySem.W.mg_of X G a_law_fits
  have b_law_fits : Binds K d_law_fits ["_law_thing", "_law_lets", "_law_is_each_part"] [] := F_law_fits.binds (ps := ["_law_thing", "_law_lets", "_law_is_each_part"]) fun _ _ _ _ _ _ us hl => match us, hl with | [_, _, _], _ => rfl
  obtain ⟨f_law_is_statement, d_law_is_statement, a_law_is_statement, F_law_is_statement⟩ := X_law_is_statement
  have g_law_is_statement := PySem.W.mg_of X G a_law_is_statement
  have b_law_is_statement : Binds K d_law_is_statement ["_law_thing", "_law_lets"] [] := F_law_is_statement.binds (ps := ["_law_thing", "_law_lets"]) fun _ _ _ _ _ _ us hl => match us, hl with | [_, _], _ => rfl
  obtain ⟨f_law_is_transaction, d_law_is_transaction, a_law_is_transaction, F_law_is_transaction⟩ := X_law_is_transaction
  have g_law_is_transaction := PySem.W.mg_of X G a_law_is_transaction
  have b_law_is_transaction : Binds K d_law_is_transaction ["_law_thing"] [] := F_law_is_transaction.binds (ps := ["_law_thing"]) fun _ _ _ _ _ _ us hl => match us, hl with | [_], _ => rfl
  obtain ⟨f_law_odd, d_law_odd, a_law_odd, F_law_odd⟩ := X_law_odd
  have g_law_odd := PySem.W.mg_of X G a_law_odd
  have b_law_odd : Binds K d_law_odd ["_law_deck_here", "_law_thing", "_law_name"] [] := F_law_odd.binds (ps := ["_law_deck_here", "_law_thing", "_law_name"]) fun _ _ _ _ _ _ us hl => match us, hl with | [_, _, _], _ => rfl
  obtain ⟨f_law_bent, d_law_bent, a_law_bent, F_law_bent⟩ := X_law_bent
  have g_law_bent := PySem.W.mg_of X G a_law_bent
  have b_law_bent : Binds K d_law_bent ["_law_deck_here", "_law_thing", "_law_name"] [] := F_law_bent.binds (ps := ["_law_deck_here", "_law_thing", "_law_name"]) fun _ _ _ _ _ _ us hl => match us, hl with | [_, _, _], _ => rfl
  obtain ⟨f_law_right, d_law_right, a_law_right, F_law_right⟩ := X_law_right
  have g_law_right := PySem.W.mg_of X G a_law_right
  have b_law_right : Binds K d_law_right ["_law_thing"] [] := F_law_right.binds (ps := ["_law_thing"]) fun _ _ _ _ _ _ us hl => match us, hl with | [_], _ => rfl
  obtain ⟨f_law0, d_law0, a_law0, F_law0⟩ := X_law
  have e := hfa.symm.trans (PySem.W.mg_of X G a_law0)
  cases e
  have mlist := PySem.W.mg_none_of X G z_list
  have msum := PySem.W.mg_none_of X G z_sum
  have mlen := PySem.W.mg_none_of X G z_len
  have mrange := PySem.W.mg_none_of X G z_range
  have mint := PySem.W.mg_none_of X G z_int
  have mbool := PySem.W.mg_none_of X G z_bool
  have mrepr := PySem.W.mg_none_of X G z_repr
  have mtuple := PySem.W.mg_none_of X G z_tuple
  have mstr := PySem.W.mg_none_of X G z_str
  have misinstance := PySem.W.mg_none_of X G z_isinstance
  have mall := PySem.W.mg_none_of X G z_all
  have many := PySem.W.mg_none_of X G z_any
  have mzip := PySem.W.mg_none_of X G z_zip
  have msorted := PySem.W.mg_none_of X G z_sorted
  have mmin := PySem.W.mg_none_of X G z_min
  have mmax := PySem.W.mg_none_of X G z_max
  have mLIMIT := PySem.W.mg_of X G c_LIMIT
  have mLONGEST_NAME := PySem.W.mg_of X G c_LONGEST_NAME
  have mFIELDS := PySem.W.mg_of X G z_FIELDS
  have mFIELDS2 := PySem.W.mg_of X G z_FIELDS2
  have mALL := PySem.W.mg_of X G z_ALL
  have mWORDS := PySem.W.mg_of X G z_WORDS
  have mAGG := PySem.W.mg_of X G z_AGG
  have mLETTERS := PySem.W.mg_of X G z_LETTERS
  obtain ⟨oc, od, kV, doc, pm, an, cdv, ct, osl, hfd, _, _⟩ := F_law0.ex
  refine ⟨d_law0, fun s v => ?_, fun base _ _ => ?_⟩
  · subst hfd
    exact .of_eq rfl
  · have Gdraw := ok_draw (P := P) (w := w) (mg := mg) (base := base) (k := 0) F_law_draw
    have Gpick := ok_pick (k := 1) F_law_pick Gdraw g_law_draw F_law_draw.kp b_law_draw mlen
    have Gnames := ok_names (k := 2) F_law_names (Gdraw.mono (by decide)) g_law_draw F_law_draw.kp b_law_draw Gpick g_law_pick F_law_pick.kp b_law_pick mrange mlen
    have Gworld := ok_world (k := 3) F_law_world (Gdraw.mono (by decide)) g_law_draw F_law_draw.kp b_law_draw Gnames g_law_names F_law_names.kp b_law_names mrange
    have Gdeck := ok_deck (P := P) (w := w) (mg := mg) (base := base) (k := 0) F_law_deck mlist msum mlen
    have Gint := ok_integer (k := 2) F_law_integer (Gdraw.mono (by decide)) g_law_draw F_law_draw.kp b_law_draw Gpick g_law_pick F_law_pick.kp b_law_pick
    have Gcell := ok_cell (P := P) (w := w) (mg := mg) (base := base) (k := 0) F_law_cell
    have Gleaf := ok_leaf (k := 3) F_law_leaf (Gdraw.mono (by decide)) g_law_draw F_law_draw.kp b_law_draw (Gpick.mono (by decide)) g_law_pick F_law_pick.kp b_law_pick Gint g_law_integer F_law_integer.kp b_law_integer
    have Gex := ok_exprs (k := 4) F_law_expression F_law_aggregate (Gdraw.mono (by decide)) g_law_draw F_law_draw.kp b_law_draw (Gpick.mono (by decide)) g_law_pick F_law_pick.kp b_law_pick Gleaf g_law_leaf F_law_leaf.kp b_law_leaf (Gcell.mono (by decide)) g_law_cell F_law_cell.kp b_law_cell g_law_aggregate F_law_aggregate.kp b_law_aggregate g_law_expression F_law_expression.kp b_law_expression mmax 3
    have Gst := ok_stmt (k := 11) F_law_statement (Gdraw.mono (by decide)) g_law_draw F_law_draw.kp b_law_draw (Gpick.mono (by decide)) g_law_pick F_law_pick.kp b_law_pick (Gleaf.mono (by decide)) g_law_leaf F_law_leaf.kp b_law_leaf Gex g_law_expression F_law_expression.kp b_law_expression
    have Gtr := ok_tran (k := 12) F_law_transaction (Gdraw.mono (by decide)) g_law_draw F_law_draw.kp b_law_draw Gst g_law_statement F_law_statement.kp b_law_statement mrange mtuple
    have Gii := ok_is_integer (P := P) (w := w) (mg := mg) (base := base) (k := 0) Fis_integer misinstance mint mbool
    have Giv := ok_is_value (k := 1) Fis_value Gii gis_integer Fis_integer.kp bis_integer mLIMIT
    have Gin := ok_is_name (P := P) (w := w) (mg := mg) (base := base) (k := 0) Fis_name misinstance mstr mlen mall mWORDS T_WORDS mLONGEST_NAME mLETTERS
    have Gwo := ok_word_of (P := P) (w := w) (mg := mg) (base := base) (k := 0) Fword_of misinstance mtuple mstr
    have Gfi := ok_fits (k := 2) Ffits_expressions Giv gis_value Fis_value.kp bis_value (Gin.mono (by decide)) gis_name Fis_name.kp bis_name (Gii.mono (by decide)) gis_integer Fis_integer.kp bis_integer misinstance mtuple
    have Ghf := ok_has_form (k := 3) Fhas_form (Gwo.mono (by decide)) gword_of Fword_of.kp bword_of Gfi gfits_expressions Ffits_expressions.kp bfits_expressions mFIELDS T_FIELDS.1 mlen mzip mall
    have Gof := ok_contained_of (P := P) (w := w) (mg := mg) (base := base) (k := 0) Fcontained_of mFIELDS T_FIELDS.2 mzip
    have Gcon := ok_contained (k := 1) Fcontained Gof gcontained_of Fcontained_of.kp bcontained_of mALL T_ALL
    have Gx := ok_is_expression (k := 4) Fis_expression Ghf ghas_form Fhas_form.kp bhas_form (Gcon.mono (by decide)) gcontained Fcontained.kp bcontained
    have Gfree := ok_contained_free (k := 1) Fcontained_free Gof gcontained_of Fcontained_of.kp bcontained_of
    have Gone := ok_one_deeper (k := 2) Fone_deeper Gcon gcontained Fcontained.kp bcontained
    have Gall := ok_all_parts (k := 3) Fall_parts Gone gone_deeper Fone_deeper.kp bone_deeper
    have Grow := ok_rows_of (P := P) (w := w) (mg := mg) (base := base) (k := 0) Frows_of
    have Gpp := ok_is_plain_part (k := 1) Fis_plain_part Grow grows_of Frows_of.kp brows_of mAGG T_AGG
    have Gpl := ok_is_plain (k := 4) Fis_plain Gall gall_parts Fall_parts.kp ball_parts (Gpp.mono (by decide)) gis_plain_part Fis_plain_part.kp bis_plain_part mall
    have Gsi := ok_is_simple (k := 4) Fis_simple Gall gall_parts Fall_parts.kp ball_parts mAGG T_AGG mall
    have Ghk := ok_has_free_key (k := 2) Fhas_free_key Gfree gcontained_free Fcontained_free.kp bcontained_free
    have Gvs := ok_variables_of (k := 4) Fvariables_of Gall gall_parts Fall_parts.kp ball_parts msorted mtuple
    have Gf2 := ok_fits2 (k := 5) Ffits_statements (Gin.mono (by decide)) gis_name Fis_name.kp bis_name Gx gis_expression Fis_expression.kp bis_expression Gpl gis_plain Fis_plain.kp bis_plain Gsi gis_simple Fis_simple.kp bis_simple (Ghk.mono (by decide)) ghas_free_key Fhas_free_key.kp bhas_free_key
    have Gis := ok_is_statement (k := 6) Fis_statement (Gwo.mono (by decide)) gword_of Fword_of.kp bword_of Gf2 gfits_statements Ffits_statements.kp bfits_statements mFIELDS2 T_FIELDS2.1 mlen mzip mall
    have Gnl := ok_names_let (P := P) (w := w) (mg := mg) (base := base) (k := 0) Fnames_let
    have Gei := ok_expressions_in (P := P) (w := w) (mg := mg) (base := base) (k := 0) Fexpressions_in mFIELDS2 T_FIELDS2.2 mzip
    have Gnu := ok_names_used (k := 5) Fnames_used (Gei.mono (by decide)) gexpressions_in Fexpressions_in.kp bexpressions_in Gvs gvariables_of Fvariables_of.kp bvariables_of
    have Gmf := ok_may_follow (k := 6) Fmay_follow (Gnl.mono (by decide)) gnames_let Fnames_let.kp bnames_let Gnu gnames_used Fnames_used.kp bnames_used mall many
    have Git := ok_is_tr (k := 7) Fis_transaction (Gnl.mono (by decide)) gnames_let Fnames_let.kp bnames_let Gis gis_statement Fis_statement.kp bis_statement Gmf gmay_follow Fmay_follow.kp bmay_follow misinstance mtuple
    have Gln := ok_law_is_name (P := P) (w := w) (mg := mg) (base := base) (k := 0) F_law_is_name misinstance mstr mlen
    have Glv := ok_law_is_value (P := P) (w := w) (mg := mg) (base := base) (k := 0) F_law_is_value misinstance mint mbool
    have Gli := ok_inner (k := 1) F_law_inner Gln g_law_is_name F_law_is_name.kp b_law_is_name mlen mlist mrange
    have Glo := ok_looked (k := 2) F_law_looked Gli g_law_inner F_law_inner.kp b_law_inner (Glv.mono (by decide)) g_law_is_value F_law_is_value.kp b_law_is_value (Gln.mono (by decide)) g_law_is_name F_law_is_name.kp b_law_is_name g_law_looked F_law_looked.kp b_law_looked misinstance mtuple mstr mlen mzip 40
    have Glf := ok_fitL (k := 42) F_law_fits Glo g_law_looked F_law_looked.kp b_law_looked
    have Gls := ok_law_is_statement (k := 43) F_law_is_statement (Gln.mono (by decide)) g_law_is_name F_law_is_name.kp b_law_is_name Glf g_law_fits F_law_fits.kp b_law_fits misinstance mtuple mstr mlen
    have Glt := ok_law_is_transaction (k := 44) F_law_is_transaction Gls g_law_is_statement F_law_is_statement.kp b_law_is_statement misinstance mtuple
    have Gri := ok_right (k := 45) F_law_right Glt g_law_is_transaction F_law_is_transaction.kp b_law_is_transaction (Git.mono (by decide)) gis_transaction Fis_transaction.kp bis_transaction misinstance mbool
    have God := ok_odd (k := 2) F_law_odd Gpick g_law_pick F_law_pick.kp b_law_pick misinstance mtuple mlist mstr
    have Gbe := ok_bent (k := 3) F_law_bent (Gdraw.mono (by decide)) g_law_draw F_law_draw.kp b_law_draw God g_law_odd F_law_odd.kp b_law_odd g_law_bent F_law_bent.kp b_law_bent misinstance mtuple mlen 40
    exact ok_law (k := 46) F_law0 (Gdeck.mono (by decide)) g_law_deck F_law_deck.kp b_law_deck (Gworld.mono (by decide)) g_law_world F_law_world.kp b_law_world (Gtr.mono (by decide)) g_law_transaction F_law_transaction.kp b_law_transaction Gri g_law_right F_law_right.kp b_law_right (Git.mono (by decide)) gis_transaction Fis_transaction.kp bis_transaction (Glt.mono (by decide)) g_law_is_transaction F_law_is_transaction.kp b_law_is_transaction (Gbe.mono (by decide)) g_law_bent F_law_bent.kp b_law_bent (God.mono (by decide)) g_law_odd F_law_odd.kp b_law_odd mrange mlist
end L9
open PySem PySem.W PyProof.Rows
set_option maxHeartbeats 0 in
theorem PySem.Challenge.cw_lookdone_k09_what_is_a_transaction_holds : PySem.Challenge.rw_lookdone_k09_what_is_a_transaction.Holds := by
  w_on; o_law; k_head; (case hw => w_witness2)
  k_fill
  refine GR.walk_g (l := PySem.Challenge.rw_lookdone_k09_what_is_a_transaction) (n := 63) (k := 47) (x := "_law_script") (sp := L9.sp_law) rfl (by decide) rfl ⟨rfl, by decide, by decide⟩ (fun w h Y => PySem.W.kIn_of Y) ?F (fun _ _ a ns hl _ hS => ⟨a, ns, rfl, hS, fun _ => rfl⟩)
  case F =>
    intro w mg fa h KX G hmg
    refine' L9.all_mk KX G hmg (L9.has_mk (y := "is_integer") (st := L9.s_is_integer) ?a_is_integer ?l_is_integer ?c_is_integer ?k_is_integer) (L9.has_mk (y := "is_value") (st := L9.s_is_value) ?a_is_value ?l_is_value ?c_is_value ?k_is_value) (L9.has_mk (y := "is_name") (st := L9.s_is_name) ?a_is_name ?l_is_name ?c_is_name ?k_is_name) (L9.has_mk (y := "word_of") (st := L9.s_word_of) ?a_word_of ?l_word_of ?c_word_of ?k_word_of) (L9.has_mk (y := "is_expression") (st := L9.s_is_expression) ?a_is_expression ?l_is_expression ?c_is_expression ?k_is_expression) (L9.has_mk (y := "has_form") (st := L9.s_has_form) ?a_has_form ?l_has_form ?c_has_form ?k_has_form) (L9.has_mk (y := "fits") (st := L9.s_fits) ?a_fits_expressions ?l_fits_expressions ?c_fits_expressions ?k_fits_expressions) (L9.has_mk (y := "contained") (st := L9.s_contained) ?a_contained ?l_contained ?c_contained ?k_contained) (L9.has_mk (y := "contained_free") (st := L9.s_contained_free) ?a_contained_free ?l_contained_free ?c_contained_free ?k_contained_free) (L9.has_mk (y := "contained_of") (st := L9.s_contained_of) ?a_contained_of ?l_contained_of ?c_contained_of ?k_contained_of) (L9.has_mk (y := "one_deeper") (st := L9.s_one_deeper) ?a_one_deeper ?l_one_deeper ?c_one_deeper ?k_one_deeper) (L9.has_mk (y := "all_parts") (st := L9.s_all_parts) ?a_all_parts ?l_all_parts ?c_all_parts ?k_all_parts) (L9.has_mk (y := "rows_of") (st := L9.s_rows_of) ?a_rows_of ?l_rows_of ?c_rows_of ?k_rows_of) (L9.has_mk (y := "is_plain") (st := L9.s_is_plain) ?a_is_plain ?l_is_plain ?c_is_plain ?k_is_plain) (L9.has_mk (y := "is_plain_part") (st := L9.s_is_plain_part) ?a_is_plain_part ?l_is_plain_part ?c_is_plain_part ?k_is_plain_part) (L9.has_mk (y := "has_free_key") (st := L9.s_has_free_key) ?a_has_free_key ?l_has_free_key ?c_has_free_key ?k_has_free_key) (L9.has_mk (y := "is_simple") (st := L9.s_is_simple) ?a_is_simple ?l_is_simple ?c_is_simple ?k_is_simple) (L9.has_mk (y := "variables_of") (st := L9.s_variables_of) ?a_variables_of ?l_variables_of ?c_variables_of ?k_variables_of) (L9.has_mk (y := "is_transaction") (st := L9.s_is_transaction) ?a_is_transaction ?l_is_transaction ?c_is_transaction ?k_is_transaction) (L9.has_mk (y := "is_statement") (st := L9.s_is_statement) ?a_is_statement ?l_is_statement ?c_is_statement ?k_is_statement) (L9.has_mk (y := "fits") (st := L9.s_fits2) ?a_fits_statements ?l_fits_statements ?c_fits_statements ?k_fits_statements) (L9.has_mk (y := "may_follow") (st := L9.s_may_follow) ?a_may_follow ?l_may_follow ?c_may_follow ?k_may_follow) (L9.has_mk (y := "names_let") (st := L9.s_names_let) ?a_names_let ?l_names_let ?c_names_let ?k_names_let) (L9.has_mk (y := "names_used") (st := L9.s_names_used) ?a_names_used ?l_names_used ?c_names_used ?k_names_used) (L9.has_mk (y := "expressions_in") (st := L9.s_expressions_in) ?a_expressions_in ?l_expressions_in ?c_expressions_in ?k_expressions_in) (L9.has_mk (y := "_law_deck") (st := L9.s_law_deck) ?a_law_deck ?l_law_deck ?c_law_deck ?k_law_deck) (L9.has_mk (y := "_law_draw") (st := L9.s_law_draw) ?a_law_draw ?l_law_draw ?c_law_draw ?k_law_draw) (L9.has_mk (y := "_law_pick") (st := L9.s_law_pick) ?a_law_pick ?l_law_pick ?c_law_pick ?k_law_pick) (L9.has_mk (y := "_law_names") (st := L9.s_law_names) ?a_law_names ?l_law_names ?c_law_names ?k_law_names) (L9.has_mk (y := "_law_world") (st := L9.s_law_world) ?a_law_world ?l_law_world ?c_law_world ?k_law_world) (L9.has_mk (y := "_law_integer") (st := L9.s_law_integer) ?a_law_integer ?l_law_integer ?c_law_integer ?k_law_integer) (L9.has_mk (y := "_law_cell") (st := L9.s_law_cell) ?a_law_cell ?l_law_cell ?c_law_cell ?k_law_cell) (L9.has_mk (y := "_law_leaf") (st := L9.s_law_leaf) ?a_law_leaf ?l_law_leaf ?c_law_leaf ?k_law_leaf) (L9.has_mk (y := "_law_aggregate") (st := L9.s_law_aggregate) ?a_law_aggregate ?l_law_aggregate ?c_law_aggregate ?k_law_aggregate) (L9.has_mk (y := "_law_expression") (st := L9.s_law_expression) ?a_law_expression ?l_law_expression ?c_law_expression ?k_law_expression) (L9.has_mk (y := "_law_statement") (st := L9.s_law_statement) ?a_law_statement ?l_law_statement ?c_law_statement ?k_law_statement) (L9.has_mk (y := "_law_transaction") (st := L9.s_law_transaction) ?a_law_transaction ?l_law_transaction ?c_law_transaction ?k_law_transaction) (L9.has_mk (y := "_law_is_name") (st := L9.s_law_is_name) ?a_law_is_name ?l_law_is_name ?c_law_is_name ?k_law_is_name) (L9.has_mk (y := "_law_is_value") (st := L9.s_law_is_value) ?a_law_is_value ?l_law_is_value ?c_law_is_value ?k_law_is_value) (L9.has_mk (y := "_law_inner") (st := L9.s_law_inner) ?a_law_inner ?l_law_inner ?c_law_inner ?k_law_inner) (L9.has_mk (y := "_law_looked") (st := L9.s_law_looked) ?a_law_looked ?l_law_looked ?c_law_looked ?k_law_looked) (L9.has_mk (y := "_law_fits") (st := L9.s_law_fits) ?a_law_fits ?l_law_fits ?c_law_fits ?k_law_fits) (L9.has_mk (y := "_law_is_statement") (st := L9.s_law_is_statement) ?a_law_is_statement ?l_law_is_statement ?c_law_is_statement ?k_law_is_statement) (L9.has_mk (y := "_law_is_transaction") (st := L9.s_law_is_transaction) ?a_law_is_transaction ?l_law_is_transaction ?c_law_is_transaction ?k_law_is_transaction) (L9.has_mk (y := "_law_odd") (st := L9.s_law_odd) ?a_law_odd ?l_law_odd ?c_law_odd ?k_law_odd) (L9.has_mk (y := "_law_bent") (st := L9.s_law_bent) ?a_law_bent ?l_law_bent ?c_law_bent ?k_law_bent) (L9.has_mk (y := "_law_right") (st := L9.s_law_right) ?a_law_right ?l_law_right ?c_law_right ?k_law_right) (L9.has_mk (y := "law") (st := L9.s_law) ?a_law ?l_law ?c_law ?k_law) ?z_list ?z_sum ?z_len ?z_range ?z_int ?z_bool ?z_repr ?z_tuple ?z_str ?z_isinstance ?z_all ?z_any ?z_zip ?z_sorted ?z_min ?z_max ?c0_LIMIT ?c0_LONGEST_NAME ?z_FIELDS (L9.flds_mk ?l_F ?kl_F ?hk_F ?low_F ?q_0 (L9.ktx_mk ?l_0 ?v_0 (by decide)) ?q_1 (L9.ktx_mk ?l_1 ?v_1 (by decide)) ?q_2 (L9.ktx_mk ?l_2 ?v_2 (by decide)) ?q_3 (L9.ktx_mk ?l_3 ?v_3 (by decide)) ?q_4 (L9.ktx_mk ?l_4 ?v_4 (by decide)) ?q_5 (L9.ktx_mk ?l_5 ?v_5 (by decide)) ?q_6 (L9.ktx_mk ?l_6 ?v_6 (by decide)) ?q_7 (L9.ktx_mk ?l_7 ?v_7 (by decide)) ?q_8 (L9.ktx_mk ?l_8 ?v_8 (by decide)) ?q_9 (L9.ktx_mk ?l_9 ?v_9 (by decide)) ?q_10 (L9.ktx_mk ?l_10 ?v_10 (by decide)) ?q_11 (L9.ktx_mk ?l_11 ?v_11 (by decide)) ?q_12 (L9.ktx_mk ?l_12 ?v_12 (by decide)) ?q_13 (L9.ktx_mk ?l_13 ?v_13 (by decide)) ?q_14 (L9.ktx_mk ?l_14 ?v_14 (by decide)) ?q_15 (L9.ktx_mk ?l_15 ?v_15 (by decide))) ?z_FIELDS2 (L9.fldsS_mk ?l_F2 ?kl_F2 ?hk_F2 ?low_F2 ?q2_0 (L9.ktx_mk ?l2_0 ?v2_0 (by decide)) ?q2_1 (L9.ktx_mk ?l2_1 ?v2_1 (by decide)) ?q2_2 (L9.ktx_mk ?l2_2 ?v2_2 (by decide)) ?q2_3 (L9.ktx_mk ?l2_3 ?v2_3 (by decide)) ?q2_4 (L9.ktx_mk ?l2_4 ?v2_4 (by decide))) ?z_ALL (L9.ktx_mk (fs := ["free", "bound"]) ?l_A ?v_A (by decide)) ?z_WORDS (L9.ktx_mk (fs := ["key", "if", "at", "count", "sum", "most", "first", "let", "need", "put", "each", "tell"]) ?l_W ?v_W (by decide)) ?z_AGG (L9.ktx_mk (fs := ["count", "sum", "most", "first"]) ?l_G ?v_G (by decide)) ?z_LETTERS
    (case a_is_integer => k_is)
    (case l_is_integer => k_is)
    (case c_is_integer => k_is)
    (case k_is_integer => k_is)
    (case a_is_value => k_is)
    (case l_is_value => k_is)
    (case c_is_value => k_is)
    (case k_is_value => k_is)
    (case a_is_name => k_is)
    (case l_is_name => k_is)
    (case c_is_name => k_is)
    (case k_is_name => k_is)
    (case a_word_of => k_is)
    (case l_word_of => k_is)
    (case c_word_of => k_is)
    (case k_word_of => k_is)
    (case a_is_expression => k_is)
    (case l_is_expression => k_is)
    (case c_is_expression => k_is)
    (case k_is_expression => k_is)
    (case a_has_form => k_is)
    (case l_has_form => k_is)
    (case c_has_form => k_is)
    (case k_has_form => k_is)
    (case a_fits_expressions => k_is)
    (case l_fits_expressions => k_is)
    (case c_fits_expressions => k_is)
    (case k_fits_expressions => k_is)
    (case a_contained => k_is)
    (case l_contained => k_is)
    (case c_contained => k_is)
    (case k_contained => k_is)
    (case a_contained_free => k_is)
    (case l_contained_free => k_is)
    (case c_contained_free => k_is)
    (case k_contained_free => k_is)
    (case a_contained_of => k_is)
    (case l_contained_of => k_is)
    (case c_contained_of => k_is)
    (case k_contained_of => k_is)
    (case a_one_deeper => k_is)
    (case l_one_deeper => k_is)
    (case c_one_deeper => k_is)
    (case k_one_deeper => k_is)
    (case a_all_parts => k_is)
    (case l_all_parts => k_is)
    (case c_all_parts => k_is)
    (case k_all_parts => k_is)
    (case a_rows_of => k_is)
    (case l_rows_of => k_is)
    (case c_rows_of => k_is)
    (case k_rows_of => k_is)
    (case a_is_plain => k_is)
    (case l_is_plain => k_is)
    (case c_is_plain => k_is)
    (case k_is_plain => k_is)
    (case a_is_plain_part => k_is)
    (case l_is_plain_part => k_is)
    (case c_is_plain_part => k_is)
    (case k_is_plain_part => k_is)
    (case a_has_free_key => k_is)
    (case l_has_free_key => k_is)
    (case c_has_free_key => k_is)
    (case k_has_free_key => k_is)
    (case a_is_simple => k_is)
    (case l_is_simple => k_is)
    (case c_is_simple => k_is)
    (case k_is_simple => k_is)
    (case a_variables_of => k_is)
    (case l_variables_of => k_is)
    (case c_variables_of => k_is)
    (case k_variables_of => k_is)
    (case a_is_transaction => k_is)
    (case l_is_transaction => k_is)
    (case c_is_transaction => k_is)
    (case k_is_transaction => k_is)
    (case a_is_statement => k_is)
    (case l_is_statement => k_is)
    (case c_is_statement => k_is)
    (case k_is_statement => k_is)
    (case a_fits_statements => k_is)
    (case l_fits_statements => k_is)
    (case c_fits_statements => k_is)
    (case k_fits_statements => k_is)
    (case a_may_follow => k_is)
    (case l_may_follow => k_is)
    (case c_may_follow => k_is)
    (case k_may_follow => k_is)
    (case a_names_let => k_is)
    (case l_names_let => k_is)
    (case c_names_let => k_is)
    (case k_names_let => k_is)
    (case a_names_used => k_is)
    (case l_names_used => k_is)
    (case c_names_used => k_is)
    (case k_names_used => k_is)
    (case a_expressions_in => k_is)
    (case l_expressions_in => k_is)
    (case c_expressions_in => k_is)
    (case k_expressions_in => k_is)
    (case a_law_deck => k_is)
    (case l_law_deck => k_is)
    (case c_law_deck => k_is)
    (case k_law_deck => k_is)
    (case a_law_draw => k_is)
    (case l_law_draw => k_is)
    (case c_law_draw => k_is)
    (case k_law_draw => k_is)
    (case a_law_pick => k_is)
    (case l_law_pick => k_is)
    (case c_law_pick => k_is)
    (case k_law_pick => k_is)
    (case a_law_names => k_is)
    (case l_law_names => k_is)
    (case c_law_names => k_is)
    (case k_law_names => k_is)
    (case a_law_world => k_is)
    (case l_law_world => k_is)
    (case c_law_world => k_is)
    (case k_law_world => k_is)
    (case a_law_integer => k_is)
    (case l_law_integer => k_is)
    (case c_law_integer => k_is)
    (case k_law_integer => k_is)
    (case a_law_cell => k_is)
    (case l_law_cell => k_is)
    (case c_law_cell => k_is)
    (case k_law_cell => k_is)
    (case a_law_leaf => k_is)
    (case l_law_leaf => k_is)
    (case c_law_leaf => k_is)
    (case k_law_leaf => k_is)
    (case a_law_aggregate => k_is)
    (case l_law_aggregate => k_is)
    (case c_law_aggregate => k_is)
    (case k_law_aggregate => k_is)
    (case a_law_expression => k_is)
    (case l_law_expression => k_is)
    (case c_law_expression => k_is)
    (case k_law_expression => k_is)
    (case a_law_statement => k_is)
    (case l_law_statement => k_is)
    (case c_law_statement => k_is)
    (case k_law_statement => k_is)
    (case a_law_transaction => k_is)
    (case l_law_transaction => k_is)
    (case c_law_transaction => k_is)
    (case k_law_transaction => k_is)
    (case a_law_is_name => k_is)
    (case l_law_is_name => k_is)
    (case c_law_is_name => k_is)
    (case k_law_is_name => k_is)
    (case a_law_is_value => k_is)
    (case l_law_is_value => k_is)
    (case c_law_is_value => k_is)
    (case k_law_is_value => k_is)
    (case a_law_inner => k_is)
    (case l_law_inner => k_is)
    (case c_law_inner => k_is)
    (case k_law_inner => k_is)
    (case a_law_looked => k_is)
    (case l_law_looked => k_is)
    (case c_law_looked => k_is)
    (case k_law_looked => k_is)
    (case a_law_fits => k_is)
    (case l_law_fits => k_is)
    (case c_law_fits => k_is)
    (case k_law_fits => k_is)
    (case a_law_is_statement => k_is)
    (case l_law_is_statement => k_is)
    (case c_law_is_statement => k_is)
    (case k_law_is_statement => k_is)
    (case a_law_is_transaction => k_is)
    (case l_law_is_transaction => k_is)
    (case c_law_is_transaction => k_is)
    (case k_law_is_transaction => k_is)
    (case a_law_odd => k_is)
    (case l_law_odd => k_is)
    (case c_law_odd => k_is)
    (case k_law_odd => k_is)
    (case a_law_bent => k_is)
    (case l_law_bent => k_is)
    (case c_law_bent => k_is)
    (case k_law_bent => k_is)
    (case a_law_right => k_is)
    (case l_law_right => k_is)
    (case c_law_right => k_is)
    (case k_law_right => k_is)
    (case a_law => k_is)
    (case l_law => k_is)
    (case c_law => k_is)
    (case k_law => k_is)
    (case z_list => k_is)
    (case z_sum => k_is)
    (case z_len => k_is)
    (case z_range => k_is)
    (case z_int => k_is)
    (case z_bool => k_is)
    (case z_repr => k_is)
    (case z_tuple => k_is)
    (case z_str => k_is)
    (case z_isinstance => k_is)
    (case z_all => k_is)
    (case z_any => k_is)
    (case z_zip => k_is)
    (case z_sorted => k_is)
    (case z_min => k_is)
    (case z_max => k_is)
    (case c0_LIMIT => k_is)
    (case c0_LONGEST_NAME => k_is)
    (case z_FIELDS => k_is)
    (case l_F => k_is)
    (case kl_F => k_keys)
    (case hk_F => rfl)
    (case low_F => rfl)
    (case q_0 => k_is)
    (case l_0 => k_is)
    (case v_0 => repeat (first | exact .nil | refine .cons ⟨_, rfl⟩ ?_))
    (case q_1 => k_is)
    (case l_1 => k_is)
    (case v_1 => repeat (first | exact .nil | refine .cons ⟨_, rfl⟩ ?_))
    (case q_2 => k_is)
    (case l_2 => k_is)
    (case v_2 => repeat (first | exact .nil | refine .cons ⟨_, rfl⟩ ?_))
    (case q_3 => k_is)
    (case l_3 => k_is)
    (case v_3 => repeat (first | exact .nil | refine .cons ⟨_, rfl⟩ ?_))
    (case q_4 => k_is)
    (case l_4 => k_is)
    (case v_4 => repeat (first | exact .nil | refine .cons ⟨_, rfl⟩ ?_))
    (case q_5 => k_is)
    (case l_5 => k_is)
    (case v_5 => repeat (first | exact .nil | refine .cons ⟨_, rfl⟩ ?_))
    (case q_6 => k_is)
    (case l_6 => k_is)
    (case v_6 => repeat (first | exact .nil | refine .cons ⟨_, rfl⟩ ?_))
    (case q_7 => k_is)
    (case l_7 => k_is)
    (case v_7 => repeat (first | exact .nil | refine .cons ⟨_, rfl⟩ ?_))
    (case q_8 => k_is)
    (case l_8 => k_is)
    (case v_8 => repeat (first | exact .nil | refine .cons ⟨_, rfl⟩ ?_))
    (case q_9 => k_is)
    (case l_9 => k_is)
    (case v_9 => repeat (first | exact .nil | refine .cons ⟨_, rfl⟩ ?_))
    (case q_10 => k_is)
    (case l_10 => k_is)
    (case v_10 => repeat (first | exact .nil | refine .cons ⟨_, rfl⟩ ?_))
    (case q_11 => k_is)
    (case l_11 => k_is)
    (case v_11 => repeat (first | exact .nil | refine .cons ⟨_, rfl⟩ ?_))
    (case q_12 => k_is)
    (case l_12 => k_is)
    (case v_12 => repeat (first | exact .nil | refine .cons ⟨_, rfl⟩ ?_))
    (case q_13 => k_is)
    (case l_13 => k_is)
    (case v_13 => repeat (first | exact .nil | refine .cons ⟨_, rfl⟩ ?_))
    (case q_14 => k_is)
    (case l_14 => k_is)
    (case v_14 => repeat (first | exact .nil | refine .cons ⟨_, rfl⟩ ?_))
    (case q_15 => k_is)
    (case l_15 => k_is)
    (case v_15 => repeat (first | exact .nil | refine .cons ⟨_, rfl⟩ ?_))
    (case z_FIELDS2 => k_is)
    (case l_F2 => k_is)
    (case kl_F2 => k_keys)
    (case hk_F2 => rfl)
    (case low_F2 => rfl)
    (case q2_0 => k_is)
    (case l2_0 => k_is)
    (case v2_0 => repeat (first | exact .nil | refine .cons ⟨_, rfl⟩ ?_))
    (case q2_1 => k_is)
    (case l2_1 => k_is)
    (case v2_1 => repeat (first | exact .nil | refine .cons ⟨_, rfl⟩ ?_))
    (case q2_2 => k_is)
    (case l2_2 => k_is)
    (case v2_2 => repeat (first | exact .nil | refine .cons ⟨_, rfl⟩ ?_))
    (case q2_3 => k_is)
    (case l2_3 => k_is)
    (case v2_3 => repeat (first | exact .nil | refine .cons ⟨_, rfl⟩ ?_))
    (case q2_4 => k_is)
    (case l2_4 => k_is)
    (case v2_4 => repeat (first | exact .nil | refine .cons ⟨_, rfl⟩ ?_))
    (case z_ALL => k_is)
    (case l_A => k_is)
    (case v_A => repeat (first | exact .nil | refine .cons ⟨_, rfl⟩ ?_))
    (case z_WORDS => k_is)
    (case l_W => k_is)
    (case v_W => repeat (first | exact .nil | refine .cons ⟨_, rfl⟩ ?_))
    (case z_AGG => k_is)
    (case l_G => k_is)
    (case v_G => repeat (first | exact .nil | refine .cons ⟨_, rfl⟩ ?_))
    (case z_LETTERS => k_is)
