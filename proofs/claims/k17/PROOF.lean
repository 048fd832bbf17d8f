import PyProof.Rows.All
import Wide.All
import OpenK.AllK
import Wide.FinOn
import HandS.ForMost
import PyProof.ReprRoads
import HandS.Wide
import HandS.Style
import HandS.Evl
import HandS.Conv
import HandS.Replace
import PyProof.AutoSeq1
import HandS.Star
import HandS.SortKw
import KE.DatumOrd
import KE.KDictPairs
import HandS.Zip
import HandS.More
import HandS.IsInst
import PyProof.P3In
import HandS.NoneIn
import HandS.WrittenGet
import HandS.Walk
import HandS.Text
import HandS.Flow
import PyProof.EqAt
import HandS.Set
import HandS.SetBool
import HandS.SetKeys
import PyProof.Rows.SortStr
import HandS.Strs
import HandS.TupAny
import PyProof.NeKinds
import PyProof.Rows.IntBool
import PyProof.CallStr
import PySem.Challenge.RW_lookdone_k17_what_is_a_log
set_option Elab.async false
set_option linter.all false
set_option maxRecDepth 100000
set_option maxHeartbeats 4000000
namespace GR
open PySem PySem.Spec PyProof.Rows L2

/-! ### data that stands in the abstract heap -/
section
variable {X : Cx} {pins : List (Addr × Obj)} {σ : L2.St} {H : Hp} {s : Shared}
mutual
theorem nodict {K : PySem.W.Frag} : ∀ {v : V} {d : PyData}, Dp K H v d → d.hasDict = false
  | _, _, .non => by simp only [PyData.hasDict]
  | _, _, .bl b => by simp only [PyData.hasDict]
  | _, _, .int i => by simp only [PyData.hasDict]
  | _, _, .str x => by simp only [PyData.hasDict]
  | _, _, .lst _ q => by simp only [PyData.hasDict, nodicts q]
  | _, _, .tup _ q => by simp only [PyData.hasDict, nodicts q]
theorem nodicts {K : PySem.W.Frag} : ∀ {vs : List V} {ds : List PyData}, DpAll K H vs ds → PyData.hasDictAll ds = false
  | _, _, .nil => by simp only [PyData.hasDictAll]
  | _, _, .cons h q => by simp only [PyData.hasDictAll, nodict h, nodicts q, Bool.or_self]
end

/-- repr of a list or a tuple of data -/
def rRepr (X : Cx) : List V → Hp → VK → Prop := fun xs H Q => ∃ (a : Addr) (d : PyData), xs = [.ref a] ∧ Dp X.K H (.ref a) d ∧ d.showable = true ∧ d.depth ≤ 60 ∧ d.shown.length ≤ sizeLine ∧ Q (.str d.shown) H
theorem call_reprD {k : Nat} (hg : X.A.guards = some []) (hr : Room k X.A) : CallR X (.builtin "repr") (rRepr X) := by
  intro pins s σ H xs us Q I r h
  obtain ⟨a, d, rfl, hd, hs, hdep, hz, q⟩ := h
  obtain ⟨u, rfl, rv⟩ := vals1 r
  obtain rfl : u = Value.ref a := rv
  obtain ⟨as, hR⟩ := Dp.reads I d _ _ hd rfl
  have hu := hr.units
  exact repr_of_reads' hR hs (PyData.noDict_hsm (nodict hd)) hg (by omega) (fun _ _ e => e) (fun h' u tk hk => ⟨.str d.shown, H, I.kept hk, ⟨_, rfl⟩, q⟩) hz
end

/-! ### defs that show things: a promise kept wherever nothing is being shown -/
structure FnG (P : Program) (w : World) (K : PySem.W.Frag) (mg : Str → Option Value) (base : Heap) (CX : CXT) (k : Nat) (f : Addr) (fd : FuncData) (ps : List Str) (sp : Sp) : Prop where
  size : ∀ vs H Q E, sp vs H Q E → vs.length = ps.length
  go : ∀ (A : Around) (outer : List Env) (s : Shared) (H : Hp) (args : Args) (us : List Value) (vs : List V) (Q : VK) (E : XK),
    A.guards = some [] → Room k A → Env0 P w K mg base A outer s H → BindsTo s fd args (ps.zip us) → Vals vs us → sp vs H Q E →
    codeAny (model P w) A (.call (.ref f) args) (CR CX outer P w H s Q E) s

section
variable {P : Program} {w : World} {K : PySem.W.Frag} {mg : Str → Option Value} {base : Heap}
theorem FnG.of {CX : CXT} {k : Nat} {f : Addr} {fd : FuncData} {ps : List Str} {sp : Sp} (F : FnOk P w K mg base CX k f fd ps sp) : FnG P w K mg base CX k f fd ps sp :=
  ⟨F.len, fun A outer s H args us vs Q E _ => F.run A outer s H args us vs Q E⟩

/-- a def by its body, where nothing is being shown -/
theorem ok_g {x qual : Str} {st : Stmt} {f : Addr} {fd : FuncData} {N ps : List Str} {k : Nat} {sp : Sp} (F : Fun K x qual st f fd) (S : FnScope N ps (defScope st)) (size : ∀ vs H Q E, sp vs H Q E → vs.length = ps.length)
    (body : ∀ (cdv : Value) (A : Around) (outer : List Env) (s : Shared) (H : Hp) (vs : List V) (Q : VK) (E : XK), A.guards = some [] → Room k (A.deeper (envOfC qual (defScope st) s.heap.objs.size f cdv)) → sp vs H Q E →
      ∃ t, PSs (cxOf CX0 P w K mg base N qual (defScope st) f cdv A outer s H E).nox (defBody st) t ∧ t { nx := fun _ H' => Q .non H', rt := Q } (start N vs) H) : FnG P w K mg base CX0 (k + 1) f fd ps sp := by
  obtain ⟨oc, od, kV, doc, pm, an, cdv, ct, osl, rfl, lk, hcd⟩ := F.ex
  constructor
  · exact size
  intro A outer s H args us vs Q E gA room e0 bnd rel hsp
  have inK : K.In s.heap := e0.mod.kin.keeps (fun b o q => (e0.bs b o q).1)
  have nolim := e0.mod.nolimit.keeps (fun b o q => (e0.bs b o q).1)
  obtain ⟨t, ht, hq⟩ := body cdv A outer s H vs Q E gA (room.deeper _) hsp
  refine codeAny_call_function room.depth (inK f _ lk) rfl S.co S.gen rfl (PySem.W.codeRec_of inK hcd) (bnd _ _ _ _ ?_)
  refine wpAny_newFunctionEnv_cells S.kind ?par (fun env he s1 inC => ?run)
  case par =>
    rintro ⟨n, v⟩ hy
    rcases S.par n (List.of_mem_zip hy).1 with q | q
    · exact Or.inl q
    · exact Or.inr ⟨q, PySem.W.cellsFrom_some _ _ _ (Or.inl q)⟩
  case run =>
    cases he
    refine And.intro (nolim.keeps inC.toInCall.keep) (codeAny_func ?_)
    have I0 := inv_start (CX := CX0) (P := P) (w := w) (K := K) (mg := mg) (base := base) (E := E) S room.hd e0 (size _ _ _ _ hsp) rel inC
    refine wpAny_mono (ht.nox.run [] s1 (start N vs) H _ I0 hq) ?_ (fun _ _ z => z)
    rintro fl s' hs
    have close : ∀ (σ' : L2.St) (H' : Hp) (v : V) (u : Value), Inv (cxOf CX0 P w K mg base N qual (defScope st) f cdv A outer s H E) [] σ' H' s' → RelV v u → Q v H' → CE outer P w H s Q u s' := by
      intro σ' H' v u J rv q
      exact ⟨v, H', J.os, J.bare, J.base, J.hok, rv, q⟩
    cases fl
    case ret u => obtain ⟨v, σ', H', J, rv, q⟩ := hs; exact close _ _ _ _ J rv q
    case next => obtain ⟨σ', H', J, q⟩ := hs; exact close _ _ V.non Value.none J rfl q
    case brk => obtain ⟨_, _, _, q⟩ := hs; exact q.elim
    case cont => obtain ⟨_, _, _, q⟩ := hs; exact q.elim
end

section
variable {X : Cx} {CX : CXT} {k : Nat} {f : Addr} {fd : FuncData} {ps : List Str} {sp : Sp} {E : XK} {x : Str} {p pos : Pos} {e : Expr} {es : List Expr} {t : TA}
/-- its call -/
theorem pe_callG (F : FnG X.prog X.w X.K X.mg X.base CX k f fd ps sp) (hg : X.A.guards = some []) (hr : Room k X.A) (gx : Gl X x) (hm : X.mg x = some (.ref f)) (hk : PySem.W.keepIn X.K (.ref f) = true) (hb : Binds X.K fd ps []) (hx : Passes CX X E)
    (ha : PA X (e :: es) t) (hdb : (x == ("__debug__" : Str)) = false := by decide) (he : starEach (e :: es) X.env = (false, eval e X.env) :: starEach es X.env := by rfl) (hpl : (backTo pos (starEach es X.env)).any (·.1) = false := by rfl) :
    PE X (.Call (.Name x p) (e :: es) [] pos) (tCall sp [] E t) := by
  constructor
  intro pins s σ H Q I h
  refine wpAny_Call_Name_kw (ld_glob I gx hm (PySem.W.callWith_K (h₀ := X.base) I.ok.mod.kin hk (thn (ha.run pos pins s σ H _ I h) ?_) he hpl) hdb)
  rintro us s1 ⟨vs, H1, I1, r, q⟩
  refine ⟨I1.kIn, ?_⟩
  have q' : sp vs H1 Q E := by simpa using q
  have hl : us.length = ps.length := by
    rw [← r.length]
    exact F.size _ _ _ _ q'
  have hB := hb s1 us I1.kIn (by simpa using hl)
  rw [List.append_nil] at hB
  refine wpAny_call (codeAny_mono (F.go X.A X.stack s1 H1 ⟨us, []⟩ us vs Q E hg hr I1.env0 hB r q') ?_)
  rintro (er | fl) s2 hq
  · exact hx pins σ H1 s1 er s2 I1 hq
  · cases fl
    case ret u => exact I1.after hq
    case next => exact hq.elim
    case brk => exact hq.elim
    case cont => exact hq.elim
end

/-- a comprehension without a test -/
theorem yes_then {σ : L2.St} {H : Hp} {A B : Hp → Prop} (h : A H) : tYes σ H (fun b H3 => if b = true then A H3 else B H3) := by
  show (if true = true then A H else B H)
  rw [if_pos rfl]
  exact h

/-! ### the law's own call -/
/-- the abstract heap in which the script alone is tracked, as it stands -/
def scriptHp (a : Addr) (o : Obj) (xs : List V) : Hp := fun b => if b = a then some (.frz o (.lst xs)) else none
theorem scriptHp_at {a : Addr} {o : Obj} {xs : List V} : scriptHp a o xs a = some (.frz o (.lst xs)) := if_pos rfl
theorem scriptHp_some {a b : Addr} {o : Obj} {xs : List V} {u : HO} (h : scriptHp a o xs b = some u) : b = a ∧ u = .frz o (.lst xs) := by
  unfold scriptHp at h
  split at h
  · rename_i e
    exact ⟨e, (Option.some.inj h).symm⟩
  · cases h

theorem ns_hid {h : Heap} {H : Hp} {b : Addr} {m : Str → Option Value} (q : h.Ns b m) (hb : H b = none) : (hidT h H).Ns b m := by
  obtain ⟨o, es, ep, e, r⟩ := q
  exact ⟨o, es, ep, hidT_get e hb, r⟩

theorem law_callG {P : Program} {w : World} {K : PySem.W.Frag} {mg mb : Str → Option Value} {k : Nat} {fa a : Addr} {fd : FuncData} {x : Str} {sp : Sp} {s₁ : Shared} {vs : List Value} {ns : List Int}
    (KX : K.In s₁.heap) (hns : s₁.heap.Ns mainGlobals mg) (hb : s₁.heap.Ns builtinsNs mb) (hbb : ∀ x : Str, x ≠ "__name__" → mb x = bootBuiltins x) (hlim : s₁.heap.NoLimit) (hg : s₁.gens = #[])
    (ha : s₁.heap.get? a = some { cls := .type "list", data := .seq vs.toArray }) (hi : IntsAre vs ns) (hl : ns.length ≤ sizeLine) (hr : Room k callerA)
    (F : ∀ base : Heap, K.In base → base.Ns mainGlobals mg → FnG P w K mg base CX0 k fa fd [x] sp) (hbind : ∀ (s : Shared) (u : Value), BindsTo s fd ⟨[u], []⟩ [(x, u)])
    (hsp : ∀ H : Hp, Only H → SqL K H a (ns.map V.int) → sp [.ref a] H (fun v _ => v = .bl true) fun _ _ _ => False) :
    codeAny (model P w) callerA (.call (.ref fa) ⟨[.ref a], []⟩) (fun r s' => r = .ok (.ret (.bool true)) ∧ OldK s₁.heap s'.heap ∧ s'.os = s₁.os ∧ AllBare s'.gens) s₁ := by
  have main : ∀ H : Hp, Only H → SqL K H a (ns.map V.int) → HOk P w H s₁.heap → (∀ b u, H b = some u → b = a ∧ K.lookup a = none) →
      codeAny (model P w) callerA (.call (.ref fa) ⟨[.ref a], []⟩) (fun r s' => r = .ok (.ret (.bool true)) ∧ OldK s₁.heap s'.heap ∧ s'.os = s₁.os ∧ AllBare s'.gens) s₁ := by
    intro H only seq ok one
    have free : ∀ b, (∀ o n, s₁.heap.get? b = some o → o.data ≠ .seq vs.toArray n) → H b = none := by
      intro b nb
      cases q : H b with
      | none => rfl
      | some u =>
        obtain ⟨rfl, _⟩ := one b u q
        exact absurd rfl (nb _ _ ha)
    have freeD : ∀ {b : Addr} {m : Str → Option Value}, s₁.heap.Ns b m → H b = none := by
      rintro b m ⟨o, es, ep, e, d, _⟩
      refine free b fun o' n e' d' => ?_
      rw [e] at e'
      cases e'
      rw [d] at d'
      cases d'
    have inB : K.In (hidT s₁.heap H) := by
      intro b o e
      refine hidT_get (KX b o e) ?_
      cases q : H b with
      | none => rfl
      | some u =>
        obtain ⟨rfl, z⟩ := one b u q
        rw [z] at e
        cases e
    have gB := ns_hid hns (freeD hns)
    have md : Mod K mg (hidT s₁.heap H) := by
      refine ⟨inB, gB, ⟨mb, ns_hid hb (freeD hb), hbb⟩, ?_⟩
      obtain ⟨mc, h1, h2⟩ := hlim
      exact ⟨mc, ns_hid h1 (freeD h1), h2⟩
    have start0 : Env0 P w K mg (hidT s₁.heap H) callerA [] s₁ H := by
      constructor
      · rfl
      · exact md
      · exact fun b o e => of_hidT e
      · exact Nat.le_of_eq (hidT_size _ _)
      · trivial
      · intro b hb
        exact absurd (show b ∈ ([] : List Addr) from hb) (by simp)
      · exact ok
      · exact .of_eq hg
    have run := (F _ inB gB).go callerA [] s₁ H ⟨[.ref a], []⟩ [.ref a] [.ref a] (fun v _ => v = .bl true) (fun _ _ _ => False) rfl hr start0 (hbind s₁ (.ref a)) (.cons rfl .nil) (hsp H only seq)
    refine codeAny_mono run ?_
    rintro (er | fl) s' h
    · exact False.elim h
    cases fl with
    | next => exact False.elim h
    | brk => exact False.elim h
    | cont => exact False.elim h
    | ret u =>
      obtain ⟨v, H', os, bare, un, ok', rv, q⟩ := h
      cases (show v = .bl true from q)
      cases (show u = Value.bool true from rv)
      refine ⟨rfl, OldK.of_keep ?_, os, bare⟩
      intro b o e
      cases z : H b with
      | none => exact un.keep b o e z (fun m => absurd (show b ∈ ([] : List Addr) from m) (by simp)) (by simp)
      | some u =>
        rcases only b with z' | ⟨ob, xs, z'⟩
        · rw [z] at z'
          cases z'
        · have e1 := (ok b _ z').1
          have e2 := (ok' b _ (un.frzs b ob _ z')).1
          rw [e] at e1
          rw [e1]
          exact e2
  have rv := vals_ints hi
  cases hk : K.lookup a with
  | some o =>
    have e := KX a o hk
    rw [ha] at e
    cases e
    refine main (fun _ => none) (fun _ => .inl rfl) (.inr ⟨_, vs.toArray, _, hk, rfl, rfl, rfl, ?_, by simpa using rv⟩) ?_ ?_
    · rw [List.size_toArray, hi.length]
      exact hl
    · intro b u z
      cases z
    · intro b u z
      cases z
  | none =>
    refine main (scriptHp a { cls := .type "list", data := .seq vs.toArray } (ns.map V.int)) ?_ (.inl (.inr ⟨_, scriptHp_at⟩)) ?_ ?_
    · intro b
      cases z : scriptHp a { cls := .type "list", data := .seq vs.toArray } (ns.map V.int) b with
      | none => exact .inl rfl
      | some u => exact .inr ⟨_, _, by rw [(scriptHp_some z).2]⟩
    · intro b u z
      obtain ⟨rfl, rfl⟩ := scriptHp_some z
      refine ⟨ha, ?_, vs, _, rv, ha⟩
      rw [List.length_map]
      exact hl
    · intro b u z
      exact ⟨(scriptHp_some z).1, hk⟩

theorem walk_g {l : PySem.W.OpenLaw} {n k : Nat} {q : Program} {loose : List Str} {XP : (Str → Option Value) → Heap → Prop} {YP : World → Heap → Prop} {d : DefRec} {K : Params → PySem.W.Frag} {sp : PySem.W.Frag → Sp} {x : Str}
    (hn : l.most = some n) (hn2 : n ≤ sizeLine) (hdf : d.params.defaults = []) (hr : Room k callerA)
    (hY : ∀ (w : World) (h : Heap), YP w h → (K w.params).In h)
    (F : ∀ (w : World) (mg : Str → Option Value) (fa : Addr) (h : Heap), (K w.params).In h → h.Ns mainGlobals mg → mg d.name = some (.ref fa) →
      ∃ fd : FuncData, (∀ (s : Shared) (u : Value), BindsTo s fd ⟨[u], []⟩ [(x, u)]) ∧
        ∀ base : Heap, (K w.params).In base → base.Ns mainGlobals mg → FnG l.prog w (K w.params) mg base CX0 k fa fd [x] (sp (K w.params)))
    (hsp : ∀ (K : PySem.W.Frag) (H : Hp) (a : Addr) (ns : List Int), ns.length ≤ n → Only H → SqL K H a (ns.map V.int) → sp K [.ref a] H (fun v _ => v = .bl true) fun _ _ _ => False) :
    PySem.W.WalkO q loose XP YP l.row.toRowW d [] (fun f vs => PySem.call f vs) := by
  apply Att.attach_call hn hdf
  intro w s₀ s₁ mg mb fa o pm cd doc a vs ns G Y ho hd hcd hmg hobj hints hlen hg
  obtain ⟨fd, bnd, keeps⟩ := F w mg fa _ (hY w _ Y) G.T.g hmg
  exact law_callG (hY w _ Y) G.T.g G.T.b G.T.builtins G.T.nolimit hg hobj hints (Nat.le_trans hlen hn2) hr keeps bnd (fun H => hsp _ H a ns hlen)
end GR

namespace L17
open PySem PySem.Spec PyProof.Rows L2 GR
abbrev LIM : Int := 1000000000000000000
def topS (i : Nat) : Stmt := PySem.Challenge.pw_lookdone_k17_what_is_a_log.main.body.getD i (.Pass ⟨0, 0, 0, 0⟩)
theorem same_upd {H : Hp} {p : Addr} {o : HO} (h : H p = none) : Same H (upd H p o) := fun b x e => by
  rw [upd_ne (ne_of_none e h)]
  exact e
theorem le2 : 2 ≤ sizeLine := by decide
theorem at0 {xs : List V} {v : V} : atI (v :: xs) 0 = some v := atI_nat (j := 0) rfl
theorem at1 {xs : List V} {v u : V} : atI (u :: v :: xs) 1 = some v := atI_nat (j := 1) rfl
theorem at2 {xs : List V} {v u t : V} : atI (t :: u :: v :: xs) 2 = some v := atI_nat (j := 2) rfl
theorem at3 {xs : List V} {v u t s : V} : atI (s :: t :: u :: v :: xs) 3 = some v := atI_nat (j := 3) rfl
/-! ### the law's deck -/
/-- the deck at d: the cells at c, a number, the count of draws, at most N -/
def Deck (H : Hp) (d c : Addr) (N : Int) : Prop := ∃ (cells : List Int) (m n : Int), H d = some (.lst [.ref c, .int m, .int n]) ∧ H c = some (.lst (cells.map V.int)) ∧ cells.length ≤ 63 ∧ 0 ≤ n ∧ n ≤ N
theorem Deck.ne {H : Hp} {d c : Addr} {N : Int} (h : Deck H d c N) : c ≠ d := by
  obtain ⟨cells, m, n, h1, h2, _⟩ := h
  rintro rfl
  rw [h1] at h2
  have e := HO.lst.inj (Option.some.inj h2)
  cases cells with
  | nil => cases e
  | cons x r =>
    have := (List.cons.inj e).1
    cases this
theorem Deck.mono {H : Hp} {d c : Addr} {N M : Int} (h : Deck H d c N) (hm : N ≤ M) : Deck H d c M := by
  obtain ⟨cells, m, n, h1, h2, h3, h4, h5⟩ := h
  exact ⟨cells, m, n, h1, h2, h3, h4, Int.le_trans h5 hm⟩
/-- all but the deck is as it was -/
def Keep (d c : Addr) (H H' : Hp) : Prop := ∀ b o, b ≠ d → b ≠ c → H b = some o → H' b = some o
theorem Keep.refl {d c : Addr} {H : Hp} : Keep d c H H := fun _ _ _ _ e => e
theorem Keep.trans {d c : Addr} {H H1 H2 : Hp} (a : Keep d c H H1) (b : Keep d c H1 H2) : Keep d c H H2 := fun x o h1 h2 e => b x o h1 h2 (a x o h1 h2 e)
theorem Keep.of {d c : Addr} {H H' : Hp} (s : Same H H') : Keep d c H H' := fun b o _ _ e => s b o e
theorem Deck.same {H H' : Hp} {d c : Addr} {N : Int} (h : Deck H d c N) (s : Same H H') : Deck H' d c N := by
  obtain ⟨cells, m, n, h1, h2, h3⟩ := h
  exact ⟨cells, m, n, s _ _ h1, s _ _ h2, h3⟩
/-- a tuple, a list that is not the deck's stays -/
theorem Keep.tup {d c p : Addr} {H H' : Hp} {N : Int} {xs : List V} (s : Keep d c H H') (D : Deck H d c N) (h : H p = some (.tup xs)) : H' p = some (.tup xs) := by
  obtain ⟨cells, m, n, h1, h2, _⟩ := D
  exact s p _ (ne_of h h1 (fun z => by cases z)) (ne_of h h2 (fun z => by cases z)) h
theorem dp_ints {K : PySem.W.Frag} {H : Hp} : ∀ ns : List Int, DpAll K H (ns.map V.int) (ns.map PyData.int)
  | [] => .nil
  | n :: ns => .cons (.int n) (dp_ints ns)
theorem lay_ints : ∀ ns : List Int, PyData.canLayAll0 (ns.map PyData.int) = true
  | [] => by simp only [List.map_nil, PyData.canLayAll0]
  | n :: ns => by simp only [List.map_cons, PyData.canLayAll0, PyData.canLay0, lay_ints ns, Bool.and_self]
theorem depth_ints : ∀ ns : List Int, PyData.depthAll (ns.map PyData.int) ≤ 1
  | [] => by simp only [List.map_nil, PyData.depthAll]; omega
  | n :: ns => by
    have := depth_ints ns
    simp only [List.map_cons, PyData.depthAll, PyData.depth]
    omega
theorem shaped_ints (ns : List Int) : SeqAt.shaped (.list (ns.map PyData.int)) = true := by
  have := depth_ints ns
  unfold SeqAt.shaped
  rw [Bool.and_eq_true]
  refine ⟨by simp only [PyData.canLay0, lay_ints], decide_eq_true ?_⟩
  simp only [PyData.depth]
  omega
theorem neq_nil : ∀ ns : List Int, (!PyData.eqv (.list (ns.map PyData.int)) (.list [])) = !ns.isEmpty
  | [] => by simp only [List.map_nil, PyData.eqv, PyData.eqvAll, List.isEmpty_nil]
  | n :: ns => by simp only [List.map_cons, PyData.eqv, PyData.eqvAll, List.isEmpty_cons]

def num1 (z n : Int) : Int := (z % 2147483629 + 7919 * (n + 1) * (n + 1) + 31) * 48271 % 2147483647
theorem num1_rng (z n : Int) : -(2 ^ 64) < num1 z n ∧ num1 z n < 2 ^ 64 := by
  unfold num1
  omega
def num2 (x n : Int) : Int := (x * x + 69621 * x + (n + 1)) % 2147483587
theorem num2_rng (x n : Int) : -(2 ^ 64) < num2 x n ∧ num2 x n < 2 ^ 64 := by
  unfold num2
  omega

section
variable {P : Program} {w : World} {K : PySem.W.Frag} {mg : Str → Option Value} {base : Heap}
abbrev s_law_draw : Stmt := topS 46
theorem sc_law_draw : FnScope ["_law_deck_here", "_law_most", "_law_cell", "_law_number"] ["_law_deck_here", "_law_most"] (defScope s_law_draw) := ⟨rfl, rfl, rfl, by decide +kernel, rfl, by decide +kernel, by decide +kernel⟩
def sp_draw : Sp := fun vs H Q _ => ∃ (d c : Addr) (N most : Int), vs = [.ref d, .int most] ∧ Deck H d c N ∧ N < 2 ^ 60 ∧ 0 < most ∧ most < 2 ^ 100 ∧
  ∀ H' r, Keep d c H H' → Deck H' d c (N + 1) → 0 ≤ r → r < most → Q (.int r) H'
theorem ok_draw {f : Addr} {fd : FuncData} {k : Nat} (F : Fun K "_law_draw" "_law_draw" s_law_draw f fd) :
    FnOk P w K mg base CX0 (k + 1) f fd ["_law_deck_here", "_law_most"] sp_draw := by
  have nd := sc_law_draw.nd
  refine F.ok sc_law_draw (fun vs H Q E h => ?_) (fun cdv A outer s H vs Q E hr h => ?_)
  · obtain ⟨d, c, N, most, rfl, _⟩ := h
    rfl
  obtain ⟨d, c, N, most, rfl, D, hN, hm0, hm1, q⟩ := h
  have hcd := D.ne
  obtain ⟨cells, m, n, hd, hc, hlen, hn0, hn1⟩ := D
  refine ⟨_, (pss_cons (ps_asg (pe_op op_add (pe_ix ix_list (pv 0) pe_int (fun _ _ => rfl)) pe_int) (pg_sub (pv 0) pe_int set_list))
      (pss_cons (ps_set (i := 2) nd rfl (.inl rfl) (pe_ix ix_list (pv 0) pe_int (fun _ _ => rfl)))
      (Evl.pss_cut (ps_if (pt_cmpR (op_neD hr.units) (pe_ix ix_list (pv 0) pe_int (fun _ _ => rfl)) (pe_lst pa_nil) (nomark _))
      (pss_cons (ps_set (i := 2) nd rfl (.inl rfl) (pe_bm0 PySem.F.plainAttrs_list PySem.F.slot_list_pop PySem.F.type_list_pop mt_pop (pe_ix ix_list (pv 0) pe_int (fun _ _ => rfl))))
        (pss_one (ps_if (pt_cmpR op_ge (pv 2) (pe_op op_pow pe_int pe_int) (nomark _))
        (pss_cons (ps_expr (pe_bm PySem.F.plainAttrs_list PySem.F.slot_list_append PySem.F.type_list_append mt_append (pe_ix ix_list (pv 0) pe_int (fun _ _ => rfl)) (pa_cons (pe_op op_fdivW (pv 2) (pv 1)) pa_nil)))
          (pss_one (ps_ret (pe_op op_mod (pv 2) (pv 1)))))
        pss_nil)))
      pss_nil)
      (pss_cons (ps_set (i := 3) nd rfl (.inl rfl) (pe_op op_mod (pe_op op_mul (pe_op op_add (pe_op op_add (pe_op op_mod (pv 2) pe_int) (pe_op op_mul (pe_op op_mul pe_int (pe_ix ix_list (pv 0) pe_int (fun _ _ => rfl))) (pe_ix ix_list (pv 0) pe_int (fun _ _ => rfl)))) pe_int) pe_int) pe_int))
      (pss_cons (ps_set (i := 3) nd rfl (.inl rfl) (pe_op op_mod (pe_op op_add (pe_op op_add (pe_op op_mul (pv 3) (pv 3)) (pe_op op_mul pe_int (pv 3))) (pe_ix ix_list (pv 0) pe_int (fun _ _ => rfl))) pe_int))
      (pss_one (ps_ret (pe_op op_mod (pe_op op_fdivW (pe_op op_mod (pe_op op_mul (pv 3) (pe_op op_add (pe_op op_fdivW (pv 3) pe_int) pe_int)) pe_int) pe_int) (pv 1))))))))), ?_⟩
  refine ⟨.ref d, rfl, d, _, 2, _, rfl, rfl, .inl (.inl hd), at2, _, _, rfl, rfl, .ref d, rfl, d, _, 2, 2, rfl, rfl, hd, rfl, ?_⟩
  -- the deck with one draw more
  have h1d : upd H d (.lst [.ref c, .int m, .int (n + 1)]) d = some (.lst [.ref c, .int m, .int (n + 1)]) := upd_same
  have h1c : upd H d (.lst [.ref c, .int m, .int (n + 1)]) c = some (.lst (cells.map V.int)) := by
    rw [upd_ne hcd]
    exact hc
  have k1 : Keep d c H (upd H d (.lst [.ref c, .int m, .int (n + 1)])) := fun b o nb _ e => by
    rw [upd_ne nb]
    exact e
  refine ⟨.ref d, rfl, d, _, 1, _, rfl, rfl, .inl (.inl h1d), at1, ?_⟩
  have wd : CDivW 0 most := wide_div hm0 (b := 100) (by omega) (by decide) (by decide)
  refine ⟨fun σ' H' => ∃ (z : Int) (cells' : List Int), σ' = [some (.ref d), some (.int most), some (.int z), none] ∧ Keep d c H H' ∧ H' d = some (.lst [.ref c, .int m, .int (n + 1)]) ∧ H' c = some (.lst (cells'.map V.int)) ∧ cells'.length ≤ 63, ?_, ?_⟩
  · refine ⟨.ref d, rfl, d, _, 0, _, rfl, rfl, .inl (.inl h1d), at0, Nat.zero_le _, fun e ne => ?_⟩
    have s2 : Same (upd H d (.lst [.ref c, .int m, .int (n + 1)])) (upd (upd H d (.lst [.ref c, .int m, .int (n + 1)])) e (.lst [])) := same_upd ne
    have h2d := s2 _ _ h1d
    have h2c := s2 _ _ h1c
    have k2 := k1.trans (Keep.of s2)
    refine ⟨_, _, .lst (.inl (.inl h2c)) (dp_ints cells), .lst (.inl (.inl upd_same)) .nil, shaped_ints cells, shaped_ints [], _, rfl, ?_⟩
    rw [neq_nil]
    cases hcs : cells with
    | nil => exact iteF ⟨m, cells, rfl, k2, h2d, h2c, hlen⟩
    | cons x0 r0 =>
      refine iteT ?_
      have hne : cells ≠ [] := by
        rw [hcs]
        exact List.cons_ne_nil _ _
      have hlast : (cells.map V.int)[(cells.map V.int).length - 1]? = some (.int (cells.getLast hne)) := by
        rw [List.length_map, List.getElem?_map, ← List.getLast?_eq_getElem?, List.getLast?_eq_getLast hne]
        rfl
      refine ⟨.ref d, rfl, d, _, 0, _, rfl, rfl, .inl (.inl h2d), at0, .inl ⟨rfl, _, .inl (.inl h2c)⟩, c, _, _, rfl, rfl, h2c, hlast, ?_⟩
      have hdrop : (cells.map V.int).dropLast = cells.dropLast.map V.int := by rw [List.map_dropLast]
      rw [hdrop]
      have h3d : upd (upd (upd H d (.lst [.ref c, .int m, .int (n + 1)])) e (.lst [])) c (.lst (cells.dropLast.map V.int)) d = some (.lst [.ref c, .int m, .int (n + 1)]) := by
        rw [upd_ne hcd.symm]
        exact h2d
      have h3c : upd (upd (upd H d (.lst [.ref c, .int m, .int (n + 1)])) e (.lst [])) c (.lst (cells.dropLast.map V.int)) c = some (.lst (cells.dropLast.map V.int)) := upd_same
      have k3 : Keep d c H (upd (upd (upd H d (.lst [.ref c, .int m, .int (n + 1)])) e (.lst [])) c (.lst (cells.dropLast.map V.int))) := fun b o n1 n2 e1 => by
        rw [upd_ne n2]
        exact k2 b o n1 n2 e1
      have l3 : cells.dropLast.length + 1 ≤ 63 := by
        rw [List.length_dropLast, hcs, List.length_cons]
        rw [hcs, List.length_cons] at hlen
        omega
      generalize cells.getLast hne = z
      refine ⟨.int z, rfl, _, _, rfl, rfl, ⟨by decide, by decide, by decide⟩, _, _, rfl, rfl, _, rfl, ite2 (fun e5 => ?_) (fun e5 => ?_)⟩
      · refine ⟨.ref d, rfl, d, _, 0, _, rfl, rfl, .inl (.inl h3d), at0, .inl ⟨rfl, _, .inl (.inl h3c)⟩, .int z, rfl, .int most, rfl, z, most, rfl, rfl, wd, c, _, _, rfl, rfl, h3c, ?_, ?_⟩
        · rw [List.length_map]
          exact small1000 (by omega)
        · refine ⟨.int z, rfl, .int most, rfl, z, most, rfl, rfl, hm0, ?_⟩
          refine q _ _ ?_ ?_ (Int.emod_nonneg _ (by omega)) (Int.emod_lt_of_pos _ hm0)
          · intro b o n1 n2 e1
            rw [upd_ne n2]
            exact k3 b o n1 n2 e1
          · refine ⟨cells.dropLast ++ [z / most], m, n + 1, ?_, ?_, ?_, by omega, by omega⟩
            · rw [upd_ne hcd.symm]
              exact h3d
            · rw [upd_same, List.map_append]
              rfl
            · rw [List.length_append, List.length_singleton]
              exact l3
      · exact ⟨z, cells.dropLast, rfl, k3, h3d, h3c, by omega⟩
  · rintro σ' H' ⟨z, cells', rfl, kk, h5d, h5c, hl5⟩
    have hn2 : -(2 ^ 64) < n + 1 ∧ n + 1 < 2 ^ 64 := by omega
    refine ⟨.int z, rfl, z, 2147483629, rfl, rfl, (show (0 : Int) < 2147483629 by decide), .ref d, rfl, d, _, 2, _, rfl, rfl, .inl (.inl h5d), at2, 7919, n + 1, rfl, rfl, .inl ⟨by decide, by decide⟩, .ref d, rfl, d, _, 2, _, rfl, rfl, .inl (.inl h5d), at2, 7919 * (n + 1), n + 1, rfl, rfl, .inr hn2, _, _, rfl, rfl, _, _, rfl, rfl, _, 48271, rfl, rfl, .inr ⟨by decide, by decide⟩, _, 2147483647, rfl, rfl, (show (0 : Int) < 2147483647 by decide), ?_⟩
    have b1 := num1_rng z n
    refine ⟨.int (num1 z n), rfl, .int (num1 z n), rfl, num1 z n, num1 z n, rfl, rfl, .inl b1, .int (num1 z n), rfl, 69621, num1 z n, rfl, rfl, .inr b1, _, _, rfl, rfl, .ref d, rfl, d, _, 2, _, rfl, rfl, .inl (.inl h5d), at2, _, _, rfl, rfl, _, 2147483587, rfl, rfl, (show (0 : Int) < 2147483587 by decide), ?_⟩
    have b2 := num2_rng (num1 z n) n
    refine ⟨.int (num2 (num1 z n) n), rfl, .int (num2 (num1 z n) n), rfl, num2 (num1 z n) n, 5, rfl, rfl, ⟨by decide, by decide⟩, _, _, rfl, rfl, num2 (num1 z n) n, _, rfl, rfl, .inl b2, _, 2147483579, rfl, rfl, (show (0 : Int) < 2147483579 by decide), _, 64, rfl, rfl, ⟨by decide, by decide⟩, .int most, rfl, _, most, rfl, rfl, hm0, ?_⟩
    exact q _ _ kk ⟨cells', m, n + 1, h5d, h5c, hl5, by omega, by omega⟩ (Int.emod_nonneg _ (by omega)) (Int.emod_lt_of_pos _ hm0)
end
theorem Keep.seq {K : PySem.W.Frag} {d c a : Addr} {H H' : Hp} {xs : List V} (s : Keep d c H H') (h : SqL K H a xs) (h1 : a ≠ d) (h2 : a ≠ c) : SqL K H' a xs := by
  rcases h with (h | ⟨o, h⟩) | h
  · exact .inl (.inl (s _ _ h1 h2 h))
  · exact .inl (.inr ⟨o, s _ _ h1 h2 h⟩)
  · exact .inr h
theorem cut63 (ns : List Int) : ∃ ms : List Int, cutV (ns.map V.int) none (some 63) = ms.map V.int ∧ ms.length ≤ 63 := by
  refine ⟨ns.take (min 63 ns.length), ?_, ?_⟩
  · unfold cutV
    rw [HT.sIx_none, show HT.sIx (ns.map V.int).length (ns.map V.int).length (some 63) = min 63 (ns.map V.int).length from HT.sIx_nat _ _ 63, List.drop_zero, List.map_take, List.length_map, Nat.sub_zero]
  · rw [List.length_take]
    omega
theorem small_le {n : Nat} (h : n ≤ 1000) : n ≤ sizeLine := Nat.le_of_lt (small1000 h)
section
variable {P : Program} {w : World} {K : PySem.W.Frag} {mg : Str → Option Value} {base : Heap}
abbrev s_law_deck : Stmt := topS 45
theorem sc_law_deck : FnScope ["_law_script", "_law_cells"] ["_law_script"] (defScope s_law_deck) := ⟨rfl, rfl, rfl, by decide +kernel, rfl, by decide +kernel, by decide +kernel⟩
def sp_deck (K : PySem.W.Frag) : Sp := fun vs H Q _ => ∃ (a : Addr) (ns : List Int), vs = [.ref a] ∧ SqL K H a (ns.map V.int) ∧ ∀ H' d c, Same H H' → H d = none → Deck H' d c 0 → Q (.ref d) H'
theorem ok_deck {f : Addr} {fd : FuncData} {k : Nat} (F : Fun K "_law_deck" "_law_deck" s_law_deck f fd) (mlist : mg "list" = none) (msum : mg "sum" = none) (mlen : mg "len" = none) :
    FnOk P w K mg base CX0 (k + 1) f fd ["_law_script"] (sp_deck K) := by
  have nd := sc_law_deck.nd
  refine F.ok sc_law_deck (fun vs H Q E h => ?_) (fun cdv A outer s H vs Q E hr h => ?_)
  · obtain ⟨a, ns, rfl, _⟩ := h
    rfl
  obtain ⟨a, ns, rfl, hS, q⟩ := h
  obtain ⟨ms, hms, hl⟩ := cut63 ns
  refine ⟨_, (pss_cons (ps_set (i := 1) nd rfl (.inl rfl) (pe_callTy call_list_of (by rfl) mlist boot_list (pa_cons (pe_slice sl_list (pv 0) po_none (po_some pe_int)) pa_nil)))
      (pss_one (ps_ret (pe_lst (pa_cons (pe_revL (pv 1)) (pa_cons (pe_op op_add (pe_op op_mod (pe_callB (cr_sum rfl) (by rfl) msum boot_sum (pa_cons (pv 1) pa_nil)) pe_int) (pe_op op_mul pe_int (pe_callB call_len_seq (by rfl) mlen PySem.boot_len (pa_cons (pv 1) pa_nil)))) (pa_cons pe_int pa_nil))))))), ?_⟩
  refine ⟨.ref a, rfl, 63, rfl, a, _, rfl, hS, fun p np => ?_⟩
  rw [hms]
  have s1 : Same H (upd H p (.lst (ms.map V.int))) := same_upd np
  refine ⟨p, _, rfl, .inl (.inl (.inl upd_same)), fun l nl => ?_⟩
  have s2 := same_upd (o := .lst (ms.map V.int)) nl
  have hl2 : SqL K (upd (upd H p (.lst (ms.map V.int))) l (.lst (ms.map V.int))) l (ms.map V.int) := .inl (.inl upd_same)
  refine ⟨.ref l, rfl, l, _, rfl, hl2, fun c nc => ?_⟩
  have s3 := same_upd (o := .lst (ms.map V.int).reverse) nc
  refine ⟨.ref l, rfl, l, ms, rfl, s3.seq hl2, _, 2147483629, rfl, rfl, (show (0 : Int) < 2147483629 by decide), .ref l, rfl, l, _, rfl, .inl (s3.seq hl2), 48271, _, rfl, rfl, .inl ⟨by decide, by decide⟩, _, _, rfl, rfl, small_le (show 3 ≤ 1000 by decide), fun d nd' => ?_⟩
  refine q _ d c ((s1.trans s2).trans (s3.trans (same_upd nd'))) ?_ ?_
  · exact s1.free (s2.free (s3.free nd'))
  · refine ⟨ms.reverse, _, 0, upd_same, ?_, ?_, Int.le_refl 0, Int.le_refl 0⟩
    · have : c ≠ d := ne_of_none (show upd _ c _ c = _ from upd_same) nd'
      rw [upd_ne this, upd_same, List.map_reverse]
    · rw [List.length_reverse]
      exact hl
end
theorem Deck.new {H : Hp} {d c a : Addr} {N : Int} (D : Deck H d c N) (na : H a = none) : a ≠ d ∧ a ≠ c := by
  obtain ⟨cells, m, n, h1, h2, _⟩ := D
  exact ⟨(ne_of_none h1 na).symm, (ne_of_none h2 na).symm⟩
theorem Keep.free {d c a : Addr} {H H' : Hp} (s : Keep d c H H') (na : H' a = none) (h1 : a ≠ d) (h2 : a ≠ c) : H a = none := by
  cases q : H a with
  | none => rfl
  | some o =>
    rw [s a o h1 h2 q] at na
    cases na
end L17

namespace L17
open PySem PySem.Spec PyProof.Rows L2 GR
abbrev L26 : Str := "abcdefghijklmnopqrstuvwxyz"
def sgn (c : Nat) : Str := ⟨#[c]⟩
theorem l26_len : L26.length = 26 := by decide
theorem l26_at : ∀ k, k < 26 → L26.cps.toList[k]? = some (97 + k) := by decide
theorem l26_occ : ∀ k, k < 26 → Builtin.Str.occurrences L26 (sgn (97 + k)) 0 L26.length 1 = [k] := by decide +kernel
def Low (c : Nat) : Prop := 97 ≤ c ∧ c ≤ 122
/-- the words that are no names -/
def barred : List Str := ["key", "if", "at", "count", "sum", "most", "first", "let", "need", "put", "each", "tell"]
/-- a name -/
def Nm (z : Str) : Prop := 1 ≤ z.cps.toList.length ∧ z.cps.toList.length ≤ 8 ∧ (∀ c, c ∈ z.cps.toList → Low c) ∧ z ∉ barred
theorem nm_lit {z : Str} (h : (decide (1 ≤ z.cps.toList.length) && decide (z.cps.toList.length ≤ 8) && z.cps.toList.all (fun c => decide (97 ≤ c) && decide (c ≤ 122)) && decide (z ∉ barred)) = true) : Nm z := by
  simp only [Bool.and_eq_true, decide_eq_true_eq, List.all_eq_true] at h
  obtain ⟨⟨⟨h1, h2⟩, h3⟩, h4⟩ := h
  exact ⟨h1, h2, fun c hc => h3 c hc, h4⟩
theorem barred_q : ∀ z, z ∈ barred → z.cps.toList.head? ≠ some 113 := by decide
/-- the text of single signs, joined -/
theorem join_signs : ∀ cs : List Nat, (Txt.join Str.empty (cs.map sgn)).cps.toList = cs := by
  intro cs
  have hj : ∀ cs : List Nat, TL.joinL [] (cs.map fun c => [c]) = cs := by
    intro cs
    induction cs with
    | nil => rfl
    | cons a r ih =>
      cases r with
      | nil => rfl
      | cons b r =>
        show [a] ++ ([] ++ TL.joinL [] ((b :: r).map fun c => [c])) = a :: b :: r
        rw [ih]
        rfl
  have := TL.tl_join Str.empty (cs.map sgn)
  rw [List.map_map] at this
  rw [TL.join_eq]
  exact this.trans (hj cs)
section
variable {P : Program} {w : World} {K : PySem.W.Frag} {mg : Str → Option Value} {base : Heap}
abbrev s_law_pick : Stmt := topS 47
theorem sc_law_pick : FnScope ["_law_deck_here", "_law_some"] ["_law_deck_here", "_law_some"] (defScope s_law_pick) := ⟨rfl, rfl, rfl, by decide +kernel, rfl, by decide +kernel, by decide +kernel⟩
/-- a pick from a list, or from the letters -/
def sp_pick (K : PySem.W.Frag) : Sp := fun vs H Q _ =>
  (∃ (d c a : Addr) (N : Int) (xs : List V), vs = [.ref d, .ref a] ∧ Deck H d c N ∧ N < 2 ^ 60 ∧ SqL K H a xs ∧ xs ≠ [] ∧ xs.length ≤ 1000 ∧ a ≠ d ∧ a ≠ c ∧ ∀ H' v, Keep d c H H' → Deck H' d c (N + 1) → v ∈ xs → Q v H') ∨
  (∃ (d c : Addr) (N : Int), vs = [.ref d, .str L26] ∧ Deck H d c N ∧ N < 2 ^ 60 ∧ ∀ H' k, Keep d c H H' → Deck H' d c (N + 1) → k < 26 → Q (.str (sgn (97 + k))) H')
theorem ok_pick {f f_law_draw : Addr} {fd fd_law_draw : FuncData} {k : Nat} (F : Fun K "_law_pick" "_law_pick" s_law_pick f fd) (G_law_draw : FnOk P w K mg base CX0 k f_law_draw fd_law_draw ["_law_deck_here", "_law_most"] sp_draw)
    (g_law_draw : mg "_law_draw" = some (.ref f_law_draw)) (K_law_draw : PySem.W.keepIn K (.ref f_law_draw) = true) (b_law_draw : Binds K fd_law_draw ["_law_deck_here", "_law_most"] []) (mlen : mg "len" = none) :
    FnOk P w K mg base CX0 (k + 1) f fd ["_law_deck_here", "_law_some"] (sp_pick K) := by
  have nd := sc_law_pick.nd
  refine F.ok sc_law_pick (fun vs H Q E h => ?_) (fun cdv A outer s H vs Q E hr h => ?_)
  · rcases h with ⟨d, c, a, N, xs, rfl, _⟩ | ⟨d, c, N, rfl, _⟩ <;> rfl
  refine ⟨_, (pss_one (ps_ret (pe_ix ix_seq (pv 1) (pe_call G_law_draw hr (by rfl) g_law_draw K_law_draw b_law_draw .nil pass0 (pa_cons (pv 0) (pa_cons (pe_callB call_len (by rfl) mlen PySem.boot_len (pa_cons (pv 1) pa_nil)) pa_nil))) (fun _ _ => rfl)))), ?_⟩
  rcases h with ⟨d, c, a, N, xs, rfl, D, hN, hS, hne, hlen, had, hac, q⟩ | ⟨d, c, N, rfl, D, hN, q⟩
  · have hpos : 0 < xs.length := List.length_pos_iff.mpr hne
    refine ⟨.ref a, rfl, .ref d, rfl, .ref a, rfl, .ref a, xs.length, rfl, .inl ⟨xs, hS, rfl⟩, d, c, N, (xs.length : Int), rfl, D, hN, by omega, by omega, fun H' r kp D' r0 r1 => ?_⟩
    obtain ⟨j, rfl⟩ := Int.eq_ofNat_of_zero_le r0
    have hj : j < xs.length := by omega
    exact .inl ⟨a, xs, j, xs[j], rfl, rfl, kp.seq hS had hac, atI_nat (List.getElem?_eq_getElem hj), q H' _ kp D' (List.getElem_mem hj)⟩
  · refine ⟨.str L26, rfl, .ref d, rfl, .str L26, rfl, .str L26, 26, rfl, ⟨by rw [l26_len]; decide, l26_len.symm⟩, d, c, N, 26, rfl, D, hN, by decide, by decide, fun H' r kp D' r0 r1 => ?_⟩
    obtain ⟨j, rfl⟩ := Int.eq_ofNat_of_zero_le r0
    have hj : j < 26 := by omega
    exact .inr (.inr ⟨L26, j, 97 + j, rfl, rfl, by rw [l26_len]; decide, atI_nat (l26_at j hj), q H' j kp D' hj⟩)
end
end L17

namespace L17
open PySem PySem.Spec PyProof.Rows L2 GR
/-- lists of texts of single signs -/
def sg (cs : List Nat) : List V := (cs.map sgn).map V.str
theorem sg_length (cs : List Nat) : (sg cs).length = cs.length := by
  unfold sg
  rw [List.length_map, List.length_map]
theorem sg_snoc (cs : List Nat) (c : Nat) : sg cs ++ [V.str (sgn c)] = sg (cs ++ [c]) := by
  unfold sg
  simp
theorem sg_set (cs : List Nat) (i c : Nat) : (sg cs).set i (V.str (sgn c)) = sg (cs.set i c) := by
  unfold sg
  rw [List.map_set, List.map_set]
theorem sg_get {cs : List Nat} {i c : Nat} (h : cs[i]? = some c) : (sg cs)[i]? = some (V.str (sgn c)) := by
  unfold sg
  rw [List.getElem?_map, List.getElem?_map, h]
  rfl
theorem nm_signs {z : Str} {cs : List Nat} (hz : z.cps.toList = 113 :: cs) (h0 : cs.length ≤ 7) (hl : ∀ c, c ∈ cs → Low c) : Nm z := by
  refine ⟨by rw [hz]; simp, by rw [hz, List.length_cons]; omega, ?_, fun hb => ?_⟩
  · rw [hz]
    intro c hc
    rcases List.mem_cons.mp hc with rfl | hc
    · exact ⟨by decide, by decide⟩
    · exact hl c hc
  · have := barred_q z hb
    rw [hz] at this
    exact this rfl
theorem sgn_length (cs : List Nat) : ((cs.map sgn).map (·.length)).sum = cs.length := by
  induction cs with
  | nil => rfl
  | cons c r ih =>
    rw [List.map_cons, List.map_cons, List.sum_cons, ih, List.length_cons]
    show 1 + r.length = r.length + 1
    omega
section
variable {P : Program} {w : World} {K : PySem.W.Frag} {mg : Str → Option Value} {base : Heap}
abbrev s_law_names : Stmt := topS 48
abbrev N_names : List Str := ["_law_deck_here", "_law_many", "_law_letters", "_law_k", "_law_word", "_law_at", "_law_first", "_law_found"]
theorem sc_law_names : FnScope N_names ["_law_deck_here", "_law_many"] (defScope s_law_names) := ⟨rfl, rfl, rfl, by decide +kernel, rfl, by decide +kernel, by decide +kernel⟩
/-- a new list of names -/
def sp_names : Sp := fun vs H Q _ => ∃ (d c : Addr) (N : Int) (many : Nat), vs = [.ref d, .int (many : Int)] ∧ Deck H d c N ∧ N < 2 ^ 55 ∧ many ≤ 100 ∧
  ∀ H' p (zs : List Str), Keep d c H H' → Deck H' d c (N + 20) → H p = none → H' p = some (.lst (zs.map V.str)) → zs.length = many → (∀ z, z ∈ zs → Nm z) → Q (.ref p) H'
theorem ok_names {f f_law_draw f_law_pick : Addr} {fd fd_law_draw fd_law_pick : FuncData} {k : Nat} (F : Fun K "_law_names" "_law_names" s_law_names f fd) (G_law_draw : FnOk P w K mg base CX0 k f_law_draw fd_law_draw ["_law_deck_here", "_law_most"] sp_draw)
    (g_law_draw : mg "_law_draw" = some (.ref f_law_draw)) (K_law_draw : PySem.W.keepIn K (.ref f_law_draw) = true) (b_law_draw : Binds K fd_law_draw ["_law_deck_here", "_law_most"] [])
    (G_law_pick : FnOk P w K mg base CX0 k f_law_pick fd_law_pick ["_law_deck_here", "_law_some"] (sp_pick K))
    (g_law_pick : mg "_law_pick" = some (.ref f_law_pick)) (K_law_pick : PySem.W.keepIn K (.ref f_law_pick) = true) (b_law_pick : Binds K fd_law_pick ["_law_deck_here", "_law_some"] [])
    (mrange : mg "range" = none) (mlen : mg "len" = none) : FnOk P w K mg base CX0 (k + 1) f fd ["_law_deck_here", "_law_many"] sp_names := by
  have nd := sc_law_names.nd
  refine F.ok sc_law_names (fun vs H Q E h => ?_) (fun cdv A outer s H vs Q E hr h => ?_)
  · obtain ⟨d, c, N, many, rfl, _⟩ := h
    rfl
  obtain ⟨d, c, N, many, rfl, D, hN, hmany, q⟩ := h
  refine ⟨_, (pss_cons (ps_set (i := 2) nd rfl (.inr rfl) pe_str)
      (Evl.pss_cut (ps_set (i := 4) nd rfl (.inl rfl) (pe_op op_cat (pe_lst (pa_cons pe_str pa_nil)) (pe_lc (own := [("_law_k", 3)]) rfl nd (pi_range1 rfl mrange (pa_cons (pe_op op_add pe_int (pe_call G_law_draw hr (by rfl) g_law_draw K_law_draw b_law_draw .nil pass0 (pa_cons (pv 0) (pa_cons pe_int pa_nil)))) pa_nil)) (blkOk_by (N := N_names) (sc := defScope s_law_names) (by decide +kernel)) (fun _ _ _ _ _ => (pg_name (i := 3) nd rfl (Or.inl rfl))) (fun _ _ _ _ _ => pts_nil)
          (te := tCall (sp_pick K) [] E0 (tCons (tVar 0) (tCons (tVar 2) tNil)))
          (fun _ _ _ _ _ => (pe_call G_law_pick hr (by rfl) g_law_pick K_law_pick b_law_pick .nil pass0 (pa_cons (pv 0) (pa_cons (pv 2) pa_nil)))))))
      (pss_cons (ps_set (i := 5) nd rfl (.inl rfl) (pe_op op_add pe_int (pe_call G_law_draw hr (by rfl) g_law_draw K_law_draw b_law_draw .nil pass0 (pa_cons (pv 0) (pa_cons (pe_op op_sub (pe_callB call_len_seq (by rfl) mlen PySem.boot_len (pa_cons (pv 4) pa_nil)) pe_int) pa_nil)))))
      (pss_cons (ps_set (i := 6) nd rfl (.inl rfl) (pe_bm PySem.F.plainAttrs_str PySem.F.slot_str_index PySem.F.type_str_index mt_sindex (pv 2) (pa_cons (pe_ix ix_list (pv 4) (pv 5) (fun _ _ => rfl)) pa_nil)))
      (pss_cons (ps_set (i := 7) nd rfl (.inl rfl) (pe_lst pa_nil))
      (pss_cons (ps_for PassesOwn.never rfl (pi_range1 rfl mrange (pa_cons (pv 1) pa_nil)) (pg_name (i := 3) nd rfl (Or.inl rfl))
      (pss_cons (ps_asg (pe_ix ix_str (pv 2) (pe_op op_mod (pe_op op_add (pv 6) (pv 3)) pe_int) (fun _ _ => rfl)) (pg_sub (pv 4) (pv 5) set_list))
        (pss_one (ps_expr (pe_bm PySem.F.plainAttrs_list PySem.F.slot_list_append PySem.F.type_list_append mt_append (pv 7) (pa_cons (pe_join pe_str (pv 4)) pa_nil))))))
      (pss_one (ps_ret (pv 7))))))))), ?_⟩
  -- word = ['q'] + [..]
  refine ⟨fun σ' H' => ∃ wd cs, σ' = [some (.ref d), some (.int (many : Int)), some (.str L26), none, some (.ref wd), none, none, none] ∧ Keep d c H H' ∧ Deck H' d c (N + 8) ∧ H wd = none ∧ wd ≠ d ∧ wd ≠ c ∧ H' wd = some (.lst (sg (113 :: cs))) ∧ 1 ≤ cs.length ∧ cs.length ≤ 7 ∧ (∀ x, x ∈ cs → Low x), ?_, ?_⟩
  · refine ⟨Nat.le_of_lt (small1000 (show 1 ≤ 1000 by decide)), fun l nl => ?_⟩
    have sl := same_upd (o := .lst [.str "q"]) nl
    have D1 := D.same sl
    have hl := D.new nl
    have hl1 : upd H l (.lst [.str "q"]) l = some (.lst [.str "q"]) := upd_same
    refine ⟨.ref d, rfl, d, c, N, 7, rfl, D1, by omega, by decide, by decide, fun H1 r k1 D2 r0 r1 => ?_⟩
    obtain ⟨n, rfl⟩ := Int.eq_ofNat_of_zero_le r0
    refine ⟨1, (n : Int), rfl, rfl, 1 + (n : Int), rfl, by omega, by omega, fun B nB => ?_⟩
    have hB := D2.new nB
    have nlB : l ≠ B := ne_of_none (k1 _ _ hl.1 hl.2 hl1) nB
    have e1n : (1 + (n : Int)).toNat = n + 1 := by omega
    rw [e1n]
    refine lc_range (n := n + 1) (fun i H' => ∃ cs, cs.length = i ∧ (∀ x, x ∈ cs → Low x) ∧ H' B = some (.lst (sg cs)) ∧ (∀ b o, b ≠ d → b ≠ c → b ≠ B → H1 b = some o → H' b = some o) ∧ Deck H' d c (N + 1 + (i : Int))) ?_ ?_ ?_
    · refine ⟨[], rfl, fun x hx => (nomatch hx), upd_same, fun b o _ _ nb e => by rw [upd_ne nb]; exact e, ?_⟩
      exact (D2.same (same_upd nB)).mono (by omega)
    · rintro i H3 hi ⟨cs, hlen, hlow, hB3, k3, D3⟩
      refine ⟨rfl, yes_then ⟨.ref d, rfl, .str L26, rfl, .inr ⟨d, c, _, rfl, D3, by omega, fun H4 j k4 D4 hj => ?_⟩⟩⟩
      refine ⟨_, k4 _ _ hB.1 hB.2 hB3, ?_, cs ++ [97 + j], ?_, ?_, ?_, ?_, ?_⟩
      · rw [sg_length]
        exact small1000 (by omega)
      · rw [List.length_append, hlen]
        rfl
      · intro x hx
        rcases List.mem_append.mp hx with hx | hx
        · exact hlow x hx
        · rw [List.mem_singleton.mp hx]
          unfold Low
          omega
      · rw [upd_same, sg_snoc]
      · intro b o n1 n2 n3 e
        rw [upd_ne n3]
        exact k4 _ _ n1 n2 (k3 b o n1 n2 n3 e)
      · obtain ⟨cells, m, x, g1, g2, g3, g4, g5⟩ := D4
        refine ⟨cells, m, x, ?_, ?_, g3, g4, by omega⟩
        · rw [upd_ne hB.1.symm]
          exact g1
        · rw [upd_ne hB.2.symm]
          exact g2
    · rintro H3 ⟨cs, hlen, hlow, hB3, k3, D3⟩
      have hl3 := k3 _ _ hl.1 hl.2 nlB (k1 _ _ hl.1 hl.2 hl1)
      refine ⟨l, B, _, _, rfl, rfl, hl3, hB3, ?_, fun wd nwd => ?_⟩
      · rw [sg_length]
        exact small_le (show 1 + cs.length ≤ 1000 by omega)
      have hw := D3.new nwd
      have sw := same_upd (o := .lst ([.str "q"] ++ sg cs)) nwd
      refine ⟨wd, cs, rfl, ?_, (D3.same sw).mono (by omega), ?_, hw.1, hw.2, ?_, by omega, by omega, hlow⟩
      · intro b o n1 n2 e
        refine sw _ _ (k3 b o n1 n2 ?_ (k1 _ _ n1 n2 (sl _ _ e)))
        exact ne_of_none (k1 _ _ n1 n2 (sl _ _ e)) nB
      · cases e : H wd with
        | none => rfl
        | some o =>
          have nb := ne_of_none (k1 _ _ hw.1 hw.2 (sl _ _ e)) nB
          rw [k3 wd o hw.1 hw.2 nb (k1 _ _ hw.1 hw.2 (sl _ _ e))] at nwd
          cases nwd
      · exact upd_same
  rintro σ' H1 ⟨wd, cs, rfl, k1, D1, nwd, hwd, hwc, hw1, c1, c7, hlow⟩
  -- at, first
  refine ⟨.ref d, rfl, .ref wd, rfl, wd, _, rfl, .inl (.inl (.inl hw1)), _, 1, rfl, rfl, d, c, N + 8, ((sg (113 :: cs)).length : Int) - 1, rfl, D1, by omega, ?_, ?_, fun H2 r k2 D2 r0 r1 => ⟨_, _, rfl, rfl, ?_⟩⟩
  · rw [sg_length, List.length_cons]
    omega
  · rw [sg_length, List.length_cons]
    omega
  rw [sg_length, List.length_cons] at r1
  obtain ⟨j, rfl⟩ := Int.eq_ofNat_of_zero_le r0
  have hj : j < cs.length := by omega
  have hw2 := k2 _ _ hwd hwc hw1
  have hcj : (113 :: cs)[j + 1]? = some cs[j] := by
    rw [List.getElem?_cons_succ]
    exact List.getElem?_eq_getElem hj
  have hlj := hlow _ (List.getElem_mem hj)
  obtain ⟨m, hm, hm26⟩ : ∃ m, cs[j] = 97 + m ∧ m < 26 := ⟨cs[j] - 97, by unfold Low at hlj; omega, by unfold Low at hlj; omega⟩
  refine ⟨.str L26, rfl, rfl, .ref wd, rfl, .int (1 + (j : Int)), rfl, wd, _, 1 + (j : Int), .str (sgn (97 + m)), rfl, rfl, .inl (.inl hw2), at_of (j := j + 1) (by omega) (by rw [sg_get hcj, hm]), L26, sgn (97 + m), m, [], rfl, rfl, l26_occ m hm26, ?_⟩
  refine ⟨Nat.zero_le _, fun fo nfo => ?_⟩
  have sf := same_upd (o := .lst []) nfo
  have hfo := D2.new nfo
  have nwf : wd ≠ fo := ne_of_none hw2 nfo
  refine ⟨.int (many : Int), rfl, (many : Int), rfl, by omega, by omega, ?_⟩
  have emany : ((many : Int)).toNat = many := by omega
  rw [emany]
  refine for_range (n := many) (fun i σ H' => ∃ (y3 : Option V) (cs' : List Nat) (zs : List Str), σ = [some (.ref d), some (.int (many : Int)), some (.str L26), y3, some (.ref wd), some (.int (1 + (j : Int))), some (.int (m : Int)), some (.ref fo)] ∧ H' wd = some (.lst (sg (113 :: cs'))) ∧ cs'.length = cs.length ∧ (∀ x, x ∈ cs' → Low x) ∧
      H' fo = some (.lst (zs.map V.str)) ∧ zs.length = i ∧ (∀ z, z ∈ zs → Nm z) ∧ (∀ b o, b ≠ wd → b ≠ fo → H2 b = some o → H' b = some o)) ?_ ?_ ?_
  · refine ⟨none, cs, [], rfl, ?_, rfl, hlow, upd_same, rfl, fun z hz => (nomatch hz), fun b o n1 n2 e => by rw [upd_ne n2]; exact e⟩
    rw [upd_ne nwf]
    exact hw2
  · rintro i σ H3 hi ⟨y3, cs', zs, rfl, hw3, hl3, hlow3, hf3, hz3, hnm3, k3⟩
    have hmod : ∃ t : Nat, ((m : Int) + (0 + (i : Int))) % 26 = (t : Int) ∧ t < 26 := ⟨(m + i) % 26, by omega, Nat.mod_lt _ (by decide)⟩
    obtain ⟨t, ht, ht26⟩ := hmod
    refine ⟨.str L26, rfl, .int (m : Int), rfl, .int (0 + (i : Int)), rfl, _, _, rfl, rfl, _, 26, rfl, rfl, (show (0 : Int) < 26 by decide), L26, (t : Int), 97 + t, rfl, congrArg V.int ht, by rw [l26_len]; decide, atI_nat (l26_at t ht26), ?_⟩
    have hix : ixN (sg (113 :: cs')).length (1 + (j : Int)) = some (j + 1) := by
      unfold ixN
      rw [if_pos (by omega), if_pos (by rw [sg_length, List.length_cons]; omega)]
      exact congrArg some (by omega)
    refine ⟨.ref wd, rfl, .int (1 + (j : Int)), rfl, wd, _, 1 + (j : Int), j + 1, rfl, rfl, hw3, hix, ?_⟩
    have hset : (sg (113 :: cs')).set (j + 1) (.str (sgn (97 + t))) = sg (113 :: cs'.set j (97 + t)) := sg_set _ _ _
    have hw4 : upd H3 wd (.lst ((sg (113 :: cs')).set (j + 1) (.str (sgn (97 + t))))) wd = some (.lst (sg (113 :: cs'.set j (97 + t)))) := by rw [upd_same, hset]
    have hf4 : upd H3 wd (.lst ((sg (113 :: cs')).set (j + 1) (.str (sgn (97 + t))))) fo = some (.lst (zs.map V.str)) := by
      rw [upd_ne nwf.symm]
      exact hf3
    refine ⟨.ref fo, rfl, .inl ⟨rfl, _, .inl (.inl hf4)⟩, ⟨_, rfl⟩, .ref wd, rfl, Str.empty, wd, (113 :: cs'.set j (97 + t)).map sgn, rfl, rfl, .inl (.inl (.inl hw4)), ?_, fo, _, _, rfl, rfl, hf4, ?_, ?_⟩
    · rw [sgn_length, List.length_map, List.length_cons, List.length_set]
      show _ + _ * 0 ≤ _
      omega
    · rw [List.length_map]
      exact small1000 (by omega)
    · refine ⟨_, cs'.set j (97 + t), zs ++ [Txt.join Str.empty ((113 :: cs'.set j (97 + t)).map sgn)], rfl, ?_, by rw [List.length_set]; exact hl3, ?_, ?_, by rw [List.length_append, hz3]; rfl, ?_, ?_⟩
      · rw [upd_ne nwf]
        exact hw4
      · intro x hx
        rcases List.mem_or_eq_of_mem_set hx with hx | rfl
        · exact hlow3 x hx
        · unfold Low
          omega
      · rw [upd_same, List.map_append]
        rfl
      · intro z hz
        rcases List.mem_append.mp hz with hz | hz
        · exact hnm3 z hz
        · rw [List.mem_singleton.mp hz]
          refine nm_signs (cs := cs'.set j (97 + t)) (join_signs _) (by rw [List.length_set]; omega) ?_
          intro x hx
          rcases List.mem_or_eq_of_mem_set hx with hx | rfl
          · exact hlow3 x hx
          · unfold Low
            omega
      · intro b o n1 n2 e
        rw [upd_ne n2, upd_ne n1]
        exact k3 b o n1 n2 e
  · rintro σ H3 ⟨y3, cs', zs, rfl, hw3, hl3, hlow3, hf3, hz3, hnm3, k3⟩
    have nHfo : H fo = none := (k1.trans k2).free nfo hfo.1 hfo.2
    refine ⟨.ref fo, rfl, q H3 fo zs ?_ ?_ nHfo hf3 hz3 hnm3⟩
    · intro b o n1 n2 e
      exact k3 b o (ne_of_none e nwd) (ne_of_none e nHfo) (k2 _ _ n1 n2 (k1 _ _ n1 n2 e))
    · obtain ⟨cells, mm, x, e1, e2, e3, e4, e5⟩ := D2
      exact ⟨cells, mm, x, k3 _ _ hwd.symm hfo.1.symm e1, k3 _ _ hwc.symm hfo.2.symm e2, e3, e4, by omega⟩
end
end L17

namespace L17
open PySem PySem.Spec PyProof.Rows L2 GR
theorem Deck.upd {H : Hp} {d c p : Addr} {N : Int} {o : HO} (D : Deck H d c N) (h1 : p ≠ d) (h2 : p ≠ c) : Deck (L2.upd H p o) d c N := by
  obtain ⟨cells, m, n, e1, e2, e3⟩ := D
  exact ⟨cells, m, n, by rw [upd_ne h1.symm]; exact e1, by rw [upd_ne h2.symm]; exact e2, e3⟩
def wD (tl cl nl : Addr) : List (Key × V) := [(.inr "tables", .ref tl), (.inr "columns", .ref cl), (.inr "names", .ref nl)]
theorem wD_t (tl cl nl : Addr) : valV (wD tl cl nl) (.inr "tables") = some (.ref tl) := valV_pos rfl
theorem wD_c (tl cl nl : Addr) : valV (wD tl cl nl) (.inr "columns") = some (.ref cl) := (valV_neg (show ¬ ((.inr "tables" : Key) = .inr "columns") by decide)).trans (valV_pos rfl)
theorem wD_n (tl cl nl : Addr) : valV (wD tl cl nl) (.inr "names") = some (.ref nl) := (valV_neg (show ¬ ((.inr "tables" : Key) = .inr "names") by decide)).trans ((valV_neg (show ¬ ((.inr "columns" : Key) = .inr "names") by decide)).trans (valV_pos rfl))
/-- the world at u: lists of tables, columns, variables -/
structure Wd (H : Hp) (d c u tl cl nl : Addr) (ts cs ns : List Str) : Prop where
  dct : H u = some (.dK (wD tl cl nl))
  ht : H tl = some (.lst (ts.map V.str))
  hc : H cl = some (.lst (cs.map V.str))
  hn : H nl = some (.lst (ns.map V.str))
  t0 : tl ≠ d ∧ tl ≠ c
  c0 : cl ≠ d ∧ cl ≠ c
  n0 : nl ≠ d ∧ nl ≠ c
  u0 : u ≠ d ∧ u ≠ c
  lt : ts.length = 2
  lc : cs.length = 3
  ln : ns.length = 3
  at' : ∀ z, z ∈ ts → Nm z
  ac : ∀ z, z ∈ cs → Nm z
  an : ∀ z, z ∈ ns → Nm z
theorem Wd.keep {H H' : Hp} {d c u tl cl nl : Addr} {ts cs ns : List Str} (W : Wd H d c u tl cl nl ts cs ns) (k : Keep d c H H') : Wd H' d c u tl cl nl ts cs ns :=
  ⟨k _ _ W.u0.1 W.u0.2 W.dct, k _ _ W.t0.1 W.t0.2 W.ht, k _ _ W.c0.1 W.c0.2 W.hc, k _ _ W.n0.1 W.n0.2 W.hn, W.t0, W.c0, W.n0, W.u0, W.lt, W.lc, W.ln, W.at', W.ac, W.an⟩
theorem in_nm : Nm "in" := nm_lit (by decide)
theorem cut_map (zs : List Str) (lo hi : Option Int) (a b : Nat) (h1 : HT.sIx zs.length 0 lo = a) (h2 : HT.sIx zs.length zs.length hi = b) : cutV (zs.map V.str) lo hi = ((zs.drop a).take (b - a)).map V.str := by
  unfold cutV
  rw [List.length_map, h1, h2, List.map_take, List.map_drop]
section
variable {P : Program} {w : World} {K : PySem.W.Frag} {mg : Str → Option Value} {base : Heap}
abbrev s_law_world : Stmt := topS 49
theorem sc_law_world : FnScope ["_law_deck_here", "_law_names_here"] ["_law_deck_here"] (defScope s_law_world) := ⟨rfl, rfl, rfl, by decide +kernel, rfl, by decide +kernel, by decide +kernel⟩
def sp_world : Sp := fun vs H Q _ => ∃ (d c : Addr) (N : Int), vs = [.ref d] ∧ Deck H d c N ∧ N < 2 ^ 54 ∧
  ∀ H' u tl cl nl ts cs ns, Keep d c H H' → Deck H' d c (N + 30) → H u = none → Wd H' d c u tl cl nl ts cs ns → Q (.ref u) H'
theorem ok_world {f f_law_draw f_law_names : Addr} {fd fd_law_draw fd_law_names : FuncData} {k : Nat} (F : Fun K "_law_world" "_law_world" s_law_world f fd) (G_law_draw : FnOk P w K mg base CX0 k f_law_draw fd_law_draw ["_law_deck_here", "_law_most"] sp_draw)
    (g_law_draw : mg "_law_draw" = some (.ref f_law_draw)) (K_law_draw : PySem.W.keepIn K (.ref f_law_draw) = true) (b_law_draw : Binds K fd_law_draw ["_law_deck_here", "_law_most"] [])
    (G_law_names : FnOk P w K mg base CX0 k f_law_names fd_law_names ["_law_deck_here", "_law_many"] sp_names)
    (g_law_names : mg "_law_names" = some (.ref f_law_names)) (K_law_names : PySem.W.keepIn K (.ref f_law_names) = true) (b_law_names : Binds K fd_law_names ["_law_deck_here", "_law_many"] []) : FnOk P w K mg base CX0 (k + 1) f fd ["_law_deck_here"] sp_world := by
  have nd := sc_law_world.nd
  refine F.ok sc_law_world (fun vs H Q E h => ?_) (fun cdv A outer s H vs Q E hr h => ?_)
  · obtain ⟨d, c, N, rfl, _⟩ := h
    rfl
  obtain ⟨d, c, N, rfl, D, hN, q⟩ := h
  refine ⟨_, (pss_cons (ps_set (i := 1) nd rfl (.inl rfl) (pe_call G_law_names hr (by rfl) g_law_names K_law_names b_law_names .nil pass0 (pa_cons (pv 0) (pa_cons pe_int pa_nil))))
      (Evl.pss_cut (ps_if (pt_cmpR op_eq (pe_call G_law_draw hr (by rfl) g_law_draw K_law_draw b_law_draw .nil pass0 (pa_cons (pv 0) (pa_cons pe_int pa_nil))) pe_int (nomark _))
      (pss_one (ps_asg (pe_ix ix_list (pv 1) pe_int (fun _ _ => rfl)) (pg_sub (pv 1) pe_int set_list)))
      pss_nil)
      (pss_one (ps_ret (pe_disp (pps_cons pe_str (pe_slice sl_list (pv 1) po_none (po_some pe_int)) (pps_cons pe_str (pe_op op_cat (pe_slice sl_list (pv 1) (po_some pe_int) (po_some pe_int)) (pe_lst (pa_cons pe_str pa_nil))) (pps_cons pe_str (pe_slice sl_list (pv 1) (po_some pe_int) po_none) pps_nil))) (by decide) rfl (by simp) (by decide)))))), ?_⟩
  refine ⟨.ref d, rfl, d, c, N, 7, rfl, D, by omega, by decide, fun H1 p zs k1 D1 np hp hlen hnm => ?_⟩
  have hpn : p ≠ d ∧ p ≠ c := by
    obtain ⟨cells, m, n, h1, h2, _⟩ := D
    exact ⟨(ne_of_none h1 np).symm, (ne_of_none h2 np).symm⟩
  refine ⟨fun σ' H' => ∃ zs' : List Str, σ' = [some (.ref d), some (.ref p)] ∧ Keep d c H H' ∧ Deck H' d c (N + 25) ∧ H' p = some (.lst (zs'.map V.str)) ∧ zs'.length = 7 ∧ ∀ z, z ∈ zs' → Nm z, ?_, ?_⟩
  · refine ⟨.ref d, rfl, d, c, _, 4, rfl, D1, by omega, by decide, by decide, fun H2 r k2 D2 r0 r1 => ⟨rfl, _, rfl, ite2 (fun e => ?_) (fun e => ?_)⟩⟩
    · have hp2 := k2 _ _ hpn.1 hpn.2 hp
      have h2 : (zs.map V.str)[2]? = some (.str (zs[2]'(by omega))) := by
        rw [List.getElem?_map, List.getElem?_eq_getElem (by omega)]
        rfl
      refine ⟨.ref p, rfl, p, _, 2, _, rfl, rfl, .inl (.inl hp2), atI_nat (j := 2) h2, .ref p, rfl, p, _, 0, 0, rfl, rfl, hp2, ?_, ?_⟩
      · unfold ixN
        rw [if_pos (by decide), List.length_map, hlen]
        rfl
      rw [← List.map_set]
      refine ⟨_, rfl, fun b o n1 n2 e => ?_, ?_, upd_same, by rw [List.length_set, hlen], fun z hz => ?_⟩
      · rw [upd_ne (ne_of_none e np)]
        exact k2 _ _ n1 n2 (k1 _ _ n1 n2 e)
      · exact (D2.upd hpn.1 hpn.2).mono (by omega)
      · rcases List.mem_or_eq_of_mem_set hz with h | rfl
        · exact hnm z h
        · exact hnm _ (List.getElem_mem _)
    · exact ⟨zs, rfl, k1.trans k2, D2.mono (by omega), k2 _ _ hpn.1 hpn.2 hp, hlen, hnm⟩
  rintro σ' H2 ⟨zs, rfl, k2, D2, hp2, hlen, hnm⟩
  intro u nu
  have su := same_upd (o := .dK []) nu
  have hu := D2.new nu
  refine ⟨.ref p, rfl, 2, rfl, p, _, rfl, .inl (.inl (su _ _ hp2)), fun tl ntl => ?_⟩
  have e1 := cut_map zs none (some 2) 0 2 rfl (by rw [show (some (2 : Int)) = some ((2 : Nat) : Int) from rfl, HT.sIx_nat, hlen]; rfl)
  have e2 := cut_map zs (some 2) (some 4) 2 4 (by rw [show (some (2 : Int)) = some ((2 : Nat) : Int) from rfl, HT.sIx_nat, hlen]; rfl) (by rw [show (some (4 : Int)) = some ((4 : Nat) : Int) from rfl, HT.sIx_nat, hlen]; rfl)
  have e3 := cut_map zs (some 4) none 4 7 (by rw [show (some (4 : Int)) = some ((4 : Nat) : Int) from rfl, HT.sIx_nat, hlen]; rfl) (by rw [HT.sIx_none, hlen])
  rw [e1]
  have s1 := same_upd (o := .lst (((zs.drop 0).take (2 - 0)).map V.str)) ntl
  refine ⟨.ref p, rfl, 2, rfl, 4, rfl, p, _, rfl, .inl (.inl (s1 _ _ (su _ _ hp2))), fun ml nml => ?_⟩
  rw [e2]
  have s2 := same_upd (o := .lst (((zs.drop 2).take (4 - 2)).map V.str)) nml
  refine ⟨small_le (show 1 ≤ 1000 by decide), fun il nil => ?_⟩
  have s3 := same_upd (o := .lst [.str "in"]) nil
  have l2 : ((zs.drop 2).take (4 - 2)).length = 2 := by rw [List.length_take, List.length_drop, hlen]; rfl
  refine ⟨ml, il, _, _, rfl, rfl, s3 _ _ upd_same, upd_same, by rw [List.length_map, l2]; exact small_le (show 3 ≤ 1000 by decide), fun cl ncl => ?_⟩
  have ec : (((zs.drop 2).take (4 - 2)).map V.str) ++ [V.str "in"] = (((zs.drop 2).take (4 - 2)) ++ [("in" : Str)]).map V.str := by rw [List.map_append]; rfl
  rw [ec]
  have s4 := same_upd (o := .lst ((((zs.drop 2).take (4 - 2)) ++ [("in" : Str)]).map V.str)) ncl
  refine ⟨.ref p, rfl, 4, rfl, p, _, rfl, .inl (.inl (s4 _ _ (s3 _ _ (s2 _ _ (s1 _ _ (su _ _ hp2)))))), fun nl nnl => ?_⟩
  rw [e3]
  have s5 := same_upd (o := .lst (((zs.drop 4).take (7 - 4)).map V.str)) nnl
  have s45 := s4.trans s5
  have s25 := s2.trans (s3.trans s45)
  have s15 := s1.trans s25
  have u5 := s15 _ _ (show upd H2 u (.dK []) u = _ from upd_same)
  have t5 := s25 _ _ (show upd (upd H2 u (.dK [])) tl (.lst (((zs.drop 0).take (2 - 0)).map V.str)) tl = _ from upd_same)
  have c5 := s5 _ _ (show upd (upd (upd (upd (upd H2 u (.dK [])) tl (.lst (((zs.drop 0).take (2 - 0)).map V.str))) ml (.lst (((zs.drop 2).take (4 - 2)).map V.str))) il (.lst [.str "in"])) cl (.lst ((((zs.drop 2).take (4 - 2)) ++ [("in" : Str)]).map V.str)) cl = _ from upd_same)
  have n5 : upd (upd (upd (upd (upd (upd H2 u (.dK [])) tl (.lst (((zs.drop 0).take (2 - 0)).map V.str))) ml (.lst (((zs.drop 2).take (4 - 2)).map V.str))) il (.lst [.str "in"])) cl (.lst ((((zs.drop 2).take (4 - 2)) ++ [("in" : Str)]).map V.str))) nl (.lst (((zs.drop 4).take (7 - 4)).map V.str)) nl = _ := upd_same
  have s05 := su.trans s15
  have dtl := D2.new (su.free ntl)
  have dcl := (D2.same (su.trans (s1.trans (s2.trans s3)))).new ncl
  have dnl := (D2.same (su.trans (s1.trans (s2.trans (s3.trans s4))))).new nnl
  clear nnl ncl nil nml ntl s1 s2 s3 s4 s5 s45 s25
  revert u5 t5 c5 n5 s05
  clear s15
  generalize upd (upd (upd (upd (upd (upd H2 u (.dK [])) tl (.lst (((zs.drop 0).take (2 - 0)).map V.str))) ml (.lst (((zs.drop 2).take (4 - 2)).map V.str))) il (.lst [.str "in"])) cl (.lst ((((zs.drop 2).take (4 - 2)) ++ [("in" : Str)]).map V.str))) nl (.lst (((zs.drop 4).take (7 - 4)).map V.str)) = H6
  intro u5 t5 c5 n5 s05
  have tu : tl ≠ u := ne_of t5 u5 (fun z => by cases z)
  have cu : cl ≠ u := ne_of c5 u5 (fun z => by cases z)
  have nu' : nl ≠ u := ne_of n5 u5 (fun z => by cases z)
  have nHu : H u = none := k2.free nu hu.1 hu.2
  refine ⟨u5, wD tl cl nl, rfl, (show 3 ≤ 15 by decide), q _ u tl cl nl ((zs.drop 0).take (2 - 0)) ((zs.drop 2).take (4 - 2) ++ [("in" : Str)]) ((zs.drop 4).take (7 - 4)) (fun b o n1 n2 e => ?_) (((D2.same s05).upd hu.1 hu.2).mono (by omega)) nHu ?_⟩
  · rw [upd_ne (ne_of_none e nHu)]
    exact s05 _ _ (k2 _ _ n1 n2 e)
  · refine ⟨upd_same, by rw [upd_ne tu]; exact t5, by rw [upd_ne cu]; exact c5, by rw [upd_ne nu']; exact n5, dtl, dcl, dnl, hu, by rw [List.length_take, List.length_drop, hlen]; rfl, by rw [List.length_append, l2]; rfl, by rw [List.length_take, List.length_drop, hlen]; rfl, fun z hz => hnm z (List.mem_of_mem_drop (List.mem_of_mem_take hz)), fun z hz => ?_, fun z hz => hnm z (List.mem_of_mem_drop (List.mem_of_mem_take hz))⟩
    rcases List.mem_append.mp hz with h | h
    · exact hnm z (List.mem_of_mem_drop (List.mem_of_mem_take h))
    · rw [List.mem_singleton.mp h]
      exact in_nm
end
end L17

namespace GR
open PySem PySem.Spec PyProof.Rows L2
theorem FnG.mono {P : Program} {w : World} {K : PySem.W.Frag} {mg : Str → Option Value} {base : Heap} {CX : CXT} {j k : Nat} {f : Addr} {fd : FuncData} {ps : List Str} {sp : Sp} (F : FnG P w K mg base CX j f fd ps sp) (h : j ≤ k) : FnG P w K mg base CX k f fd ps sp :=
  ⟨F.size, fun A outer s H args us vs Q E g hr => F.go A outer s H args us vs Q E g (hr.mono h)⟩
/-! ### the signs of what repr shows -/
abbrev SO (x : Str) : Prop := ∀ c, c ∈ x.cps.toList → c < 0x110000
theorem so_iff {x : Str} : PyData.strOk x = true ↔ SO x := by
  unfold PyData.strOk
  rw [Array.all_eq_true']
  constructor
  · intro h c hc
    have := h c (by simpa using hc)
    simpa using this
  · intro h c hc
    have := h c (by simpa using hc)
    simpa using this
theorem so_append {x y : Str} (hx : SO x) (hy : SO y) : SO (x ++ y) := fun c hc => by
  rcases mem_cps_append.mp hc with h | h
  · exact hx c h
  · exact hy c h
theorem so_join {sep : Str} (hs : SO sep) {ts : List Str} (h : ∀ t, t ∈ ts → SO t) : SO (Str.join sep ts) := fun c hc => by
  rcases (mem_join sep c ts).mp hc with ⟨t, ht, hc⟩ | ⟨_, hc⟩
  · exact h t ht c hc
  · exact hs c hc
theorem hex_so (w c : Nat) : ∀ k, k ∈ List.replicate (w - ((Nat.toDigits 16 c).map Char.toNat).length) 48 ++ (Nat.toDigits 16 c).map Char.toNat → k < 0x110000 := by
  intro k hk
  rcases List.mem_append.mp hk with h | h
  · have := List.eq_of_mem_replicate h
    omega
  · obtain ⟨ch, _, rfl⟩ := List.mem_map.mp h
    have := ch.valid
    have e : ch.toNat = ch.val.toNat := rfl
    rcases this with h | ⟨_, h⟩
    · have h' : ch.val.toNat < 0xd800 := h
      omega
    · have h' : ch.val.toNat < 0x110000 := h
      omega
theorem reprChar_so {q c : Nat} (hc : c < 0x110000) : ∀ k, k ∈ Builtin.Str.reprChar q c → k < 0x110000 := by
  intro k hk
  have h8 := hex_so 8 c k
  have h4 := hex_so 4 c k
  have h2 := hex_so 2 c k
  unfold Builtin.Str.reprChar at hk
  dsimp only at hk
  repeat' split at hk
  all_goals first
    | (rcases List.mem_append.mp hk with hk | hk
       · (simp only [List.mem_cons, List.not_mem_nil, or_false] at hk; omega)
       · first | exact h2 hk | exact h4 hk | exact h8 hk)
    | (simp only [List.mem_cons, List.not_mem_nil, or_false] at hk; omega)
theorem fold_so {q : Nat} : ∀ (l : List Nat) (acc : Array Nat), (∀ c, c ∈ l → c < 0x110000) → (∀ c, c ∈ acc.toList → c < 0x110000) → ∀ c, c ∈ (l.foldl (fun out c => out ++ (Builtin.Str.reprChar q c).toArray) acc).toList → c < 0x110000
  | [], acc, _, h => h
  | d :: r, acc, hl, h => by
    rw [List.foldl_cons]
    refine fold_so r _ (fun c hc => hl c (List.mem_cons_of_mem _ hc)) fun c hc => ?_
    rw [Array.toList_append, List.mem_append] at hc
    rcases hc with hc | hc
    · exact h c hc
    · exact reprChar_so (hl d List.mem_cons_self) c (by simpa using hc)
theorem repr_so {x : Str} (h : SO x) : SO (reprText x) := fun c hc => by
  have hq : reprQuote x < 0x110000 := by
    unfold reprQuote
    split <;> decide
  unfold reprText at hc
  have hc' : c ∈ ((x.cps.foldl (fun out c => out ++ (Builtin.Str.reprChar (reprQuote x) c).toArray) #[reprQuote x]).push (reprQuote x)).toList := hc
  rw [Array.toList_push, List.mem_append] at hc'
  rcases hc' with hc' | hc'
  · rw [← Array.foldl_toList] at hc'
    refine fold_so x.cps.toList _ h (fun c hc => ?_) c hc'
    have : c = reprQuote x := by simpa using hc
    rw [this]
    exact hq
  · have : c = reprQuote x := by simpa using hc'
    rw [this]
    exact hq
mutual
theorem shown_so : ∀ d : PyData, d.canLay0 = true → SO d.shown
  | .none, _ => by rw [PyData.shown_none]; decide
  | .bool b, _ => by
    rw [PyData.shown_bool]
    cases b <;> decide
  | .int i, _ => fun c hc => by
    by_cases h : 57 < c
    · exact absurd hc (shown_int_free' (k := c) ⟨by omega, .inr h⟩ i)
    · omega
  | .str x, h => by
    rw [PyData.shown_str]
    exact repr_so (so_iff.mp (by simpa [PyData.canLay0] using h))
  | .list xs, h => by
    rw [PyData.shown_list]
    exact so_append (so_append (by decide) (so_join (by decide) (shownAll_so xs (by simpa [PyData.canLay0] using h)))) (by decide)
  | .tuple xs, h => by
    rw [PyData.shown_tuple]
    refine so_append (so_append (by decide) (so_join (by decide) (shownAll_so xs (by simpa [PyData.canLay0] using h)))) ?_
    split <;> decide
  | .dict _, h => by simp [PyData.canLay0] at h
theorem shownAll_so : ∀ xs : List PyData, PyData.canLayAll0 xs = true → ∀ t, t ∈ PyData.shownAll xs → SO t
  | [], _, t, ht => by rw [PyData.shownAll_nil] at ht; exact absurd ht (by simp)
  | x :: xs, h, t, ht => by
    have h' : x.canLay0 = true ∧ PyData.canLayAll0 xs = true := by simpa [PyData.canLayAll0] using h
    rw [PyData.shownAll_cons, List.mem_cons] at ht
    rcases ht with rfl | ht
    · exact shown_so x h'.1
    · exact shownAll_so xs h'.2 t ht
end
theorem shown_ok {d : PyData} (h : d.canLay0 = true) : PyData.strOk d.shown = true := so_iff.mpr (shown_so d h)
section
variable {X : Cx} {pins : List (Addr × Obj)} {σ : L2.St} {H : Hp} {s : Shared}
/-- repr of a truth -/
def rReprB : List V → Hp → VK → Prop := fun xs H Q => ∃ b, xs = [.bl b] ∧ Q (.str (PyData.bool b).shown) H
theorem call_reprB : CallR X (.builtin "repr") rReprB := by
  intro pins s σ H xs us Q I r h
  obtain ⟨b, rfl, q⟩ := h
  obtain ⟨u, rfl, rv⟩ := vals1 r
  obtain rfl : u = Value.bool b := rv
  rw [PyData.shown_bool] at q
  exact P.repr_of_bool ⟨.str _, H, I.kept fun _ _ e => e, ⟨_, rfl⟩, q⟩
end
end GR

namespace L17
open PySem PySem.Spec PyProof.Rows L2 GR
/-! ### data of tuples, texts and ints -/
mutual
/-- no lists in it -/
def flatD : PyData → Bool
  | .tuple ds => flatDs ds
  | .int _ => true
  | .str _ => true
  | .bool _ => true
  | .none => true
  | _ => false
def flatDs : List PyData → Bool
  | [] => true
  | d :: ds => flatD d && flatDs ds
end
theorem flatDs_of : ∀ {ds : List PyData}, (∀ d, d ∈ ds → flatD d = true) → flatDs ds = true
  | [], _ => by rw [flatDs]
  | d :: ds, h => by
    rw [flatDs, h d List.mem_cons_self, flatDs_of fun x hx => h x (List.mem_cons_of_mem _ hx)]
    rfl
/-- the tuples stay -/
def KeepT (H H' : Hp) : Prop := (∀ b xs, H b = some (.tup xs) → H' b = some (.tup xs)) ∧ ∀ b o xs, H b = some (.frz o (.tup xs)) → H' b = some (.frz o (.tup xs))
theorem KeepT.of {H H' : Hp} (s : Same H H') : KeepT H H' := ⟨fun b xs e => s b _ e, fun b o xs e => s b _ e⟩
theorem KeepT.refl {H : Hp} : KeepT H H := ⟨fun _ _ e => e, fun _ _ _ e => e⟩
theorem KeepT.trans {H H1 H2 : Hp} (a : KeepT H H1) (b : KeepT H1 H2) : KeepT H H2 := ⟨fun x xs e => b.1 x xs (a.1 x xs e), fun x o xs e => b.2 x o xs (a.2 x o xs e)⟩
theorem KeepT.seqt {K : PySem.W.Frag} {H H' : Hp} (s : KeepT H H') {a : Addr} {xs : List V} (h : SqT K H a xs) : SqT K H' a xs := by
  rcases h with (h | ⟨o, h⟩) | h
  · exact .inl (.inl (s.1 _ _ h))
  · exact .inl (.inr ⟨o, s.2 _ _ _ h⟩)
  · exact .inr h
theorem KeepT.upd {H : Hp} {a : Addr} {o : HO} (ha : ∀ xs, H a ≠ some (.tup xs)) (hb : ∀ u xs, H a ≠ some (.frz u (.tup xs))) : KeepT H (L2.upd H a o) := by
  refine ⟨fun b xs e => ?_, fun b u xs e => ?_⟩
  · have : b ≠ a := by
      rintro rfl
      exact ha xs e
    rw [upd_ne this]
    exact e
  · have : b ≠ a := by
      rintro rfl
      exact hb u xs e
    rw [upd_ne this]
    exact e
theorem KeepT.lst {H : Hp} {a : Addr} {ys : List V} {o : HO} (h : H a = some (.lst ys)) : KeepT H (L2.upd H a o) := KeepT.upd (fun xs e => by rw [h] at e; cases e) (fun u xs e => by rw [h] at e; cases e)
theorem KeepT.dk {H : Hp} {a : Addr} {ys : List (Key × V)} {o : HO} (h : H a = some (.dK ys)) : KeepT H (L2.upd H a o) := KeepT.upd (fun xs e => by rw [h] at e; cases e) (fun u xs e => by rw [h] at e; cases e)
theorem KeepT.non {H : Hp} {a : Addr} {o : HO} (h : H a = none) : KeepT H (L2.upd H a o) := KeepT.of (same_upd h)
theorem Keep.t {H H' : Hp} {d c : Addr} {N : Int} (k : Keep d c H H') (D : Deck H d c N) : KeepT H H' := by
  obtain ⟨cells, m, n, h1, h2, _⟩ := D
  exact ⟨fun b xs e => k _ _ (ne_of e h1 (fun z => by cases z)) (ne_of e h2 (fun z => by cases z)) e,
    fun b o xs e => k _ _ (ne_of e h1 (fun z => by cases z)) (ne_of e h2 (fun z => by cases z)) e⟩
mutual
theorem dp_keep {K : PySem.W.Frag} {H H' : Hp} (s : KeepT H H') : ∀ (d : PyData) (v : V), flatD d = true → Dp K H v d → Dp K H' v d
  | .none, _, _, h => by
    cases h
    exact .non
  | .bool b, _, _, h => by
    cases h
    exact .bl b
  | .int i, _, _, h => by
    cases h
    exact .int i
  | .str z, _, _, h => by
    cases h
    exact .str z
  | .tuple ds, _, hf, h => by
    cases h with
    | tup h1 h2 => exact .tup (s.seqt h1) (dp_keepAll s ds _ (by rw [flatD] at hf; exact hf) h2)
  | .list ds, _, hf, h => by simp only [flatD, Bool.false_eq_true] at hf
  | .dict ds, _, hf, h => by cases h
theorem dp_keepAll {K : PySem.W.Frag} {H H' : Hp} (s : KeepT H H') : ∀ (ds : List PyData) (vs : List V), flatDs ds = true → DpAll K H vs ds → DpAll K H' vs ds
  | [], _, _, h => by
    cases h
    exact .nil
  | d :: ds, _, hf, h => by
    rw [flatDs, Bool.and_eq_true] at hf
    cases h with
    | cons h1 h2 => exact .cons (dp_keep s d _ hf.1 h1) (dp_keepAll s ds _ hf.2 h2)
end
theorem dpAll_len {K : PySem.W.Frag} {H : Hp} : ∀ {vs : List V} {ds : List PyData}, DpAll K H vs ds → vs.length = ds.length
  | [], _, h => by
    cases h
    rfl
  | v :: vs, _, h => by
    cases h with
    | cons _ h2 => rw [List.length_cons, List.length_cons, dpAll_len h2]
theorem dpAll_append {K : PySem.W.Frag} {H : Hp} : ∀ {vs us : List V} {ds es : List PyData}, DpAll K H vs ds → DpAll K H us es → DpAll K H (vs ++ us) (ds ++ es)
  | [], _, _, _, h, g => by
    cases h
    exact g
  | v :: vs, _, _, _, h, g => by
    cases h with
    | cons h1 h2 => exact .cons h1 (dpAll_append h2 g)
theorem dpAll_at {K : PySem.W.Frag} {H : Hp} : ∀ {vs : List V} {ds : List PyData} {i : Nat} {v : V}, DpAll K H vs ds → vs[i]? = some v → ∃ d, ds[i]? = some d ∧ Dp K H v d
  | _, _, 0, v, .cons h _, e => by
    cases e
    exact ⟨_, rfl, h⟩
  | _, _, i + 1, v, .cons _ h, e => by
    rw [List.getElem?_cons_succ] at e ⊢
    exact dpAll_at h e
  | _, _, _, _, .nil, e => by simp at e
theorem flatDs_append : ∀ {xs ys : List PyData}, flatDs xs = true → flatDs ys = true → flatDs (xs ++ ys) = true
  | [], _, _, h => h
  | x :: xs, ys, h, g => by
    rw [flatDs, Bool.and_eq_true] at h
    rw [List.cons_append, flatDs, h.1, flatDs_append h.2 g]
    rfl
theorem new_tup {K : PySem.W.Frag} {H : Hp} {vs : List V} {ds : List PyData} {p : Addr} (hd : DpAll K H vs ds) (hf : flatDs ds = true) (np : H p = none) : Dp K (upd H p (.tup vs)) (.ref p) (.tuple ds) := .tup (.inl (.inl upd_same)) (dp_keepAll (KeepT.non np) _ _ hf hd)
/-! ### how long a text is -/
def sl (d : PyData) : Nat := d.shown.length
def sls : List PyData → Nat
  | [] => 0
  | d :: ds => sl d + 2 + sls ds
theorem sls_eq : ∀ ds : List PyData, ((PyData.shownAll ds).map (·.length)).sum + 2 * ds.length = sls ds
  | [] => by simp only [PyData.shownAll, List.map_nil, List.sum_nil, List.length_nil, sls]
  | d :: ds => by
    have := sls_eq ds
    simp only [PyData.shownAll, List.map_cons, List.sum_cons, List.length_cons, sls, sl]
    omega
theorem sls_append : ∀ (xs ys : List PyData), sls (xs ++ ys) = sls xs + sls ys
  | [], ys => by simp only [List.nil_append, sls, Nat.zero_add]
  | x :: xs, ys => by
    have := sls_append xs ys
    simp only [List.cons_append, sls]
    omega
theorem sls_le {b : PyData → Nat} : ∀ {ds : List PyData}, (∀ d, d ∈ ds → sl d + 2 ≤ b d) → sls ds ≤ (ds.map b).sum
  | [], _ => Nat.le_refl _
  | d :: ds, h => by
    have h1 := h d List.mem_cons_self
    have h2 := sls_le fun x hx => h x (List.mem_cons_of_mem _ hx)
    simp only [sls, List.map_cons, List.sum_cons]
    omega
theorem sl_tup (ds : List PyData) : sl (.tuple ds) ≤ sls ds + 3 := by
  have h1 := tupleText_len_le (PyData.shownAll ds)
  have h2 := sls_eq ds
  rw [PyData.shownAll_length] at h1
  unfold sl
  simp only [PyData.shown]
  omega
theorem sl_lst (ds : List PyData) : sl (.list ds) ≤ sls ds + 3 := by
  have h1 := listText_len_le (PyData.shownAll ds)
  have h2 := sls_eq ds
  rw [PyData.shownAll_length] at h1
  unfold sl
  simp only [PyData.shown]
  omega
theorem sl_name {z : Str} (h : Nm z) : sl (.str z) ≤ 82 := by
  obtain ⟨_, h2, h3, _⟩ := h
  have e := StrLaws.reprText_len z fun c hc => Nat.lt_of_le_of_lt (h3 c hc).2 (by decide)
  have e2 : z.length = z.cps.toList.length := by
    rw [Array.length_toList]
    rfl
  unfold sl
  rw [PyData.shown_str]
  omega
theorem int_nat {n : Int} (h1 : -(10 ^ 18) ≤ n) (h2 : n ≤ 10 ^ 18) : n.natAbs ≤ 1000000000000000000 := by omega
theorem int_log {n : Int} (h1 : -(10 ^ 18) ≤ n) (h2 : n ≤ 10 ^ 18) : n.natAbs.log2 < 60 := by
  by_cases e : n.natAbs = 0
  · rw [e]; decide
  · exact (Nat.log2_lt e).mpr (Nat.lt_of_le_of_lt (int_nat h1 h2) (by decide))
theorem sl_int {n : Int} (h1 : -(10 ^ 18) ≤ n) (h2 : n ≤ 10 ^ 18) : sl (.int n) ≤ 20 := by
  have e := int_text_length_le10 (k := 19) (by decide) (Nat.lt_of_le_of_lt (int_nat h1 h2) (by decide : 1000000000000000000 < 10 ^ 19))
  unfold sl
  rw [PyData.shown_int, PySem.ofString_length]
  exact e

theorem words_len : ∀ w, w ∈ (["int", "key", "var", "cell", "if", "+", "-", "*", "<", "=", "at", "count", "sum", "most", "first", "in", "let", "need", "tell", "put", "each"] : List Str) → sl (.str w) ≤ 7 := by
  have : ∀ w, w ∈ (["int", "key", "var", "cell", "if", "+", "-", "*", "<", "=", "at", "count", "sum", "most", "first", "in", "let", "need", "tell", "put", "each"] : List Str) → (reprText w).length ≤ 7 := by decide +kernel
  intro w hw
  unfold sl
  rw [PyData.shown_str]
  exact this w hw
/-! ### what is drawn -/
/-- data of tuples, texts and ints, of a bounded depth and length -/
structure Fine (k m : Nat) (x : PyData) : Prop where
  flat : flatD x = true
  shw : x.showable = true
  dep : x.depth ≤ k
  len : sl x + 2 ≤ m
theorem Fine.mono {k m k' m' : Nat} {x : PyData} (h : Fine k m x) (h1 : k ≤ k') (h2 : m ≤ m') : Fine k' m' x := ⟨h.flat, h.shw, Nat.le_trans h.dep h1, Nat.le_trans h.len h2⟩
theorem Fine.str {z : Str} (h : Nm z) : Fine 0 84 (.str z) := ⟨by simp only [flatD], by simp only [PyData.showable], by simp only [PyData.depth]; omega, by have := sl_name h; omega⟩
theorem Fine.word {w : Str} (h : w ∈ (["int", "key", "var", "cell", "if", "+", "-", "*", "<", "=", "at", "count", "sum", "most", "first", "in", "let", "need", "tell", "put", "each"] : List Str)) : Fine 0 9 (.str w) := ⟨by simp only [flatD], by simp only [PyData.showable], by simp only [PyData.depth]; omega, by have := words_len w h; omega⟩
theorem Fine.int {n : Int} (h1 : -(10 ^ 18) ≤ n) (h2 : n ≤ 10 ^ 18) : Fine 0 22 (.int n) := ⟨by simp only [flatD], by
  have := int_log h1 h2
  simp only [PyData.showable]
  exact decide_eq_true (by omega), by simp only [PyData.depth]; omega, by have := sl_int h1 h2; omega⟩
/-- parts of a tuple, with their lengths in all -/
inductive Fines (k : Nat) : Nat → List PyData → Prop
  | nil : Fines k 0 []
  | cons {m n : Nat} {x : PyData} {xs : List PyData} : Fine k m x → Fines k n xs → Fines k (m + n) (x :: xs)
theorem Fines.all {k n : Nat} {xs : List PyData} (h : Fines k n xs) : flatDs xs = true ∧ PyData.showableAll xs = true ∧ PyData.depthAll xs ≤ k ∧ sls xs ≤ n := by
  induction h with
  | nil => exact ⟨by simp only [flatDs], by simp only [PyData.showableAll], by simp only [PyData.depthAll]; omega, Nat.le_refl _⟩
  | cons h1 _ ih =>
    obtain ⟨a, b, c, d⟩ := ih
    refine ⟨by simp only [flatDs, h1.flat, a, Bool.and_self], by simp only [PyData.showableAll, h1.shw, b, Bool.and_self], ?_, ?_⟩
    · have := h1.dep
      simp only [PyData.depthAll]
      omega
    · have := h1.len
      simp only [sls]
      omega
theorem Fines.tup {k n : Nat} {xs : List PyData} (h : Fines k n xs) : Fine (k + 1) (n + 5) (.tuple xs) := by
  obtain ⟨a, b, c, d⟩ := h.all
  refine ⟨by simp only [flatD, a], by simp only [PyData.showable, b], by simp only [PyData.depth]; omega, ?_⟩
  have := sl_tup xs
  omega
theorem Fine.k0 {k m : Nat} {x : PyData} (h : Fine 0 m x) : Fine k m x := h.mono (Nat.zero_le _) (Nat.le_refl _)
end L17

namespace L17
open PySem PySem.Spec PyProof.Rows L2 GR
/-! ### expressions by their form (a let only where the sign + is told among the names): names of tables and columns among zs, variables among sc, a key only where b -/
abbrev ops5 : List Str := ["+", "-", "*", "<", "="]
abbrev aggk : List (Str × Nat × Nat) := [("count", 0, 0), ("sum", 1, 0), ("most", 1, 1), ("first", 0, 1)]
/-- the X of a plain aggregate -/
def rowX (t : Str) : PyData := .tuple [.str "cell", .str t, .tuple [.str "key"], .str "in"]
inductive Cx (zs sc : List Str) : Bool → Nat → PyData → Prop
  | int (b : Bool) (n : Nat) (i : Int) : -(10 ^ 18) ≤ i → i ≤ 10 ^ 18 → Cx zs sc b (n + 1) (.tuple [.str "int", .int i])
  | let_ (b : Bool) (n : Nat) (i : Int) : ("+" : Str) ∈ zs → 0 ≤ i → i ≤ 10000 → Cx zs sc b (n + 1) (.tuple [.str "let", .int i])
  | key (n : Nat) : Cx zs sc true (n + 1) (.tuple [.str "key"])
  | var (b : Bool) (n : Nat) (z : Str) : z ∈ sc → Cx zs sc b (n + 1) (.tuple [.str "var", .str z])
  | cell (b : Bool) (n : Nat) (t v : Str) (x : PyData) : (t ∈ zs ∧ t ≠ "#") → (v ∈ zs ∧ v ≠ "#") → Cx zs sc b n x → Cx zs sc b (n + 1) (.tuple [.str "cell", .str t, x, .str v])
  | op (b : Bool) (n : Nat) (o : Str) (x y : PyData) : o ∈ ops5 → Cx zs sc b n x → Cx zs sc b n y → Cx zs sc b (n + 1) (.tuple [.str o, x, y])
  | at_ (b : Bool) (n : Nat) (x y : PyData) : Cx zs sc b n x → Cx zs sc true n y → Cx zs sc b (n + 1) (.tuple [.str "at", x, y])
  | iff (b : Bool) (n : Nat) (x y z : PyData) : Cx zs sc b n x → Cx zs sc b n y → Cx zs sc b n z → Cx zs sc b (n + 1) (.tuple [.str "if", x, y, z])
  | agg (b : Bool) (n : Nat) (o t : Str) (p : PyData) (xs vs ds : List PyData) : ("#" : Str) ∈ zs → 2 ≤ n → (o, vs.length, ds.length) ∈ aggk → (t ∈ zs ∧ t ≠ "#") → xs.length ≤ 0 → (∀ x, x ∈ xs → Cx zs sc b 1 x) → Cx zs sc true n p → (∀ x, x ∈ vs → Cx zs sc true n x) → (∀ x, x ∈ ds → Cx zs sc b n x) →
      Cx zs sc b (n + 1) (.tuple (.str o :: .str t :: .tuple xs :: rowX t :: p :: (vs ++ ds)))
theorem Cx.mono {zs sc : List Str} : ∀ {b : Bool} {n m : Nat} {x : PyData}, Cx zs sc b n x → n ≤ m → Cx zs sc b m x := by
  intro b n m x h
  induction h generalizing m with
  | int b n i h1 h2 => intro hm; obtain ⟨k, rfl⟩ : ∃ k, m = k + 1 := ⟨m - 1, by omega⟩; exact .int b k i h1 h2
  | let_ b n i g9 h1 h2 => intro hm; obtain ⟨k, rfl⟩ : ∃ k, m = k + 1 := ⟨m - 1, by omega⟩; exact .let_ b k i g9 h1 h2
  | key n => intro hm; obtain ⟨k, rfl⟩ : ∃ k, m = k + 1 := ⟨m - 1, by omega⟩; exact .key k
  | var b n z h1 => intro hm; obtain ⟨k, rfl⟩ : ∃ k, m = k + 1 := ⟨m - 1, by omega⟩; exact .var b k z h1
  | cell b n t v x h1 h2 _ ih => intro hm; obtain ⟨k, rfl⟩ : ∃ k, m = k + 1 := ⟨m - 1, by omega⟩; exact .cell b k t v x h1 h2 (ih (by omega))
  | op b n o x y h1 _ _ ih1 ih2 => intro hm; obtain ⟨k, rfl⟩ : ∃ k, m = k + 1 := ⟨m - 1, by omega⟩; exact .op b k o x y h1 (ih1 (by omega)) (ih2 (by omega))
  | at_ b n x y _ _ ih1 ih2 => intro hm; obtain ⟨k, rfl⟩ : ∃ k, m = k + 1 := ⟨m - 1, by omega⟩; exact .at_ b k x y (ih1 (by omega)) (ih2 (by omega))
  | iff b n x y z _ _ _ ih1 ih2 ih3 => intro hm; obtain ⟨k, rfl⟩ : ∃ k, m = k + 1 := ⟨m - 1, by omega⟩; exact .iff b k x y z (ih1 (by omega)) (ih2 (by omega)) (ih3 (by omega))
  | agg b n o t p xs vs ds hh h0 h1 h2 h3 h4 _ _ _ _ ih2 ih3 ih4 => intro hm; obtain ⟨k, rfl⟩ : ∃ k, m = k + 1 := ⟨m - 1, by omega⟩; exact .agg b k o t p xs vs ds hh (by omega) h1 h2 h3 h4 (ih2 (by omega)) (fun x hx => ih3 x hx (by omega)) (fun x hx => ih4 x hx (by omega))
/-- a key may be allowed -/
theorem Cx.free {zs sc : List Str} {b : Bool} {n : Nat} {x : PyData} (h : Cx zs sc b n x) : Cx zs sc true n x := by
  induction h with
  | int b n i h1 h2 => exact .int true n i h1 h2
  | let_ b n i g9 h1 h2 => exact .let_ true n i g9 h1 h2
  | key n => exact .key n
  | var b n z h1 => exact .var true n z h1
  | cell b n t v x h1 h2 _ ih => exact .cell true n t v x h1 h2 ih
  | op b n o x y h1 _ _ ih1 ih2 => exact .op true n o x y h1 ih1 ih2
  | at_ b n x y _ h2 ih1 _ => exact .at_ true n x y ih1 h2
  | iff b n x y z _ _ _ ih1 ih2 ih3 => exact .iff true n x y z ih1 ih2 ih3
  | agg b n o t p xs vs ds hh h0 h1 h2 h3 _ h5 h6 _ ih1 _ _ ih4 => exact .agg true n o t p xs vs ds hh h0 h1 h2 h3 ih1 h5 h6 ih4
/-- more names -/
theorem Cx.wide {zs zs' sc sc' : List Str} (hz : ∀ z, z ∈ zs → z ∈ zs') (hs : ∀ z, z ∈ sc → z ∈ sc') {b : Bool} {n : Nat} {x : PyData} (h : Cx zs sc b n x) : Cx zs' sc' b n x := by
  induction h with
  | int b n i h1 h2 => exact .int b n i h1 h2
  | let_ b n i g9 h1 h2 => exact .let_ b n i (hz _ g9) h1 h2
  | key n => exact .key n
  | var b n z h1 => exact .var b n z (hs _ h1)
  | cell b n t v x h1 h2 _ ih => exact .cell b n t v x ⟨hz _ h1.1, h1.2⟩ ⟨hz _ h2.1, h2.2⟩ ih
  | op b n o x y h1 _ _ ih1 ih2 => exact .op b n o x y h1 ih1 ih2
  | at_ b n x y _ _ ih1 ih2 => exact .at_ b n x y ih1 ih2
  | iff b n x y z _ _ _ ih1 ih2 ih3 => exact .iff b n x y z ih1 ih2 ih3
  | agg b n o t p xs vs ds hh h0 h1 h2 h3 _ _ _ _ ih1 ih2 ih3 ih4 => exact .agg b n o t p xs vs ds (hz _ hh) h0 h1 ⟨hz _ h2.1, h2.2⟩ h3 ih1 ih2 ih3 ih4
end L17

namespace L17
open PySem PySem.Spec PyProof.Rows L2 GR
/-- how many draws, how long -/
def dx : Nat → Int
  | 0 => 10
  | n + 1 => 30 + 6 * dx n
theorem dx_pos : ∀ n, 10 ≤ dx n
  | 0 => by simp only [dx]; omega
  | n + 1 => by
    have := dx_pos n
    simp only [dx]
    omega
def em : Nat → Nat
  | 0 => 100
  | n + 1 => 3 * em n + 240
theorem em_pos : ∀ n, 100 ≤ em n
  | 0 => by simp only [em]; omega
  | n + 1 => by
    have := em_pos n
    simp only [em]
    omega
theorem small1000 {n : Nat} (h : n ≤ 1000) : n < sizeLine := by
  have : sizeLine = 16777216 := by decide
  omega
theorem h1000 {n : Nat} (h : n ≤ 1000) : n ≤ sizeLine := small_le h
theorem noSl_str {z : Str} {pos : Pos} {k} : NoSl (.Constant (.str z) k pos) := fun _ _ => rfl
theorem noSl_name {x : Str} {pos : Pos} : NoSl (.Name x pos) := fun _ _ => rfl
theorem iteA {c : Bool} {A B : Prop} (h : A) (h2 : ¬ c = true → B) : if c = true then A else B := by
  split
  · exact h
  · rename_i e
    exact h2 e
def kv4 (a b c e : Addr) : List (Key × V) := [(.inr "count", .ref a), (.inr "sum", .ref b), (.inr "most", .ref c), (.inr "first", .ref e)]
theorem kv4_1 (a b c e : Addr) : valV (mergeK [] (kv4 a b c e)) (.inr "count") = some (.ref a) := valV_pos rfl
theorem kv4_2 (a b c e : Addr) : valV (mergeK [] (kv4 a b c e)) (.inr "sum") = some (.ref b) := (valV_neg (show ¬ ((.inr "count" : Key) = .inr "sum") by decide)).trans (valV_pos rfl)
theorem kv4_3 (a b c e : Addr) : valV (mergeK [] (kv4 a b c e)) (.inr "most") = some (.ref c) := (valV_neg (show ¬ ((.inr "count" : Key) = .inr "most") by decide)).trans ((valV_neg (show ¬ ((.inr "sum" : Key) = .inr "most") by decide)).trans (valV_pos rfl))
theorem kv4_4 (a b c e : Addr) : valV (mergeK [] (kv4 a b c e)) (.inr "first") = some (.ref e) := (valV_neg (show ¬ ((.inr "count" : Key) = .inr "first") by decide)).trans ((valV_neg (show ¬ ((.inr "sum" : Key) = .inr "first") by decide)).trans ((valV_neg (show ¬ ((.inr "most" : Key) = .inr "first") by decide)).trans (valV_pos rfl)))
theorem Fines.append {k m n : Nat} {xs ys : List PyData} (h : Fines k m xs) (g : Fines k n ys) : Fines k (m + n) (xs ++ ys) := by
  induction h with
  | nil => rw [Nat.zero_add]; exact g
  | @cons a b x xs h1 _ ih =>
    rw [Nat.add_assoc]
    exact .cons h1 ih
/-- the names of tables and columns -/
abbrev nms (ts cs : List Str) : List Str := ("in" : Str) :: (ts ++ cs)
/-- a sign where aggregates may be -/
def mark (l : Int) : List Str := if l < 2 then ["#"] else []
abbrev nmx (l : Int) (ts cs : List Str) : List Str := ("in" : Str) :: (ts ++ (cs ++ mark l))
theorem mark_max {l : Int} (h0 : 0 ≤ l) (h2 : l ≤ 2) : mark (if l > 1 then l else 1) = mark l := by
  unfold mark
  split <;> split <;> simp_all <;> omega
theorem mark_one {l : Int} (h : ¬ l = 2) (h2 : l ≤ 2) : mark l = mark 1 := by
  unfold mark
  rw [if_pos (by omega), if_pos (by decide)]
theorem nmx_max {l : Int} {ts cs : List Str} (h0 : 0 ≤ l) (h2 : l ≤ 2) : nmx (if l > 1 then l else 1) ts cs = nmx l ts cs := by
  show ("in" : Str) :: (ts ++ (cs ++ mark (if l > 1 then l else 1))) = ("in" : Str) :: (ts ++ (cs ++ mark l))
  rw [mark_max h0 h2]
theorem nmx_one {l : Int} {ts cs : List Str} (h : ¬ l = 2) (h2 : l ≤ 2) : nmx 1 ts cs = nmx l ts cs := by
  show ("in" : Str) :: (ts ++ (cs ++ mark 1)) = ("in" : Str) :: (ts ++ (cs ++ mark l))
  rw [mark_one h h2]
theorem mark_in : ("#" : Str) ∈ mark 1 := by decide
/-- one that may be picked -/
def GV (K : PySem.W.Frag) (zs sc : List Str) (b : Bool) (H : Hp) (v : V) : Prop := ∃ x, Dp K H v x ∧ Fine 3 100 x ∧ Cx zs sc b 2 x
theorem GV.keep {K : PySem.W.Frag} {zs sc : List Str} {b : Bool} {H H' : Hp} {v : V} (h : GV K zs sc b H v) (k : KeepT H H') : GV K zs sc b H' v := by
  obtain ⟨x, h1, h2, h3⟩ := h
  exact ⟨x, dp_keep k _ _ h2.flat h1, h2, h3⟩
theorem nm_hash {z : Str} (h : Nm z) : z ≠ "#" := fun e => by
  have := (h.2.2.1 35 (by rw [e]; decide)).1
  omega
section
variable {P : Program} {w : World} {K : PySem.W.Frag} {mg : Str → Option Value} {base : Heap}
abbrev s_law_expression : Stmt := topS 50
abbrev N_ex : List Str := ["_law_deck_here", "_law_world_here", "_law_deep", "_law_scope", "_law_loose", "_law_way", "_law_some", "_law_table", "_law_one", "_law_near", "_law_other", "_law_inner", "_law_guard", "_law_word", "_law_name"]
abbrev ps_ex : List Str := ["_law_deck_here", "_law_world_here", "_law_deep", "_law_scope", "_law_loose"]
theorem sc_law_expression : FnScope N_ex ps_ex (defScope s_law_expression) := ⟨rfl, rfl, rfl, by decide +kernel, rfl, by decide +kernel, by decide +kernel⟩
/-- the list of variables that may be used -/
structure Scp (H : Hp) (d c sc : Addr) (scope : List Str) : Prop where
  at' : H sc = some (.lst (scope.map V.str))
  n0 : sc ≠ d ∧ sc ≠ c
  nm : ∀ z, z ∈ scope → Nm z
  len : scope.length ≤ 10
theorem Scp.keep {H H' : Hp} {d c sc : Addr} {scope : List Str} (S : Scp H d c sc scope) (k : Keep d c H H') : Scp H' d c sc scope := ⟨k _ _ S.n0.1 S.n0.2 S.at', S.n0, S.nm, S.len⟩
def sp_expr (K : PySem.W.Frag) (n : Nat) : Sp := fun vs H Q _ => ∃ (d c u tl cl nl sc : Addr) (N deep loose : Int) (ts cs ns scope : List Str), vs = [.ref d, .ref u, .int deep, .ref sc, .int loose] ∧ Deck H d c N ∧ N + dx n < 2 ^ 54 ∧ Wd H d c u tl cl nl ts cs ns ∧ Scp H d c sc scope ∧
  deep ≤ (n : Int) ∧ 0 ≤ loose ∧ loose ≤ 2 ∧ ∀ H' v x, Keep d c H H' → Deck H' d c (N + dx n) → Fine (n + 3) (em n) x → Cx (nmx loose ts cs) scope (decide (0 < loose)) (n + 2) x → Dp K H' v x → Q v H'
/-- tuples of a word and one more -/
theorem tup2 {k m : Nat} {w : Str} {x : PyData} (hw : w ∈ (["int", "key", "var", "cell", "if", "+", "-", "*", "<", "=", "at", "count", "sum", "most", "first", "in", "let", "need", "tell", "put", "each"] : List Str)) (hx : Fine k m x) : Fine (k + 1) (m + 14) (.tuple [.str w, x]) :=
  ((Fines.cons (Fine.word hw).k0 (.cons hx .nil)).tup).mono (Nat.le_refl _) (by omega)
theorem fine_key : Fine 1 14 (.tuple [.str "key"]) := ((Fines.cons (Fine.word (w := "key") (by decide)).k0 .nil).tup).mono (Nat.le_refl _) (by decide)
theorem ok_expr_step {n : Nat} {f f_law_draw f_law_pick : Addr} {fd fd_law_draw fd_law_pick : FuncData} {k : Nat} (F : Fun K "_law_expression" "_law_expression" s_law_expression f fd) (G_law_draw : FnOk P w K mg base CX0 k f_law_draw fd_law_draw ["_law_deck_here", "_law_most"] sp_draw)
    (g_law_draw : mg "_law_draw" = some (.ref f_law_draw)) (K_law_draw : PySem.W.keepIn K (.ref f_law_draw) = true) (b_law_draw : Binds K fd_law_draw ["_law_deck_here", "_law_most"] [])
    (G_law_pick : FnOk P w K mg base CX0 k f_law_pick fd_law_pick ["_law_deck_here", "_law_some"] (sp_pick K))
    (g_law_pick : mg "_law_pick" = some (.ref f_law_pick)) (K_law_pick : PySem.W.keepIn K (.ref f_law_pick) = true) (b_law_pick : Binds K fd_law_pick ["_law_deck_here", "_law_some"] [])
    (G : FnOk P w K mg base CX0 k f fd ps_ex (fun vs H Q E => ∃ m, n = m + 1 ∧ sp_expr K m vs H Q E)) (g : mg "_law_expression" = some (.ref f)) (Kf : PySem.W.keepIn K (.ref f) = true) (b : Binds K fd ps_ex [])
    (mint : mg "int" = none) (mmax : mg "max" = none) : FnOk P w K mg base CX0 (k + 1) f fd ps_ex (sp_expr K n) := by
  have nd := sc_law_expression.nd
  refine F.ok sc_law_expression (fun vs H Q E h => ?_) (fun cdv A outer s H vs Q E hr h => ?_)
  · obtain ⟨d, c, u, tl, cl, nl, sc, N, deep, loose, ts, cs, ns, scope, rfl, _⟩ := h
    rfl
  obtain ⟨d, c, u, tl, cl, nl, sc, N, deep, loose, ts, cs, ns, scope, rfl, D, hN, W, S, hdeep, hl0, hl2, q⟩ := h
  have hp := dx_pos n
  have hu1 : (A.deeper (envOfC "_law_expression" (defScope s_law_expression) s.heap.objs.size f cdv)).units + 1 < cLine := by
    have := hr.units
    omega
  refine ⟨_, (pss_cons (ps_set (i := 5) nd rfl (.inl rfl) (pe_call G_law_draw hr (by rfl) g_law_draw K_law_draw b_law_draw .nil pass0 (pa_cons (pv 0) (pa_cons pe_int pa_nil))))
      (pss_cons (ps_if (PW.pt (pw_or (pt_cmpR op_lt (pv 2) pe_int (nomark _)) (pw_or1 (pt_cmpR op_lt (pv 5) pe_int (nomark _)))))
      (pss_cons (ps_set (i := 6) nd rfl (.inl rfl) (pe_lst (pa_cons (pe_tup (pa_cons pe_str (pa_cons (pe_call G_law_draw hr (by rfl) g_law_draw K_law_draw b_law_draw .nil pass0 (pa_cons (pv 0) (pa_cons pe_int pa_nil))) pa_nil))) (pa_cons (pe_tup (pa_cons pe_str (pa_cons (pe_ix ix_list (pe_lst (pa_cons (pe_op op_sub (pe_call G_law_draw hr (by rfl) g_law_draw K_law_draw b_law_draw .nil pass0 (pa_cons (pv 0) (pa_cons pe_int pa_nil))) pe_int) (pa_cons (pe_op op_pow pe_int pe_int) pa_nil))) (pe_callTy call_int1 (by rfl) mint boot_int (pa_cons (pe_cmpR op_eq (pe_call G_law_draw hr (by rfl) g_law_draw K_law_draw b_law_draw .nil pass0 (pa_cons (pv 0) (pa_cons pe_int pa_nil))) pe_int (nomark _)) pa_nil)) (fun _ _ => rfl)) pa_nil))) pa_nil))))
        (pss_one (ps_ret (pe_call G_law_pick hr (by rfl) g_law_pick K_law_pick b_law_pick .nil pass0 (pa_cons (pv 0) (pa_cons (pe_op op_cat (pe_op op_cat (pv 6) (pe_lc (own := [("_law_name", 14)]) rfl nd (pi_list (pv 3)) (blkOk_by (N := N_ex) (sc := defScope s_law_expression) (by decide +kernel)) (fun _ _ _ _ _ => (pg_name (i := 14) nd rfl (Or.inl rfl))) (fun _ _ _ _ _ => pts_nil) (te := tTup (tCons (tC (.str "var")) (tCons (tVar 14) tNil))) (fun _ _ _ _ _ => (pe_tup (pa_cons pe_str (pa_cons (pv 14) pa_nil)))))) (pe_op op_rep (pe_lst (pa_cons (pe_tup (pa_cons pe_str pa_nil)) pa_nil)) (pe_callTy call_int1 (by rfl) mint boot_int (pa_cons (pe_cmpR op_gt (pv 4) pe_int (nomark _)) pa_nil)))) pa_nil))))))
      pss_nil)
      (pss_cons (ps_set (i := 7) nd rfl (.inl rfl) (pe_call G_law_pick hr (by rfl) g_law_pick K_law_pick b_law_pick .nil pass0 (pa_cons (pv 0) (pa_cons (pe_dget hu1 (pv 1) pe_str noSl_str) pa_nil))))
      (pss_cons (ps_set (i := 8) nd rfl (.inl rfl) (pe_call G hr (by rfl) g Kf b .nil pass0 (pa_cons (pv 0) (pa_cons (pv 1) (pa_cons (pe_op op_sub (pv 2) pe_int) (pa_cons (pv 3) (pa_cons (pv 4) pa_nil)))))))
      (Evl.pss_cut (ps_set (i := 9) nd rfl (.inl rfl) (pe_ifExp (pt_cmpR op_eq (pv 4) pe_int (nomark _)) (pe_call G hr (by rfl) g Kf b .nil pass0 (pa_cons (pv 0) (pa_cons (pv 1) (pa_cons pe_int (pa_cons (pv 3) (pa_cons (pv 4) pa_nil)))))) (pv 8)))
      (pss_cons (ps_if (pt_cmpR op_lt (pv 5) pe_int (nomark _))
      (pss_one (ps_ret (pe_tup (pa_cons pe_str (pa_cons (pv 7) (pa_cons (pv 9) (pa_cons (pe_call G_law_pick hr (by rfl) g_law_pick K_law_pick b_law_pick .nil pass0 (pa_cons (pv 0) (pa_cons (pe_dget hu1 (pv 1) pe_str noSl_str) pa_nil))) pa_nil)))))))
      pss_nil)
      (pss_cons (ps_set (i := 10) nd rfl (.inl rfl) (pe_call G hr (by rfl) g Kf b .nil pass0 (pa_cons (pv 0) (pa_cons (pv 1) (pa_cons (pe_op op_sub (pv 2) pe_int) (pa_cons (pv 3) (pa_cons (pv 4) pa_nil)))))))
      (pss_cons (ps_if (pt_cmpR op_lt (pv 5) pe_int (nomark _))
      (pss_one (ps_ret (pe_tup (pa_cons (pe_call G_law_pick hr (by rfl) g_law_pick K_law_pick b_law_pick .nil pass0 (pa_cons (pv 0) (pa_cons (pe_lst (pa_cons pe_str (pa_cons pe_str (pa_cons pe_str (pa_cons pe_str (pa_cons pe_str (pa_cons pe_str pa_nil))))))) pa_nil))) (pa_cons (pv 8) (pa_cons (pv 10) pa_nil))))))
      pss_nil)
      (pss_cons (ps_set (i := 11) nd rfl (.inl rfl) (pe_call G hr (by rfl) g Kf b .nil pass0 (pa_cons (pv 0) (pa_cons (pv 1) (pa_cons (pe_op op_sub (pv 2) pe_int) (pa_cons (pv 3) (pa_cons (pe_callB (call_max2 rfl) (by rfl) mmax boot_max (pa_cons pe_int (pa_cons (pv 4) pa_nil))) pa_nil)))))))
      (pss_cons (ps_if (pt_cmpR op_eq (pv 5) pe_int (nomark _))
      (pss_one (ps_ret (pe_tup (pa_cons pe_str (pa_cons (pv 9) (pa_cons (pv 11) pa_nil))))))
      pss_nil)
      (pss_cons (ps_if (PW.pt (pw_or (pt_cmpR op_eq (pv 5) pe_int (nomark _)) (pw_or1 (pt_cmpR op_eq (pv 4) pe_int (nomark _)))))
      (pss_one (ps_ret (pe_tup (pa_cons pe_str (pa_cons (pv 8) (pa_cons (pv 10) (pa_cons (pe_call G hr (by rfl) g Kf b .nil pass0 (pa_cons (pv 0) (pa_cons (pv 1) (pa_cons (pe_op op_sub (pv 2) pe_int) (pa_cons (pv 3) (pa_cons (pv 4) pa_nil)))))) pa_nil)))))))
      pss_nil)
      (pss_cons (ps_set (i := 12) nd rfl (.inl rfl) (pe_call G hr (by rfl) g Kf b .nil pass0 (pa_cons (pv 0) (pa_cons (pv 1) (pa_cons (pe_op op_sub (pv 2) pe_int) (pa_cons (pv 3) (pa_cons pe_int pa_nil)))))))
      (pss_cons (ps_set (i := 13) nd rfl (.inl rfl) (pe_call G_law_pick hr (by rfl) g_law_pick K_law_pick b_law_pick .nil pass0 (pa_cons (pv 0) (pa_cons (pe_lst (pa_cons pe_str (pa_cons pe_str (pa_cons pe_str (pa_cons pe_str pa_nil))))) pa_nil))))
      (pss_cons (ps_set (i := 6) nd rfl (.inl rfl) (pe_tup (pa_cons (pv 13) (pa_cons (pv 7) (pa_cons (pe_tup pa_nil) (pa_cons (pe_tup (pa_cons pe_str (pa_cons (pv 7) (pa_cons (pe_tup (pa_cons pe_str pa_nil)) (pa_cons pe_str pa_nil))))) (pa_cons (pv 12) pa_nil)))))))
      (pss_one (ps_ret (pe_op op_catT (pv 6) (pe_dget hu1 (pe_disp (pps_cons pe_str (pe_tup pa_nil) (pps_cons pe_str (pe_tup (pa_cons (pv 11) pa_nil)) (pps_cons pe_str (pe_tup (pa_cons (pv 11) (pa_cons (pv 10) pa_nil))) (pps_cons pe_str (pe_tup (pa_cons (pv 10) pa_nil)) pps_nil)))) (by decide) rfl (by simp) (by decide)) (pv 13) noSl_name)))))))))))))))))), ?_⟩
  have LIM : (10 : Int) ^ 18 = 1000000000000000000 := by decide
  refine ⟨.ref d, rfl, d, c, N, 12, rfl, D, by omega, by decide, by decide, fun H1 way k1 D1 w0 w1 => ?_⟩
  refine ⟨.int deep, rfl, _, _, rfl, rfl, _, rfl, iteA ?leaf (fun e => ⟨.int way, rfl, _, _, rfl, rfl, _, rfl, iteA ?leaf (fun e2 => ?rest)⟩)⟩
  case leaf =>
    have S1 := S.keep k1
    refine ⟨.ref d, rfl, d, c, _, 5, rfl, D1, by omega, by decide, by decide, fun H2 r2 k2 D2 a2 b2 => ⟨h1000 (show 2 ≤ 1000 by decide), fun p1 n1 => ?_⟩⟩
    have g1 : GV K (nmx loose ts cs) scope (decide (0 < loose)) (upd H2 p1 (.tup [.str "int", .int r2])) (.ref p1) := ⟨_, new_tup (.cons (.str "int") (.cons (.int r2) .nil)) rfl n1, (tup2 (by decide) (Fine.int (by omega) (by omega))).mono (by decide) (by decide), .int _ _ _ (by omega) (by omega)⟩
    have s1 := same_upd (o := .tup [.str "int", .int r2]) n1
    have D3 := D2.same s1
    have k3 := (k1.trans k2).trans (Keep.of s1)
    revert g1 D3 k3
    clear s1
    generalize upd H2 p1 (.tup [.str "int", .int r2]) = H3
    intro g1 D3 k3
    refine ⟨.ref d, rfl, d, c, _, 9, rfl, D3, by omega, by decide, by decide, fun H4 r4 k4 D4 a4 b4 => ⟨_, _, rfl, rfl, _, _, rfl, rfl, ?_⟩⟩
    refine ⟨⟨by decide, by decide⟩, h1000 (show 2 ≤ 1000 by decide), fun l nl => ?_⟩
    dsimp only
    rw [show (10 : Int) ^ (18 : Int).toNat = 10 ^ 18 from rfl]
    have sl := same_upd (o := .lst [.int (r4 - 3), .int (10 ^ 18)]) nl
    have hl : upd H4 l (.lst [.int (r4 - 3), .int (10 ^ 18)]) l = some (.lst [.int (r4 - 3), .int (10 ^ 18)]) := upd_same
    have hln := D4.new nl
    have D5 := D4.same sl
    have g4 := (g1.keep (k4.t D3)).keep (KeepT.of sl)
    have k5 := (k3.trans k4).trans (Keep.of sl)
    revert hl D5 g4 k5
    clear sl
    generalize upd H4 l (.lst [.int (r4 - 3), .int (10 ^ 18)]) = H5
    intro hl D5 g4 k5
    refine ⟨.ref d, rfl, d, c, _, 8, rfl, D5, by omega, by decide, by decide, fun H6 r6 k6 D6 a6 b6 => ⟨rfl, .inr ⟨_, rfl, ?_⟩⟩⟩
    have hl6 := k6 _ _ hln.1 hln.2 hl
    have g6 := g4.keep (k6.t D5)
    have k06 := k5.trans k6
    obtain ⟨y, hy1, hy2, hy3⟩ : ∃ y : Int, -(10 ^ 18) ≤ y ∧ y ≤ 10 ^ 18 ∧ atI [V.int (r4 - 3), V.int (10 ^ 18)] (if decide (V.int r6 = V.int 5) = true then 1 else 0) = some (.int y) := by
      by_cases e : V.int r6 = V.int 5
      · rw [decide_eq_true e]
        exact ⟨10 ^ 18, by omega, by omega, at1⟩
      · rw [decide_eq_false e]
        exact ⟨r4 - 3, by omega, by omega, at0⟩
    refine ⟨l, _, _, .int y, rfl, rfl, .inl (.inl hl6), hy3, h1000 (show 2 ≤ 1000 by decide), fun p2 n2 => ⟨h1000 (show 2 ≤ 1000 by decide), fun ls nls => ?_⟩⟩
    have g7 : GV K (nmx loose ts cs) scope (decide (0 < loose)) (upd H6 p2 (.tup [.str "int", .int y])) (.ref p2) := ⟨_, new_tup (.cons (.str "int") (.cons (.int y) .nil)) rfl n2, (tup2 (by decide) (Fine.int hy1 hy2)).mono (by decide) (by decide), .int _ _ _ hy1 hy2⟩
    have s7 := same_upd (o := .tup [.str "int", .int y]) n2
    have s8 := same_upd (o := .lst [.ref p1, .ref p2]) nls
    have hls : upd (upd H6 p2 (.tup [.str "int", .int y])) ls (.lst [.ref p1, .ref p2]) ls = some (.lst [.ref p1, .ref p2]) := upd_same
    have s78 := s7.trans s8
    have g8 := g7.keep (KeepT.of s8)
    have g81 := g6.keep (KeepT.of s78)
    have D8 := D6.same s78
    have k8 := k06.trans (Keep.of s78)
    revert hls g8 g81 D8 k8
    clear s78 s8 s7 g7 nls n2
    generalize upd (upd H6 p2 (.tup [.str "int", .int y])) ls (.lst [.ref p1, .ref p2]) = H8
    intro hls g8 g81 D8 k8
    have S8 := S.keep k8
    refine ⟨.ref d, rfl, .ref ls, rfl, .ref sc, rfl, sc, rfl, ⟨_, .inl (.inl S8.at')⟩, fun B nB => ?_⟩
    have hBd := D8.new nB
    have hBs : sc ≠ B := ne_of_none S8.at' nB
    have hBl : ls ≠ B := ne_of_none hls nB
    refine lc_list (xs := scope.map V.str) (fun i H' => ∃ us, H' B = some (.lst us) ∧ us.length = i ∧ (∀ v, v ∈ us → GV K (nmx loose ts cs) scope (decide (0 < loose)) H' v) ∧ ∀ b ob, b ≠ B → H8 b = some ob → H' b = some ob) ?_ ?_ ?_ ?_
    · exact ⟨[], upd_same, rfl, fun v hv => (nomatch hv), fun b ob nb e => by rw [upd_ne nb]; exact e⟩
    · rintro i H' _ ⟨us, _, _, _, kk⟩
      exact .inl (.inl (kk _ _ hBs S8.at'))
    · rintro i x H9 hx ⟨us, hB, hl9, hg, kk⟩
      rw [List.getElem?_map] at hx
      obtain ⟨z, hz, rfl⟩ := Option.map_eq_some_iff.mp hx
      have hi : i < scope.length := (List.getElem?_eq_some_iff.mp hz).1
      have hsl := S.len
      refine ⟨rfl, yes_then ⟨.str z, rfl, h1000 (show 2 ≤ 1000 by decide), fun pz npz => ?_⟩⟩
      have sz := same_upd (o := .tup [.str "var", .str z]) npz
      have gz : GV K (nmx loose ts cs) scope (decide (0 < loose)) (upd H9 pz (.tup [.str "var", .str z])) (.ref pz) := ⟨_, new_tup (.cons (.str "var") (.cons (.str z) .nil)) rfl npz, (tup2 (by decide) (Fine.str (S.nm z (List.mem_of_getElem? hz)))).mono (by decide) (by decide), .var _ _ _ (List.mem_of_getElem? hz)⟩
      have hB2 := sz _ _ hB
      have kB : KeepT (upd H9 pz (.tup [.str "var", .str z])) (upd (upd H9 pz (.tup [.str "var", .str z])) B (.lst (us ++ [.ref pz]))) := KeepT.lst hB2
      refine ⟨us, hB2, small1000 (by omega), us ++ [.ref pz], upd_same, by rw [List.length_append, hl9]; rfl, fun v hv => ?_, fun b ob nb e => ?_⟩
      · rcases List.mem_append.mp hv with h | h
        · exact ((hg v h).keep (KeepT.of sz)).keep kB
        · rw [List.mem_singleton.mp h]
          exact gz.keep kB
      · rw [upd_ne nb]
        exact sz _ _ (kk b ob nb e)
    · rintro H9 ⟨us, hB, hl9, hg, kk⟩
      rw [List.length_map] at hl9
      have hsl := S.len
      have s89 : Same H8 H9 := fun b ob e => kk b ob (ne_of_none e nB) e
      refine ⟨ls, B, _, _, rfl, rfl, s89 _ _ hls, hB, h1000 (show 2 + us.length ≤ 1000 by omega), fun L1 nL1 => ?_⟩
      have sA := same_upd (o := .lst ([.ref p1, .ref p2] ++ us)) nL1
      have hL1 : upd H9 L1 (.lst ([.ref p1, .ref p2] ++ us)) L1 = some (.lst ([.ref p1, .ref p2] ++ us)) := upd_same
      have hgA : ∀ v, v ∈ [.ref p1, .ref p2] ++ us → GV K (nmx loose ts cs) scope (decide (0 < loose)) (upd H9 L1 (.lst ([.ref p1, .ref p2] ++ us))) v := fun v hv => by
        rcases List.mem_append.mp hv with h | h
        · simp only [List.mem_cons, List.not_mem_nil, or_false] at h
          rcases h with rfl | rfl
          · exact g81.keep (KeepT.of (s89.trans sA))
          · exact g8.keep (KeepT.of (s89.trans sA))
        · exact (hg v h).keep (KeepT.of sA)
      have D9 := D8.same (s89.trans sA)
      have k9 := k8.trans (Keep.of (s89.trans sA))
      have lA : ([V.ref p1, .ref p2] ++ us).length ≤ 12 := by
        rw [List.length_append]
        show 2 + us.length ≤ 12
        omega
      have nA : [V.ref p1, .ref p2] ++ us ≠ [] := List.cons_ne_nil _ _
      revert hL1 hgA D9 k9 lA nA
      clear sA nL1
      generalize [V.ref p1, .ref p2] ++ us = uA
      generalize upd H9 L1 (.lst uA) = H10
      intro hL1 hgA D9 k9 lA nA
      refine ⟨h1000 (show 1 ≤ 1000 by decide), fun pk npk => ⟨h1000 (show 1 ≤ 1000 by decide), fun lk nlk => ⟨.int loose, rfl, _, _, rfl, rfl, .inr ⟨_, rfl, ?_⟩⟩⟩⟩
      have gk : GV K (nmx loose ts cs) scope true (upd H10 pk (.tup [.str "key"])) (.ref pk) := ⟨_, new_tup (.cons (.str "key") .nil) rfl npk, fine_key.mono (by decide) (by decide), .key _⟩
      have sk := same_upd (o := .tup [.str "key"]) npk
      have skl := same_upd (o := .lst [.ref pk]) nlk
      have hlk : upd (upd H10 pk (.tup [.str "key"])) lk (.lst [.ref pk]) lk = some (.lst [.ref pk]) := upd_same
      have gk2 := gk.keep (KeepT.of skl)
      have s10 := sk.trans skl
      revert hlk gk2 s10
      clear sk skl gk nlk npk
      generalize upd (upd H10 pk (.tup [.str "key"])) lk (.lst [.ref pk]) = H11
      intro hlk gk2 s10
      refine ⟨lk, _, _, rfl, rfl, hlk, ?_, ?_, ?_, fun L2 nL2 => ?_⟩
      · split <;> decide
      · split <;> decide
      · split
        · exact h1000 (show 1 * 1 ≤ 1000 by decide)
        · exact h1000 (show 1 * 0 ≤ 1000 by decide)
      have hB1 : ∀ v, v ∈ (List.replicate (if decide (loose > 0) = true then 1 else 0 : Int).toNat [V.ref pk]).flatten → v = V.ref pk ∧ 0 < loose := by
        intro v hv
        split at hv
        · rename_i hl
          exact ⟨by simpa using hv, of_decide_eq_true hl⟩
        · exact absurd hv (by simp)
      have hB2 : (List.replicate (if decide (loose > 0) = true then 1 else 0 : Int).toNat [V.ref pk]).flatten.length ≤ 1 := by
        split
        · exact Nat.le_refl 1
        · exact Nat.zero_le 1
      revert hB1 hB2
      generalize (List.replicate (if decide (loose > 0) = true then 1 else 0 : Int).toNat [V.ref pk]).flatten = uB
      intro hB1 hB2
      have s11 := same_upd (o := .lst uB) nL2
      have hL2 : upd H11 L2 (.lst uB) L2 = some (.lst uB) := upd_same
      have s12 := s10.trans s11
      have g12 := gk2.keep (KeepT.of s11)
      revert hL2 s12 g12
      clear s11 nL2
      generalize upd H11 L2 (.lst uB) = H12
      intro hL2 s12 g12
      refine ⟨L1, L2, _, _, rfl, rfl, s12 _ _ hL1, hL2, h1000 (by omega), fun L3 nL3 => ?_⟩
      have s13 := same_upd (o := .lst (uA ++ uB)) nL3
      have D13 := D9.same (s12.trans s13)
      have k13 := k9.trans (Keep.of (s12.trans s13))
      have h3 := (D9.same s12).new nL3
      refine .inl ⟨d, c, L3, _, uA ++ uB, rfl, D13, by omega, .inl (.inl upd_same), fun e => nA (List.append_eq_nil_iff.mp e).1, by rw [List.length_append]; omega, h3.1, h3.2, fun H14 v k14 D14 hv => ?_⟩
      obtain ⟨x, hx1, hx2, hx3⟩ : GV K (nmx loose ts cs) scope (decide (0 < loose)) (upd H12 L3 (.lst (uA ++ uB))) v := by
        rcases List.mem_append.mp hv with h | h
        · exact (hgA v h).keep (KeepT.of (s12.trans s13))
        · obtain ⟨e1, e2⟩ := hB1 v h
          rw [e1, decide_eq_true e2]
          exact g12.keep (KeepT.of s13)
      exact q H14 v x (k13.trans k14) (D14.mono (by omega)) (hx2.mono (by omega) (em_pos n)) (hx3.mono (by omega)) (dp_keep (k14.t D13) _ _ hx2.flat hx1)
  case rest =>
    have e' : ¬ deep < 1 := by simpa using e
    obtain ⟨m, rfl⟩ : ∃ m, n = m + 1 := ⟨n - 1, by omega⟩
    have hdx : dx (m + 1) = 30 + 6 * dx m := rfl
    have hem : em (m + 1) = 3 * em m + 240 := rfl
    have hpm := dx_pos m
    have hme := em_pos m
    have W1 := W.keep k1
    -- the table
    refine ⟨.ref d, rfl, .ref u, rfl, u, .ref tl, rfl, ?_, .inl ⟨d, c, tl, _, _, rfl, D1, by omega, .inl (.inl W1.ht), ?_, ?_, W1.t0.1, W1.t0.2, fun H2 vt k2 D2 hvt => ?_⟩⟩
    · rw [← wD_t tl cl nl]
      exact DGet.k (k := .inr "tables") W1.dct
    · intro e
      have := congrArg List.length e
      rw [List.length_map, W.lt] at this
      cases this
    · rw [List.length_map, W.lt]
      decide
    obtain ⟨t, ht, rfl⟩ := List.mem_map.mp hvt
    have ft := Fine.str (W.at' t ht)
    have k02 := k1.trans k2
    -- one
    refine ⟨.ref d, rfl, .ref u, rfl, .int deep, rfl, deep, 1, rfl, rfl, .ref sc, rfl, .int loose, rfl, m, rfl, d, c, u, tl, cl, nl, sc, _, deep - 1, loose, ts, cs, ns, scope, rfl, D2, by omega, W.keep k02, S.keep k02, by omega, hl0, hl2, fun H3 v1 x1 k3 D3x f1 c1 p1 => ?_⟩
    have k03 := k02.trans k3
    -- near
    refine ⟨fun σ' H' => ∃ vn xn, σ' = [some (.ref d), some (.ref u), some (.int deep), some (.ref sc), some (.int loose), some (.int way), none, some (.str t), some v1, some vn, none, none, none, none, none] ∧ Keep d c H H' ∧ Deck H' d c (N + 2 + 2 * dx m) ∧ Dp K H' v1 x1 ∧ Dp K H' vn xn ∧ Fine (m + 3) (em m) xn ∧ Cx (nmx loose ts cs) scope (decide (0 < loose)) (m + 2) xn, ?_, ?_⟩
    · refine ⟨.int loose, rfl, rfl, _, rfl, ite2 (fun e3 => ?_) (fun e3 => ?_)⟩
      · refine ⟨.ref d, rfl, .ref u, rfl, .ref sc, rfl, .int loose, rfl, m, rfl, d, c, u, tl, cl, nl, sc, _, 0, loose, ts, cs, ns, scope, rfl, D3x, by omega, W.keep k03, S.keep k03, by omega, hl0, hl2, fun H4 vn xn k4 D4 fn cn pn => ?_⟩
        exact ⟨vn, xn, rfl, k03.trans k4, D4.mono (by omega), dp_keep (k4.t D3x) _ _ f1.flat p1, pn, fn, cn⟩
      · exact ⟨v1, rfl, v1, x1, rfl, k03, D3x.mono (by omega), p1, p1, f1, c1⟩
    rintro σ' H4 ⟨vn, xn, rfl, k04, D4, p14, pn4, fn, cn⟩
    have W4 := W.keep k04
    have S4 := S.keep k04
    -- a cell
    refine ⟨.int way, rfl, _, _, rfl, rfl, _, rfl, ite2 (fun e4 => ?_) (fun e4 => ?_)⟩
    · refine ⟨.str t, rfl, vn, rfl, .ref d, rfl, .ref u, rfl, u, .ref cl, rfl, ?_, .inl ⟨d, c, cl, _, _, rfl, D4, by omega, .inl (.inl W4.hc), ?_, ?_, W4.c0.1, W4.c0.2, fun H5 vc k5 D5 hvc => ?_⟩⟩
      · rw [← wD_c tl cl nl]
        exact DGet.k (k := .inr "columns") W4.dct
      · intro e
        have := congrArg List.length e
        rw [List.length_map, W.lc] at this
        cases this
      · rw [List.length_map, W.lc]
        decide
      obtain ⟨z, hz, rfl⟩ := List.mem_map.mp hvc
      have fz := Fine.str (W.ac z hz)
      refine ⟨h1000 (show 4 ≤ 1000 by decide), fun p np => ?_⟩
      have s6 := same_upd (o := .tup [.str "cell", .str t, vn, .str z]) np
      have pn5 := dp_keep (k5.t D4) _ _ fn.flat pn4
      have F := (Fines.cons (Fine.word (w := "cell") (by decide)).k0 (.cons ft.k0 (.cons fn (.cons fz.k0 .nil)))).tup
      exact q _ _ _ ((k04.trans k5).trans (Keep.of s6)) ((D5.same s6).mono (by omega)) (F.mono (by omega) (by omega)) (.cell _ _ _ _ _ ⟨List.mem_cons_of_mem _ (List.mem_append_left _ ht), nm_hash (W.at' t ht)⟩ ⟨List.mem_cons_of_mem _ (List.mem_append_right _ (List.mem_append_left _ hz)), nm_hash (W.ac z hz)⟩ cn) (new_tup (.cons (.str _) (.cons (.str _) (.cons pn5 (.cons (.str _) .nil)))) (by simp only [flatDs, flatD, fn.flat, Bool.and_self]) np)
    -- the other
    refine ⟨.ref d, rfl, .ref u, rfl, .int deep, rfl, deep, 1, rfl, rfl, .ref sc, rfl, .int loose, rfl, m, rfl, d, c, u, tl, cl, nl, sc, _, deep - 1, loose, ts, cs, ns, scope, rfl, D4, by omega, W4, S4, by omega, hl0, hl2, fun H5 v2 x2 k5 D5 f2 c2 p2 => ?_⟩
    have k05 := k04.trans k5
    have p15 := dp_keep (k5.t D4) _ _ f1.flat p14
    have pn5 := dp_keep (k5.t D4) _ _ fn.flat pn4
    refine ⟨.int way, rfl, _, _, rfl, rfl, _, rfl, ite2 (fun e5 => ?_) (fun e5 => ?_)⟩
    · refine ⟨.ref d, rfl, h1000 (show 6 ≤ 1000 by decide), fun l nl => ?_⟩
      have sl := same_upd (o := .lst [.str "+", .str "-", .str "*", .str "<", .str "=", .str "+"]) nl
      have hln := D5.new nl
      refine .inl ⟨d, c, l, _, [.str "+", .str "-", .str "*", .str "<", .str "=", .str "+"], rfl, D5.same sl, by omega, .inl (.inl upd_same), List.cons_ne_nil _ _, (show 6 ≤ 1000 by decide), hln.1, hln.2, fun H6 vo k6 D6 hvo => ?_⟩
      obtain ⟨o, ho, ho5, rfl⟩ : ∃ o : Str, o ∈ (["int", "key", "var", "cell", "if", "+", "-", "*", "<", "=", "at", "count", "sum", "most", "first", "in", "let", "need", "tell", "put", "each"] : List Str) ∧ o ∈ ops5 ∧ vo = .str o := by
        simp only [List.mem_cons, List.not_mem_nil, or_false] at hvo
        rcases hvo with rfl | rfl | rfl | rfl | rfl | rfl
        · exact ⟨_, by decide, by decide, rfl⟩
        · exact ⟨_, by decide, by decide, rfl⟩
        · exact ⟨_, by decide, by decide, rfl⟩
        · exact ⟨_, by decide, by decide, rfl⟩
        · exact ⟨_, by decide, by decide, rfl⟩
        · exact ⟨_, by decide, by decide, rfl⟩
      have kt6 := (KeepT.of sl).trans (k6.t (D5.same sl))
      refine ⟨v1, rfl, v2, rfl, h1000 (show 3 ≤ 1000 by decide), fun p np => ?_⟩
      have s7 := same_upd (o := .tup [.str o, v1, v2]) np
      have F := (Fines.cons (Fine.word ho).k0 (.cons f1 (.cons f2 .nil))).tup
      exact q _ _ _ ((k05.trans (Keep.of sl)).trans (k6.trans (Keep.of s7))) ((D6.same s7).mono (by omega)) (F.mono (by omega) (by omega)) (.op _ _ _ _ _ ho5 c1 c2) (new_tup (.cons (.str _) (.cons (dp_keep kt6 _ _ f1.flat p15) (.cons (dp_keep kt6 _ _ f2.flat p2) .nil))) (by simp only [flatDs, flatD, f1.flat, f2.flat, Bool.and_self]) np)
    -- the inner one
    have W5 := W.keep k05
    have S5 := S.keep k05
    refine ⟨.ref d, rfl, .ref u, rfl, .int deep, rfl, deep, 1, rfl, rfl, .ref sc, rfl, .int loose, rfl, _, _, rfl, m, rfl, d, c, u, tl, cl, nl, sc, _, deep - 1, _, ts, cs, ns, scope, rfl, D5, by omega, W5, S5, by omega, ?_, ?_, fun H6 v3 x3 k6 D6 f3 c3 p3 => ?_⟩
    · split <;> omega
    · split <;> omega
    have c3t : Cx (nmx loose ts cs) scope true (m + 2) x3 := by
      have := c3.free
      rw [nmx_max hl0 hl2] at this
      exact this
    have k06 := k05.trans k6
    have p16 := dp_keep (k6.t D5) _ _ f1.flat p15
    have pn6 := dp_keep (k6.t D5) _ _ fn.flat pn5
    have p26 := dp_keep (k6.t D5) _ _ f2.flat p2
    refine ⟨.int way, rfl, rfl, _, rfl, ite2 (fun e6 => ?_) (fun e6 => ?_)⟩
    · refine ⟨vn, rfl, v3, rfl, h1000 (show 3 ≤ 1000 by decide), fun p np => ?_⟩
      have s7 := same_upd (o := .tup [.str "at", vn, v3]) np
      have F := (Fines.cons (Fine.word (w := "at") (by decide)).k0 (.cons fn (.cons f3 .nil))).tup
      exact q _ _ _ (k06.trans (Keep.of s7)) ((D6.same s7).mono (by omega)) (F.mono (by omega) (by omega)) (.at_ _ _ _ _ cn c3t) (new_tup (.cons (.str _) (.cons pn6 (.cons p3 .nil))) (by simp only [flatDs, flatD, fn.flat, f3.flat, Bool.and_self]) np)
    refine ⟨.int way, rfl, rfl, _, rfl, iteA ?aif (fun e7 => ⟨.int loose, rfl, rfl, _, rfl, iteA ?aif (fun e8 => ?agg)⟩)⟩
    case aif =>
      refine ⟨v1, rfl, v2, rfl, .ref d, rfl, .ref u, rfl, .int deep, rfl, deep, 1, rfl, rfl, .ref sc, rfl, .int loose, rfl, m, rfl, d, c, u, tl, cl, nl, sc, _, deep - 1, loose, ts, cs, ns, scope, rfl, D6, by omega, W.keep k06, S.keep k06, by omega, hl0, hl2, fun H7 v4 x4 k7 D7 f4 c4 p4 => ⟨h1000 (show 4 ≤ 1000 by decide), fun p np => ?_⟩⟩
      have s8 := same_upd (o := .tup [.str "if", v1, v2, v4]) np
      have F := (Fines.cons (Fine.word (w := "if") (by decide)).k0 (.cons f1 (.cons f2 (.cons f4 .nil)))).tup
      exact q _ _ _ ((k06.trans k7).trans (Keep.of s8)) ((D7.same s8).mono (by omega)) (F.mono (by omega) (by omega)) (.iff _ _ _ _ _ c1 c2 c4) (new_tup (.cons (.str _) (.cons (dp_keep (k7.t D6) _ _ f1.flat p16) (.cons (dp_keep (k7.t D6) _ _ f2.flat p26) (.cons p4 .nil)))) (by simp only [flatDs, flatD, f1.flat, f2.flat, f4.flat, Bool.and_self]) np)
    case agg =>
      have hne : ¬ loose = 2 := fun z => e8 (by rw [z]; exact decide_eq_true rfl)
      have hmk := mark_one hne hl2
      refine ⟨.ref d, rfl, .ref u, rfl, .int deep, rfl, deep, 2, rfl, rfl, .ref sc, rfl, m, rfl, d, c, u, tl, cl, nl, sc, _, deep - 2, 1, ts, cs, ns, scope, rfl, D6, by omega, W.keep k06, S.keep k06, by omega, by decide, by decide, fun H7 v5 x5 k7 D7 f5 c5 p5 => ?_⟩
      have k07 := k06.trans k7
      have p27 := dp_keep (k7.t D6) _ _ f2.flat p26
      have p37 := dp_keep (k7.t D6) _ _ f3.flat p3
      refine ⟨.ref d, rfl, h1000 (show 4 ≤ 1000 by decide), fun l nl => ?_⟩
      have sl := same_upd (o := .lst [.str "count", .str "sum", .str "most", .str "first"]) nl
      have hln := D7.new nl
      refine .inl ⟨d, c, l, _, [.str "count", .str "sum", .str "most", .str "first"], rfl, D7.same sl, by omega, .inl (.inl upd_same), List.cons_ne_nil _ _, (show 4 ≤ 1000 by decide), hln.1, hln.2, fun H8 vo k8 D8 hvo => ?_⟩
      have kt8 := (KeepT.of sl).trans (k8.t (D7.same sl))
      have k08 := (k07.trans (Keep.of sl)).trans k8
      have p28 := dp_keep kt8 _ _ f2.flat p27
      have p38 := dp_keep kt8 _ _ f3.flat p37
      have p58 := dp_keep kt8 _ _ f5.flat p5
      obtain ⟨o, ho4, rfl⟩ : ∃ o : Str, (o = "count" ∨ o = "sum" ∨ o = "most" ∨ o = "first") ∧ vo = .str o := by
        simp only [List.mem_cons, List.not_mem_nil, or_false] at hvo
        rcases hvo with rfl | rfl | rfl | rfl
        · exact ⟨_, .inl rfl, rfl⟩
        · exact ⟨_, .inr (.inl rfl), rfl⟩
        · exact ⟨_, .inr (.inr (.inl rfl)), rfl⟩
        · exact ⟨_, .inr (.inr (.inr rfl)), rfl⟩
      have ho : o ∈ (["int", "key", "var", "cell", "if", "+", "-", "*", "<", "=", "at", "count", "sum", "most", "first", "in", "let", "need", "tell", "put", "each"] : List Str) := by
        rcases ho4 with rfl | rfl | rfl | rfl <;> decide
      refine ⟨.str o, rfl, .str t, rfl, Nat.zero_le _, fun z0 m0 => ⟨.str t, rfl, h1000 (show 1 ≤ 1000 by decide), fun z1 m1 => ⟨h1000 (show 4 ≤ 1000 by decide), fun z2 m2 => ⟨v5, rfl, h1000 (show 5 ≤ 1000 by decide), fun z3 m3 => ?_⟩⟩⟩⟩
      have t0 := same_upd (o := .tup []) m0
      have t1 := same_upd (o := .tup [.str "key"]) m1
      have t2 := same_upd (o := .tup [.str "cell", .str t, .ref z1, .str "in"]) m2
      have t3 := same_upd (o := .tup [.str o, .str t, .ref z0, .ref z2, v5]) m3
      have b0 : Dp K (upd H8 z0 (.tup [])) (.ref z0) (.tuple []) := .tup (.inl (.inl upd_same)) .nil
      have b1 := new_tup (K := K) (.cons (.str "key") .nil) rfl m1
      have b2 := new_tup (K := K) (.cons (.str "cell") (.cons (.str t) (.cons b1 (.cons (.str "in") .nil)))) rfl m2
      have b0' := dp_keep (KeepT.of ((t1.trans t2).trans t3)) _ _ rfl b0
      have b2' := dp_keep (KeepT.of t3) _ _ rfl b2
      have t03 := ((t0.trans t1).trans t2).trans t3
      have hz3 : upd (upd (upd (upd H8 z0 (.tup [])) z1 (.tup [.str "key"])) z2 (.tup [.str "cell", .str t, .ref z1, .str "in"])) z3 (.tup [.str o, .str t, .ref z0, .ref z2, v5]) z3 = some (.tup [.str o, .str t, .ref z0, .ref z2, v5]) := upd_same
      clear t0 t1 t2 t3 b0 b1 b2 m0 m1 m2 m3
      revert b0' b2' t03 hz3
      generalize upd (upd (upd (upd H8 z0 (.tup [])) z1 (.tup [.str "key"])) z2 (.tup [.str "cell", .str t, .ref z1, .str "in"])) z3 (.tup [.str o, .str t, .ref z0, .ref z2, v5]) = H9
      intro b0' b2' t03 hz3
      have p29 := dp_keep (KeepT.of t03) _ _ f2.flat p28
      have p39 := dp_keep (KeepT.of t03) _ _ f3.flat p38
      have p59 := dp_keep (KeepT.of t03) _ _ f5.flat p58
      have k09 := k08.trans (Keep.of t03)
      have D9 := D8.same t03
      refine ⟨.ref z3, rfl, fun pd npd => ⟨Nat.zero_le _, fun y0 j0 => ⟨v3, rfl, h1000 (show 1 ≤ 1000 by decide), fun y1 j1 => ⟨v3, rfl, v2, rfl, h1000 (show 2 ≤ 1000 by decide), fun y2 j2 => ⟨v2, rfl, h1000 (show 1 ≤ 1000 by decide), fun y3 j3 => ?_⟩⟩⟩⟩⟩
      have r0 := same_upd (o := .dK []) npd
      have r1 := same_upd (o := .tup []) j0
      have r2 := same_upd (o := .tup [v3]) j1
      have r3 := same_upd (o := .tup [v3, v2]) j2
      have r4 := same_upd (o := .tup [v2]) j3
      have r14 := ((r1.trans r2).trans r3).trans r4
      have hpd := r14 _ _ (show upd H9 pd (.dK []) pd = _ from upd_same)
      have a0 := ((r2.trans r3).trans r4) _ _ (show upd (upd H9 pd (.dK [])) y0 (.tup []) y0 = _ from upd_same)
      have a1 := (r3.trans r4) _ _ (show upd (upd (upd H9 pd (.dK [])) y0 (.tup [])) y1 (.tup [v3]) y1 = _ from upd_same)
      have a2 := r4 _ _ (show upd (upd (upd (upd H9 pd (.dK [])) y0 (.tup [])) y1 (.tup [v3])) y2 (.tup [v3, v2]) y2 = _ from upd_same)
      have a3 : upd (upd (upd (upd (upd H9 pd (.dK [])) y0 (.tup [])) y1 (.tup [v3])) y2 (.tup [v3, v2])) y3 (.tup [v2]) y3 = _ := upd_same
      have r04 := r0.trans r14
      clear r0 r1 r2 r3 r4 r14 j0 j1 j2 j3
      revert hpd a0 a1 a2 a3 r04
      generalize upd (upd (upd (upd (upd H9 pd (.dK [])) y0 (.tup [])) y1 (.tup [v3])) y2 (.tup [v3, v2])) y3 (.tup [v2]) = H10
      intro hpd a0 a1 a2 a3 r04
      have r05 : Same H9 (upd H10 pd (.dK (mergeK [] (kv4 y0 y1 y2 y3)))) := fun b ob e => by
        rw [upd_ne (ne_of_none e npd)]
        exact r04 _ _ e
      have tu : ∀ (b : Addr) (xs : List V), H10 b = some (.tup xs) → upd H10 pd (.dK (mergeK [] (kv4 y0 y1 y2 y3))) b = some (.tup xs) := fun b xs e => by
        rw [upd_ne (ne_of e hpd (fun z => by cases z))]
        exact e
      have hpd2 : upd H10 pd (.dK (mergeK [] (kv4 y0 y1 y2 y3))) pd = some (.dK (mergeK [] (kv4 y0 y1 y2 y3))) := upd_same
      have a0' := tu _ _ a0
      have a1' := tu _ _ a1
      have a2' := tu _ _ a2
      have a3' := tu _ _ a3
      refine ⟨hpd, kv4 y0 y1 y2 y3, rfl, (show 4 ≤ 15 by decide), .str o, rfl, ?_⟩
      clear tu a0 a1 a2 a3 r04
      revert r05 hpd2 a0' a1' a2' a3'
      generalize upd H10 pd (.dK (mergeK [] (kv4 y0 y1 y2 y3))) = H11
      intro r05 hpd2 a0' a1' a2' a3'
      have z11 := r05 _ _ hz3
      have q0 := dp_keep (KeepT.of r05) _ _ rfl b0'
      have q2 := dp_keep (KeepT.of r05) _ _ rfl b2'
      have q5 := dp_keep (KeepT.of r05) _ _ f5.flat p59
      have q3 := dp_keep (KeepT.of r05) _ _ f3.flat p39
      have q2' := dp_keep (KeepT.of r05) _ _ f2.flat p29
      have k11 := k09.trans (Keep.of r05)
      have D11 := D9.same r05
      obtain ⟨yo, vs, ds, L, va, da, hval, hyo, hds, hfs, hL, hvl, hsp, hak, hva, hda⟩ : ∃ (yo : Addr) (vs : List V) (ds : List PyData) (L : Nat) (va da : List PyData), valV (mergeK [] (kv4 y0 y1 y2 y3)) (.inr o) = some (.ref yo) ∧ H11 yo = some (.tup vs) ∧ DpAll K H11 vs ds ∧ Fines (m + 3) L ds ∧ L ≤ 2 * em m ∧ vs.length ≤ 2 ∧ ds = va ++ da ∧ (o, va.length, da.length) ∈ aggk ∧ (∀ x, x ∈ va → Cx (nmx loose ts cs) scope true (m + 2) x) ∧ (∀ x, x ∈ da → Cx (nmx loose ts cs) scope (decide (0 < loose)) (m + 2) x) := by
        rcases ho4 with rfl | rfl | rfl | rfl
        · exact ⟨y0, [], [], 0, [], [], kv4_1 _ _ _ _, a0', .nil, .nil, Nat.zero_le _, Nat.zero_le _, rfl, by decide, (fun x hx => (nomatch hx)), (fun x hx => (nomatch hx))⟩
        · exact ⟨y1, _, [x3], _, [x3], [], kv4_2 _ _ _ _, a1', .cons q3 .nil, .cons f3 .nil, by omega, (show 1 ≤ 2 by decide), rfl, (show (("sum" : Str), 1, 0) ∈ aggk by decide), (fun x hx => by rw [List.mem_singleton.mp hx]; exact c3t), (fun x hx => (nomatch hx))⟩
        · exact ⟨y2, _, [x3, x2], _, [x3], [x2], kv4_3 _ _ _ _, a2', .cons q3 (.cons q2' .nil), .cons f3 (.cons f2 .nil), by omega, Nat.le_refl _, rfl, (show (("most" : Str), 1, 1) ∈ aggk by decide), (fun x hx => by rw [List.mem_singleton.mp hx]; exact c3t), (fun x hx => by rw [List.mem_singleton.mp hx]; exact c2)⟩
        · exact ⟨y3, _, [x2], _, [], [x2], kv4_4 _ _ _ _, a3', .cons q2' .nil, .cons f2 .nil, by omega, (show 1 ≤ 2 by decide), rfl, (show (("first" : Str), 0, 1) ∈ aggk by decide), (fun x hx => (nomatch hx)), (fun x hx => by rw [List.mem_singleton.mp hx]; exact c2)⟩
      have c5f : Cx (nmx loose ts cs) scope true (m + 2) x5 := by
        have := c5.free
        rw [nmx_one hne hl2] at this
        exact this
      have hin : ("#" : Str) ∈ nmx loose ts cs := List.mem_cons_of_mem _ (List.mem_append_right _ (List.mem_append_right _ (hmk ▸ mark_in)))
      have CA := Cx.agg (zs := nmx loose ts cs) (sc := scope) (decide (0 < loose)) (m + 2) o t x5 [] va da hin (by omega) hak ⟨List.mem_cons_of_mem _ (List.mem_append_left _ ht), nm_hash (W.at' t ht)⟩ (Nat.zero_le _) (fun x hx => (nomatch hx)) c5f hva hda
      refine ⟨pd, .ref yo, rfl, by rw [← hval]; exact DGet.k (k := .inr o) hpd2, ?_⟩
      have fX : Fine 2 121 (.tuple [.str "cell", .str t, .tuple [.str "key"], .str "in"]) := ((Fines.cons (Fine.word (w := "cell") (by decide)).k0 (.cons ft.k0 (.cons fine_key (.cons (Fine.word (w := "in") (by decide)).k0 .nil)))).tup).mono (Nat.le_refl _) (by decide)
      have fE : Fine 1 5 (.tuple []) := (Fines.nil (k := 0)).tup
      have FS : Fines (m + 3) (9 + (84 + (5 + (121 + (em m + 0))))) [.str o, .str t, .tuple [], .tuple [.str "cell", .str t, .tuple [.str "key"], .str "in"], x5] := .cons (Fine.word ho).k0 (.cons ft.k0 (.cons (fE.mono (by omega) (Nat.le_refl _)) (.cons (fX.mono (by omega) (Nat.le_refl _)) (.cons f5 .nil))))
      have FA := (FS.append hfs).tup
      have dS : DpAll K H11 [.str o, .str t, .ref z0, .ref z2, v5] [.str o, .str t, .tuple [], .tuple [.str "cell", .str t, .tuple [.str "key"], .str "in"], x5] := .cons (.str _) (.cons (.str _) (.cons q0 (.cons q2 (.cons q5 .nil))))
      refine ⟨z3, yo, _, _, rfl, rfl, .inl (.inl z11), .inl (.inl hyo), List.cons_ne_nil _ _, h1000 (show 5 + vs.length ≤ 1000 by omega), fun e => ?_, fun _ p np => ?_⟩
      · obtain rfl : ds = [] := by
          rw [e] at hds
          cases hds
          rfl
        rw [List.append_nil] at FA
        rw [← hsp] at CA
        exact q _ _ _ k11 (D11.mono (by omega)) (FA.mono (by omega) (by omega)) CA (.tup (.inl (.inl z11)) dS)
      · have s12 := same_upd (o := .tup ([.str o, .str t, .ref z0, .ref z2, v5] ++ vs)) np
        have hfA := FA.flat
        rw [flatD] at hfA
        rw [← hsp] at CA
        exact q _ _ _ (k11.trans (Keep.of s12)) ((D11.same s12).mono (by omega)) (FA.mono (by omega) (by omega)) CA (new_tup (dpAll_append dS hds) hfA np)
end
end L17

namespace L17
open PySem PySem.Spec PyProof.Rows L2 GR
section
variable {P : Program} {w : World} {K : PySem.W.Frag} {mg : Str → Option Value} {base : Heap}
theorem ok_none {k : Nat} {f : Addr} {fd : FuncData} {ps : List Str} {sp : Sp} (h : ∀ vs H Q E, ¬ sp vs H Q E) : FnOk P w K mg base CX0 k f fd ps sp :=
  ⟨fun vs H Q E q => absurd q (h vs H Q E), fun A outer s H args us vs Q E hr he hb hv hs => absurd hs (h vs H Q E)⟩
theorem ok_exprs {f f_law_draw f_law_pick : Addr} {fd fd_law_draw fd_law_pick : FuncData} {k : Nat} (F : Fun K "_law_expression" "_law_expression" s_law_expression f fd) (G_law_draw : FnOk P w K mg base CX0 k f_law_draw fd_law_draw ["_law_deck_here", "_law_most"] sp_draw)
    (g_law_draw : mg "_law_draw" = some (.ref f_law_draw)) (K_law_draw : PySem.W.keepIn K (.ref f_law_draw) = true) (b_law_draw : Binds K fd_law_draw ["_law_deck_here", "_law_most"] [])
    (G_law_pick : FnOk P w K mg base CX0 k f_law_pick fd_law_pick ["_law_deck_here", "_law_some"] (sp_pick K))
    (g_law_pick : mg "_law_pick" = some (.ref f_law_pick)) (K_law_pick : PySem.W.keepIn K (.ref f_law_pick) = true) (b_law_pick : Binds K fd_law_pick ["_law_deck_here", "_law_some"] [])
    (g : mg "_law_expression" = some (.ref f)) (Kf : PySem.W.keepIn K (.ref f) = true) (b : Binds K fd ps_ex [])
    (mint : mg "int" = none) (mmax : mg "max" = none) : ∀ n : Nat, FnOk P w K mg base CX0 (k + n + 1) f fd ps_ex (sp_expr K n)
  | 0 => ok_expr_step (k := k) F G_law_draw g_law_draw K_law_draw b_law_draw G_law_pick g_law_pick K_law_pick b_law_pick (ok_none fun vs H Q E ⟨m, h, _⟩ => by omega) g Kf b mint mmax
  | n + 1 => by
    have ih := ok_exprs F G_law_draw g_law_draw K_law_draw b_law_draw G_law_pick g_law_pick K_law_pick b_law_pick g Kf b mint mmax n
    refine ok_expr_step (k := k + n + 1) F (G_law_draw.mono (by omega)) g_law_draw K_law_draw b_law_draw (G_law_pick.mono (by omega)) g_law_pick K_law_pick b_law_pick (ih.imp ?_) g Kf b mint mmax
    rintro vs H Q E ⟨m, hm, h⟩
    obtain rfl : n = m := by omega
    exact h
/-! ### statements -/
/-- the table and column that a statement writes to; whether it is a let -/
def colD : PyData → Option (Str × Str)
  | .tuple [.str w, .str t, _, .str z, _] => if w = "put" ∨ w = "each" then some (t, z) else none
  | _ => none
def isLet : PyData → Bool
  | .tuple (.str w :: _) => decide (w = "let")
  | _ => false
/-- the form of a statement: its word, the next thing, the others -/
def SF (w : Str) (v1 : V) (vs : List V) (x : PyData) : Prop := (w = "let" ∧ isLet x = true ∧ colD x = none ∧ ∃ z e, v1 = .str z ∧ Nm z ∧ vs = [e]) ∨ ((w = "need" ∨ w = "tell") ∧ isLet x = false ∧ colD x = none ∧ vs = []) ∨
  ((w = "put" ∨ w = "each") ∧ isLet x = false ∧ ∃ t e z f, v1 = .str t ∧ vs = [e, .str z, f] ∧ colD x = some (t, z) ∧ Nm t ∧ Nm z)
theorem isLet_t {w : Str} {ds : List PyData} (h : w = "let") : isLet (.tuple (.str w :: ds)) = true := decide_eq_true h
theorem isLet_f {w : Str} {ds : List PyData} (h : w ≠ "let") : isLet (.tuple (.str w :: ds)) = false := decide_eq_false h
theorem colD_p {w t z : Str} {x y : PyData} (h : w = "put" ∨ w = "each") : colD (.tuple [.str w, .str t, x, .str z, y]) = some (t, z) := if_pos h
theorem colD_2 {w : Str} : ∀ x : PyData, colD (.tuple [.str w, x]) = none := fun x => by cases x <;> rfl
theorem SF.let' {w : Str} {v1 : V} {vs : List V} {x : PyData} (h : SF w v1 vs x) (e : w = "let") : ∃ z, v1 = .str z ∧ Nm z := by
  subst e
  rcases h with ⟨_, _, _, z, _, h1, h2, _⟩ | ⟨h, _⟩ | ⟨h, _⟩
  · exact ⟨z, h1, h2⟩
  · rcases h with h | h <;> exact absurd h (by decide)
  · rcases h with h | h <;> exact absurd h (by decide)
/-- a statement by its expressions; sc: the variables that are let ahead of it -/
inductive StX (ts cs sc : List Str) : PyData → Prop
  | let_ (z : Str) (x : PyData) : Nm z → z ∉ sc → Cx (nmx 0 ts cs) sc false 5 x → StX ts cs sc (.tuple [.str "let", .str z, x])
  | need (x : PyData) : Cx (nmx 0 ts cs) sc false 5 x → StX ts cs sc (.tuple [.str "need", .tuple [.str "<", .tuple [.str "int", .int (0 - 3)], x]])
  | tell (x : PyData) : Cx (nmx 0 ts cs) sc false 5 x → StX ts cs sc (.tuple [.str "tell", x])
  | each (t z : Str) (x y : PyData) : t ∈ ts → z ∈ cs → Cx (nmx 2 ts cs) sc true 5 x → Cx (nmx 2 ts cs) sc true 5 y → StX ts cs sc (.tuple [.str "each", .str t, x, .str z, y])
  | put (t z : Str) (x y : PyData) : t ∈ ts → (z ∈ cs ∨ z = "in") → Cx (nmx 0 ts cs) sc false 5 x → Cx (nmx 0 ts cs) sc false 5 y → StX ts cs sc (.tuple [.str "put", .str t, x, .str z, y])
/-- the variable that a statement lets -/
def letNm : PyData → Option Str
  | .tuple (.str w :: .str z :: _) => if w = "let" then some z else none
  | _ => none
theorem letNm_no {w : Str} {r : List PyData} (h : w ≠ "let") : letNm (.tuple (.str w :: r)) = none := by
  cases r with
  | nil => rfl
  | cons a r => cases a <;> first | rfl | exact if_neg h
/-- the object of a let -/
def LetH (H : Hp) (v : V) (x : PyData) : Prop := ∀ z, letNm x = some z → ∃ (p : Addr) (e : V), v = .ref p ∧ H p = some (.tup [.str "let", .str z, e])
theorem LetH.no {H : Hp} {v : V} {x : PyData} (h : letNm x = none) : LetH H v x := fun z e => by rw [h] at e; cases e
theorem LetH.keep {H H' : Hp} {v : V} {x : PyData} (h : LetH H v x) (k : KeepT H H') : LetH H' v x := fun z e => by
  obtain ⟨p, u, h1, h2⟩ := h z e
  exact ⟨p, u, h1, k.1 _ _ h2⟩
theorem in_strs (z : Str) (W : List Str) : inV (.str z) (W.map V.str) = decide (z ∈ W) := by
  unfold inV
  rw [List.any_map, Bool.eq_iff_iff, List.any_eq_true, decide_eq_true_eq]
  constructor
  · rintro ⟨f, hf, e⟩
    have : z = f := by
      have e' : eqV (.str f) (.str z) = true := e
      simp [eqV] at e'
      exact e'.symm
    rw [this]
    exact hf
  · intro h
    exact ⟨z, h, by show eqV (.str z) (.str z) = true; simp [eqV]⟩
/-- a statement: a tuple of one of these forms -/
def SV (K : PySem.W.Frag) (H : Hp) (v : V) (x : PyData) : Prop := ∃ (p : Addr) (w : Str) (v1 : V) (vs : List V), v = .ref p ∧ H p = some (.tup (.str w :: v1 :: vs)) ∧ SF w v1 vs x ∧ Dp K H v x ∧ Fine 8 12000 x
theorem SV.keep {K : PySem.W.Frag} {H H' : Hp} {v : V} {x : PyData} (h : SV K H v x) (k : KeepT H H') : SV K H' v x := by
  obtain ⟨p, w, v1, vs, rfl, h1, h2, h3, h4⟩ := h
  exact ⟨p, w, v1, vs, rfl, k.1 _ _ h1, h2, dp_keep k _ _ h4.flat h3, h4⟩
abbrev s_law_statement : Stmt := topS 51
abbrev N_st : List Str := ["_law_deck_here", "_law_world_here", "_law_scope", "_law_deep", "_law_way", "_law_table", "_law_column", "_law_left", "_law_one", "_law_inner", "_law_name"]
abbrev ps_st : List Str := ["_law_deck_here", "_law_world_here", "_law_scope", "_law_deep"]
theorem sc_law_statement : FnScope N_st ps_st (defScope s_law_statement) := ⟨rfl, rfl, rfl, by decide +kernel, rfl, by decide +kernel, by decide +kernel⟩
def sp_stmt (K : PySem.W.Frag) : Sp := fun vs H Q _ => ∃ (d c u tl cl nl sc : Addr) (N deep : Int) (ts cs ns scope : List Str), vs = [.ref d, .ref u, .ref sc, .int deep] ∧ deep ≤ 3 ∧ Deck H d c N ∧ N < 2 ^ 53 ∧ Wd H d c u tl cl nl ts cs ns ∧ Scp H d c sc scope ∧
  ∀ H' v x, Keep d c H H' → Deck H' d c (N + 20000) → SV K H' v x → StX ts cs scope x → LetH H' v x → Q v H'
theorem nm_ok {z : Str} (h : Nm z) : PyData.strOk z = true := so_iff.mpr fun c hc => Nat.lt_of_le_of_lt (h.2.2.1 c hc).2 (by decide)
theorem dp_strs {K : PySem.W.Frag} {H : Hp} : ∀ zs : List Str, DpAll K H (zs.map V.str) (zs.map PyData.str)
  | [] => .nil
  | z :: zs => .cons (.str z) (dp_strs zs)
theorem shaped_strs {zs : List Str} (h : ∀ z, z ∈ zs → Nm z) : SeqAt.shaped (.list (zs.map PyData.str)) = true := by
  have h1 : PyData.canLayAll0 (zs.map PyData.str) = true := by
    induction zs with
    | nil => simp only [List.map_nil, PyData.canLayAll0]
    | cons z zs ih => simp only [List.map_cons, PyData.canLayAll0, PyData.canLay0, nm_ok (h z List.mem_cons_self), ih fun y hy => h y (List.mem_cons_of_mem _ hy), Bool.and_self]
  have h2 : PyData.depthAll (zs.map PyData.str) ≤ 1 := by
    clear h h1
    induction zs with
    | nil => simp only [List.map_nil, PyData.depthAll]; omega
    | cons z zs ih =>
      simp only [List.map_cons, PyData.depthAll, PyData.depth]
      omega
  unfold SeqAt.shaped
  rw [Bool.and_eq_true]
  refine ⟨by simp only [PyData.canLay0, h1], decide_eq_true ?_⟩
  simp only [PyData.depth]
  omega
theorem neq_nilS : ∀ zs : List Str, (!PyData.eqv (.list (zs.map PyData.str)) (.list [])) = !zs.isEmpty
  | [] => by simp only [List.map_nil, PyData.eqv, PyData.eqvAll, List.isEmpty_nil]
  | n :: ns => by simp only [List.map_cons, PyData.eqv, PyData.eqvAll, List.isEmpty_cons]
theorem flat_map_str (zs : List Str) : (zs.map V.str).all flatV = true := by
  rw [List.all_eq_true]
  intro v hv
  obtain ⟨z, _, rfl⟩ := List.mem_map.mp hv
  rfl
theorem ok_stmt {f f_law_draw f_law_pick f_ex : Addr} {fd fd_law_draw fd_law_pick d_ex : FuncData} {k : Nat} (F : Fun K "_law_statement" "_law_statement" s_law_statement f fd) (G_law_draw : FnOk P w K mg base CX0 k f_law_draw fd_law_draw ["_law_deck_here", "_law_most"] sp_draw)
    (g_law_draw : mg "_law_draw" = some (.ref f_law_draw)) (K_law_draw : PySem.W.keepIn K (.ref f_law_draw) = true) (b_law_draw : Binds K fd_law_draw ["_law_deck_here", "_law_most"] [])
    (G_law_pick : FnOk P w K mg base CX0 k f_law_pick fd_law_pick ["_law_deck_here", "_law_some"] (sp_pick K))
    (g_law_pick : mg "_law_pick" = some (.ref f_law_pick)) (K_law_pick : PySem.W.keepIn K (.ref f_law_pick) = true) (b_law_pick : Binds K fd_law_pick ["_law_deck_here", "_law_some"] [])
    (G : FnOk P w K mg base CX0 k f_ex d_ex ps_ex (sp_expr K 3)) (g : mg "_law_expression" = some (.ref f_ex)) (Kf : PySem.W.keepIn K (.ref f_ex) = true) (b : Binds K d_ex ps_ex []) : FnOk P w K mg base CX0 (k + 1) f fd ps_st (sp_stmt K) := by
  have nd := sc_law_statement.nd
  refine F.ok sc_law_statement (fun vs H Q E h => ?_) (fun cdv A outer s H vs Q E hr h => ?_)
  · obtain ⟨d, c, u, tl, cl, nl, sc, N, deep, ts, cs, ns, scope, rfl, _⟩ := h
    rfl
  obtain ⟨d, c, u, tl, cl, nl, sc, N, deep, ts, cs, ns, scope, rfl, hdeep, D, hN, W, S, q⟩ := h
  have hu1 : (A.deeper (envOfC "_law_statement" (defScope s_law_statement) s.heap.objs.size f cdv)).units + 1 < cLine := by
    have := hr.units
    omega
  refine ⟨_, (pss_cons (ps_set (i := 4) nd rfl (.inl rfl) (pe_call G_law_draw hr (by rfl) g_law_draw K_law_draw b_law_draw .nil pass0 (pa_cons (pv 0) (pa_cons pe_int pa_nil))))
      (pss_cons (ps_par (i := 5) (j := 6) rfl nd rfl rfl (by decide) rfl rfl (pa_cons (pe_call G_law_pick hr (by rfl) g_law_pick K_law_pick b_law_pick .nil pass0 (pa_cons (pv 0) (pa_cons (pe_dget hu1 (pv 1) pe_str noSl_str) pa_nil))) (pa_cons (pe_call G_law_pick hr (by rfl) g_law_pick K_law_pick b_law_pick .nil pass0 (pa_cons (pv 0) (pa_cons (pe_dget hu1 (pv 1) pe_str noSl_str) pa_nil))) pa_nil)) (by rfl))
      (pss_cons (ps_setLc (i := 7) (own := [("_law_name", 10)]) (tt := tTest (tOp (rIn K true) (tVar 10) (tVar 2))) (te := tVar 10) rfl nd rfl rfl (sw_true rfl rfl rfl (by decide +kernel)) (pi_list (pe_dget hu1 (pv 1) pe_str noSl_str)) (blkOk_by (N := N_st) (sc := defScope s_law_statement) (by decide +kernel)) (fun _ _ _ _ _ => (pg_name (i := 10) nd rfl (Or.inl rfl))) (fun _ _ _ _ _ => (pts_one (pt_cmpR op_notIn_seq (pv 10) (pv 2) (by rfl)))) (fun _ _ _ _ _ => (pv 10)))
      (pss_cons (ps_set (i := 8) nd rfl (.inl rfl) (pe_call G hr (by rfl) g Kf b .nil pass0 (pa_cons (pv 0) (pa_cons (pv 1) (pa_cons (pv 3) (pa_cons (pv 2) (pa_cons pe_int pa_nil)))))))
      (Evl.pss_cut (ps_if (PW.pt (pw_and (pt_cmpR op_lt (pv 4) pe_int (nomark _)) (pw_and1 (pt_cmpR (op_neD hr.units) (pv 7) (pe_lst pa_nil) (nomark _)))))
      (pss_one (ps_ret (pe_tup (pa_cons pe_str (pa_cons (pe_ix ix_list (pv 7) pe_int (fun _ _ => rfl)) (pa_cons (pv 8) pa_nil))))))
      pss_nil)
      (pss_cons (ps_if (pt_cmpR op_lt (pv 4) pe_int (nomark _))
      (pss_one (ps_ret (pe_ix ix_list (pe_lst (pa_cons (pe_tup (pa_cons pe_str (pa_cons (pe_tup (pa_cons pe_str (pa_cons (pe_tup (pa_cons pe_str (pa_cons (pe_op op_sub pe_int pe_int) pa_nil))) (pa_cons (pv 8) pa_nil)))) pa_nil))) (pa_cons (pe_tup (pa_cons pe_str (pa_cons (pv 8) pa_nil))) pa_nil))) (pe_op op_mod (pv 4) pe_int) (fun _ _ => rfl))))
      pss_nil)
      (pss_cons (ps_if (pt_cmpR op_lt (pv 4) pe_int (nomark _))
      (pss_cons (ps_set (i := 9) nd rfl (.inl rfl) (pe_call G hr (by rfl) g Kf b .nil pass0 (pa_cons (pv 0) (pa_cons (pv 1) (pa_cons (pv 3) (pa_cons (pv 2) (pa_cons pe_int pa_nil)))))))
        (pss_one (ps_ret (pe_tup (pa_cons pe_str (pa_cons (pv 5) (pa_cons (pv 9) (pa_cons (pv 6) (pa_cons (pe_call G hr (by rfl) g Kf b .nil pass0 (pa_cons (pv 0) (pa_cons (pv 1) (pa_cons (pv 3) (pa_cons (pv 2) (pa_cons pe_int pa_nil)))))) pa_nil)))))))))
      pss_nil)
      (pss_cons (ps_if (pt_cmpR op_lt (pv 4) pe_int (nomark _))
      (pss_one (ps_ret (pe_tup (pa_cons pe_str (pa_cons (pv 5) (pa_cons (pe_call G hr (by rfl) g Kf b .nil pass0 (pa_cons (pv 0) (pa_cons (pv 1) (pa_cons pe_int (pa_cons (pv 2) (pa_cons pe_int pa_nil)))))) (pa_cons pe_str (pa_cons (pe_tup (pa_cons pe_str (pa_cons (pe_call G_law_draw hr (by rfl) g_law_draw K_law_draw b_law_draw .nil pass0 (pa_cons (pv 0) (pa_cons pe_int pa_nil))) pa_nil))) pa_nil))))))))
      pss_nil)
      (pss_one (ps_ret (pe_tup (pa_cons pe_str (pa_cons (pv 5) (pa_cons (pe_call G hr (by rfl) g Kf b .nil pass0 (pa_cons (pv 0) (pa_cons (pv 1) (pa_cons (pe_op op_sub (pv 3) pe_int) (pa_cons (pv 2) (pa_cons pe_int pa_nil)))))) (pa_cons (pv 6) (pa_cons (pv 8) pa_nil)))))))))))))))), ?_⟩
  have hdx : dx 3 = 3450 + 0 := by decide
  have hem : em 3 = 5820 := by decide
  refine ⟨.ref d, rfl, d, c, N, 12, rfl, D, by omega, by decide, by decide, fun H1 way k1 D1 w0 w1 => ?_⟩
  have W1 := W.keep k1
  refine ⟨.ref d, rfl, .ref u, rfl, u, .ref tl, rfl, ?_, .inl ⟨d, c, tl, _, _, rfl, D1, by omega, .inl (.inl W1.ht), ?_, ?_, W1.t0.1, W1.t0.2, fun H2 vt k2 D2 hvt => ?_⟩⟩
  · rw [← wD_t tl cl nl]
    exact DGet.k (k := .inr "tables") W1.dct
  · intro e
    have := congrArg List.length e
    rw [List.length_map, W.lt] at this
    cases this
  · rw [List.length_map, W.lt]
    decide
  obtain ⟨t, ht, rfl⟩ := List.mem_map.mp hvt
  have ft := Fine.str (W.at' t ht)
  have k02 := k1.trans k2
  have W2 := W.keep k02
  refine ⟨.ref d, rfl, .ref u, rfl, u, .ref cl, rfl, ?_, .inl ⟨d, c, cl, _, _, rfl, D2, by omega, .inl (.inl W2.hc), ?_, ?_, W2.c0.1, W2.c0.2, fun H3 vc k3 D3 hvc => ?_⟩⟩
  · rw [← wD_c tl cl nl]
    exact DGet.k (k := .inr "columns") W2.dct
  · intro e
    have := congrArg List.length e
    rw [List.length_map, W.lc] at this
    cases this
  · rw [List.length_map, W.lc]
    decide
  obtain ⟨z, hz, rfl⟩ := List.mem_map.mp hvc
  have fz := Fine.str (W.ac z hz)
  have k03 := k02.trans k3
  have W3 := W.keep k03
  have S3 := S.keep k03
  refine ⟨_, _, rfl, ?_⟩
  -- what is left
  refine ⟨.ref u, rfl, u, .ref nl, rfl, ?_, nl, rfl, ⟨_, .inl (.inl W3.hn)⟩, fun B nB => ?_⟩
  · rw [← wD_n tl cl nl]
    exact DGet.k (k := .inr "names") W3.dct
  have hBd := D3.new nB
  have hBn : nl ≠ B := ne_of_none W3.hn nB
  have hBs : sc ≠ B := ne_of_none S3.at' nB
  refine lc_list (xs := ns.map V.str) (fun i H' => ∃ zs : List Str, H' B = some (.lst (zs.map V.str)) ∧ zs.length ≤ i ∧ (∀ y, y ∈ zs → Nm y ∧ y ∉ scope) ∧ ∀ b ob, b ≠ B → H3 b = some ob → H' b = some ob) ?_ ?_ ?_ ?_
  · exact ⟨[], upd_same, Nat.le_refl _, fun v hv => (nomatch hv), fun b ob nb e => by rw [upd_ne nb]; exact e⟩
  · rintro i H' _ ⟨_, _, _, _, kk⟩
    exact .inl (.inl (kk _ _ hBn W3.hn))
  · rintro i x H4 hx ⟨zs, hB, hl4, hg, kk⟩
    rw [List.getElem?_map] at hx
    obtain ⟨y, hy, rfl⟩ := Option.map_eq_some_iff.mp hx
    have hi : i < ns.length := (List.getElem?_eq_some_iff.mp hy).1
    have hln := W.ln
    refine ⟨rfl, .str y, rfl, .ref sc, rfl, sc, _, rfl, .inl (.inl (.inl (kk _ _ hBs S3.at'))), rfl, flat_map_str _, _, rfl, ?_⟩
    refine ite2 (fun e => ?_) (fun e => ?_)
    · refine ⟨.str y, rfl, _, hB, small1000 (by rw [List.length_map]; omega), zs ++ [y], by rw [List.map_append]; exact upd_same, by rw [List.length_append]; exact Nat.succ_le_succ hl4, fun v hv => ?_, fun b ob nb e => by rw [upd_ne nb]; exact kk b ob nb e⟩
      rcases List.mem_append.mp hv with h | h
      · exact hg v h
      · rw [List.mem_singleton.mp h]
        refine ⟨W.an y (List.mem_of_getElem? hy), fun hm => ?_⟩
        have e2 : (!inV (.str y) (scope.map V.str)) = true := e
        rw [in_strs, decide_eq_true hm] at e2
        cases e2
    · exact ⟨zs, hB, by omega, hg, kk⟩
  · rintro H4 ⟨zs, hB, hl4, hg, kk⟩
    rw [List.length_map, W.ln] at hl4
    have s34 : Same H3 H4 := fun b ob e => kk b ob (ne_of_none e nB) e
    have k04 := k03.trans (Keep.of s34)
    have D4 := D3.same s34
    have ew : ∀ z : Str, Fine 6 9 (.str z) → Fine 6 9 (.str z) := fun z h => h
    refine ⟨.ref d, rfl, .ref u, rfl, .int deep, rfl, .ref sc, rfl, d, c, u, tl, cl, nl, sc, _, deep, 0, ts, cs, ns, scope, rfl, D4, by omega, W.keep k04, S.keep k04, by omega, by decide, by decide, fun H5 v1 x1 k5 D5 f1 c1 p1 => ?_⟩
    rw [hem] at f1
    have k05 := k04.trans k5
    have hB5 := k5 _ _ hBd.1 hBd.2 hB
    have D5' := D5.mono (show N + 1 + 1 + 1 + dx 3 ≤ N + 3500 by omega)
    -- a let
    refine ⟨fun σ' H' => σ' = [some (.ref d), some (.ref u), some (.ref sc), some (.int deep), some (.int way), some (.str t), some (.str z), some (.ref B), some v1, none, none] ∧ Same H5 H', ?_, ?_⟩
    · refine ⟨.int way, rfl, _, _, rfl, rfl, _, rfl, ite2 (fun e1 => ⟨.ref B, rfl, Nat.zero_le _, fun l nl' => ⟨_, _, .lst (.inl (.inl (same_upd nl' _ _ hB5))) (dp_strs zs), .lst (.inl (.inl upd_same)) .nil, shaped_strs fun z h => (hg z h).1, rfl, ?_⟩⟩) (fun e1 => ?_)⟩
      · rw [neq_nilS]
        have sl := same_upd (o := .lst []) nl'
        refine ⟨_, rfl, ite2 (fun e2 => ?_) (fun e2 => ⟨rfl, sl⟩)⟩
        obtain ⟨y, ys, rfl⟩ : ∃ y ys, zs = y :: ys := by
          cases zs with
          | nil => exact absurd e2 (by decide)
          | cons y ys => exact ⟨y, ys, rfl⟩
        have fy := Fine.str ((hg y List.mem_cons_self).1)
        refine ⟨.ref B, rfl, B, _, 0, .str y, rfl, rfl, .inl (.inl (sl _ _ hB5)), at0, v1, rfl, h1000 (show 3 ≤ 1000 by decide), fun p np => ?_⟩
        have s6 := same_upd (o := .tup [.str "let", .str y, v1]) np
        have F := (Fines.cons (Fine.word (w := "let") (by decide)).k0 (.cons fy.k0 (.cons f1 .nil))).tup
        exact q _ _ _ (k05.trans (Keep.of (sl.trans s6))) ((D5'.same (sl.trans s6)).mono (by omega)) ⟨p, "let", .str y, [v1], rfl, upd_same, .inl ⟨rfl, isLet_t rfl, rfl, y, v1, rfl, (hg y List.mem_cons_self).1, rfl⟩, new_tup (.cons (.str _) (.cons (.str _) (.cons (dp_keep (KeepT.of sl) _ _ f1.flat p1) .nil))) (by simp only [flatDs, flatD, f1.flat, Bool.and_self]) np, F.mono (by omega) (by omega)⟩ (.let_ y x1 (hg y List.mem_cons_self).1 (hg y List.mem_cons_self).2 c1) (fun z' e => ⟨p, v1, rfl, by rw [← (Option.some.inj (show some y = some z' from e))]; exact upd_same⟩)
      · exact ⟨rfl, fun _ _ e => e⟩
    rintro σ' H6 ⟨rfl, s56⟩
    have k06 := k05.trans (Keep.of s56)
    have D6 := D5'.same s56
    have p16 := dp_keep (KeepT.of s56) _ _ f1.flat p1
    have W6 := W.keep k06
    have S6 := S.keep k06
    clear hB5 hB kk
    -- a need, a tell
    refine ⟨.int way, rfl, _, _, rfl, rfl, _, rfl, ite2 (fun e1 => ?_) (fun e1 => ?_)⟩
    · refine ⟨_, _, rfl, rfl, h1000 (show 2 ≤ 1000 by decide), fun a1 m1 => ⟨v1, rfl, h1000 (show 3 ≤ 1000 by decide), fun a2 m2 => ⟨h1000 (show 2 ≤ 1000 by decide), fun a3 m3 => ⟨v1, rfl, h1000 (show 2 ≤ 1000 by decide), fun a4 m4 => ⟨h1000 (show 2 ≤ 1000 by decide), fun l ml => ?_⟩⟩⟩⟩⟩
      dsimp only
      have t1 := same_upd (o := .tup [.str "int", .int (0 - 3)]) m1
      have t2 := same_upd (o := .tup [.str "<", .ref a1, v1]) m2
      have t3 := same_upd (o := .tup [.str "need", .ref a2]) m3
      have t4 := same_upd (o := .tup [.str "tell", v1]) m4
      have tl5 := same_upd (o := .lst [.ref a3, .ref a4]) ml
      have b1 := new_tup (K := K) (.cons (.str "int") (.cons (.int (0 - 3)) .nil)) rfl m1
      have b2 := new_tup (K := K) (.cons (.str "<") (.cons b1 (.cons (dp_keep (KeepT.of t1) _ _ f1.flat p16) .nil))) (by simp only [flatDs, flatD, f1.flat, Bool.and_self]) m2
      have b3 := new_tup (K := K) (.cons (.str "need") (.cons b2 .nil)) (by simp only [flatDs, flatD, f1.flat, Bool.and_self]) m3
      have b4 := new_tup (K := K) (.cons (.str "tell") (.cons (dp_keep (KeepT.of (t1.trans (t2.trans t3))) _ _ f1.flat p16) .nil)) (by simp only [flatDs, flatD, f1.flat, Bool.and_self]) m4
      have fi : Fine 1 36 (.tuple [.str "int", .int (0 - 3)]) := (tup2 (by decide) (Fine.int (by decide) (by decide)))
      have F3 := tup2 (w := "need") (by decide) (((Fines.cons (Fine.word (w := "<") (by decide)).k0 (.cons (fi.mono (show 1 ≤ 6 by decide) (Nat.le_refl _)) (.cons f1 .nil))).tup))
      have F4 := tup2 (w := "tell") (by decide) f1
      have hs3 : SV K _ (.ref a3) (.tuple [.str "need", .tuple [.str "<", .tuple [.str "int", .int (0 - 3)], x1]]) := ⟨a3, "need", .ref a2, [], rfl, upd_same, .inr (.inl ⟨.inl rfl, isLet_f (by decide), colD_2 _, rfl⟩), b3, F3.mono (by decide) (by decide)⟩
      have hs4 : SV K _ (.ref a4) (.tuple [.str "tell", x1]) := ⟨a4, "tell", v1, [], rfl, upd_same, .inr (.inl ⟨.inr rfl, isLet_f (by decide), colD_2 _, rfl⟩), b4, F4.mono (by decide) (by decide)⟩
      have h3 := (hs3.keep (KeepT.of t4)).keep (KeepT.of tl5)
      have h4 := hs4.keep (KeepT.of tl5)
      have t15 := t1.trans (t2.trans (t3.trans (t4.trans tl5)))
      have hl : upd (upd (upd (upd (upd H6 a1 (.tup [.str "int", .int (0 - 3)])) a2 (.tup [.str "<", .ref a1, v1])) a3 (.tup [.str "need", .ref a2])) a4 (.tup [.str "tell", v1])) l (.lst [.ref a3, .ref a4]) l = some (.lst [.ref a3, .ref a4]) := upd_same
      clear t1 t2 t3 t4 tl5 b1 b2 b3 b4 hs3 hs4 m1 m2 m3 m4 ml
      revert h3 h4 t15 hl
      generalize upd (upd (upd (upd (upd H6 a1 (.tup [.str "int", .int (0 - 3)])) a2 (.tup [.str "<", .ref a1, v1])) a3 (.tup [.str "need", .ref a2])) a4 (.tup [.str "tell", v1])) l (.lst [.ref a3, .ref a4]) = H7
      intro h3 h4 t15 hl
      have k07 := k06.trans (Keep.of t15)
      have D7 := (D6.same t15).mono (show N + 3500 ≤ N + 20000 by omega)
      have hw2 : way % 2 = 0 ∨ way % 2 = 1 := by omega
      refine ⟨.int way, rfl, _, _, rfl, rfl, (show (0 : Int) < 2 by decide), ?_⟩
      dsimp only
      rcases hw2 with e2 | e2
      · rw [e2]
        exact ⟨l, _, 0, .ref a3, rfl, rfl, .inl (.inl hl), at0, q _ _ _ k07 D7 h3 (.need x1 c1) (.no (letNm_no (by decide)))⟩
      · rw [e2]
        exact ⟨l, _, 1, .ref a4, rfl, rfl, .inl (.inl hl), at1, q _ _ _ k07 D7 h4 (.tell x1 c1) (.no (letNm_no (by decide)))⟩
    -- an each
    refine ⟨.int way, rfl, _, _, rfl, rfl, _, rfl, ite2 (fun e2 => ?_) (fun e2 => ?_)⟩
    · refine ⟨.ref d, rfl, .ref u, rfl, .int deep, rfl, .ref sc, rfl, d, c, u, tl, cl, nl, sc, _, deep, 2, ts, cs, ns, scope, rfl, D6, by omega, W6, S6, by omega, by decide, by decide, fun H7 v2 x2 k7 D7 f2 c2 p2 => ?_⟩
      have k07 := k06.trans k7
      rw [hem] at f2
      refine ⟨.str t, rfl, v2, rfl, .str z, rfl, .ref d, rfl, .ref u, rfl, .int deep, rfl, .ref sc, rfl, d, c, u, tl, cl, nl, sc, _, deep, 2, ts, cs, ns, scope, rfl, D7, by omega, W.keep k07, S.keep k07, by omega, by decide, by decide, fun H8 v3 x3 k8 D8 f3 c3 p3 => ⟨h1000 (show 5 ≤ 1000 by decide), fun p np => ?_⟩⟩
      rw [hem] at f3
      have s9 := same_upd (o := .tup [.str "each", .str t, v2, .str z, v3]) np
      have F := (Fines.cons (Fine.word (w := "each") (by decide)).k0 (.cons ft.k0 (.cons f2 (.cons fz.k0 (.cons f3 .nil))))).tup
      exact q _ _ _ ((k07.trans k8).trans (Keep.of s9)) ((D8.same s9).mono (by omega)) ⟨p, "each", .str t, [v2, .str z, v3], rfl, upd_same, .inr (.inr ⟨.inr rfl, isLet_f (by decide), t, v2, z, v3, rfl, rfl, colD_p (.inr rfl), W.at' t ht, W.ac z hz⟩), new_tup (.cons (.str _) (.cons (.str _) (.cons (dp_keep (k8.t D7) _ _ f2.flat p2) (.cons (.str _) (.cons p3 .nil))))) (by simp only [flatDs, flatD, f2.flat, f3.flat, Bool.and_self]) np, F.mono (by omega) (by omega)⟩ (.each t z x2 x3 ht hz c2 c3) (.no (letNm_no (by decide)))
    -- a put to in
    refine ⟨.int way, rfl, _, _, rfl, rfl, _, rfl, ite2 (fun e3 => ?_) (fun e3 => ?_)⟩
    · refine ⟨.str t, rfl, .ref d, rfl, .ref u, rfl, .ref sc, rfl, d, c, u, tl, cl, nl, sc, _, 0, 0, ts, cs, ns, scope, rfl, D6, by omega, W6, S6, by decide, by decide, by decide, fun H7 v2 x2 k7 D7 f2 c2 p2 => ?_⟩
      have k07 := k06.trans k7
      rw [hem] at f2
      refine ⟨.ref d, rfl, d, c, _, 4, rfl, D7, by omega, by decide, by decide, fun H8 r k8 D8 r0 r1 => ⟨h1000 (show 2 ≤ 1000 by decide), fun p1 np1 => ⟨h1000 (show 5 ≤ 1000 by decide), fun p np => ?_⟩⟩⟩
      have s9 := same_upd (o := .tup [.str "int", .int r]) np1
      have s10 := same_upd (o := .tup [.str "put", .str t, v2, .str "in", .ref p1]) np
      have bi := new_tup (K := K) (.cons (.str "int") (.cons (.int r) .nil)) rfl np1
      have fi : Fine 1 36 (.tuple [.str "int", .int r]) := tup2 (by decide) (Fine.int (by omega) (by omega))
      have F := (Fines.cons (Fine.word (w := "put") (by decide)).k0 (.cons ft.k0 (.cons f2 (.cons (Fine.word (w := "in") (by decide)).k0 (.cons (fi.mono (show 1 ≤ 6 by decide) (Nat.le_refl _)) .nil))))).tup
      exact q _ _ _ ((k07.trans k8).trans (Keep.of (s9.trans s10))) ((D8.same (s9.trans s10)).mono (by omega)) ⟨p, "put", .str t, [v2, .str "in", .ref p1], rfl, upd_same, .inr (.inr ⟨.inl rfl, isLet_f (by decide), t, v2, "in", .ref p1, rfl, rfl, colD_p (.inl rfl), W.at' t ht, in_nm⟩), new_tup (.cons (.str _) (.cons (.str _) (.cons (dp_keep ((k8.t D7).trans (KeepT.of s9)) _ _ f2.flat p2) (.cons (.str _) (.cons bi .nil))))) (by simp only [flatDs, flatD, f2.flat, Bool.and_self]) np, F.mono (by omega) (by omega)⟩ (.put t "in" x2 _ ht (.inr rfl) c2 (.int false 4 r (by omega) (by omega))) (.no (letNm_no (by decide)))
    -- a put
    refine ⟨.str t, rfl, .ref d, rfl, .ref u, rfl, .int deep, rfl, deep, 1, rfl, rfl, .ref sc, rfl, d, c, u, tl, cl, nl, sc, _, _, 0, ts, cs, ns, scope, rfl, D6, by omega, W6, S6, by omega, by decide, by decide, fun H7 v2 x2 k7 D7 f2 c2 p2 => ?_⟩
    rw [hem] at f2
    refine ⟨.str z, rfl, v1, rfl, h1000 (show 5 ≤ 1000 by decide), fun p np => ?_⟩
    have s9 := same_upd (o := .tup [.str "put", .str t, v2, .str z, v1]) np
    have F := (Fines.cons (Fine.word (w := "put") (by decide)).k0 (.cons ft.k0 (.cons f2 (.cons fz.k0 (.cons f1 .nil))))).tup
    exact q _ _ _ ((k06.trans k7).trans (Keep.of s9)) ((D7.same s9).mono (by omega)) ⟨p, "put", .str t, [v2, .str z, v1], rfl, upd_same, .inr (.inr ⟨.inl rfl, isLet_f (by decide), t, v2, z, v1, rfl, rfl, colD_p (.inl rfl), W.at' t ht, W.ac z hz⟩), new_tup (.cons (.str _) (.cons (.str _) (.cons p2 (.cons (.str _) (.cons (dp_keep (k7.t D6) _ _ f1.flat p16) .nil))))) (by simp only [flatDs, flatD, f1.flat, f2.flat, Bool.and_self]) np, F.mono (by omega) (by omega)⟩ (.put t z x2 x1 ht (.inl hz) c2 c1) (.no (letNm_no (by decide)))
end
end L17

namespace L17
open PySem PySem.Spec PyProof.Rows L2 GR
abbrev SVs (K : PySem.W.Frag) (H : Hp) : List V → List PyData → Prop := Paired (SV K H)
theorem svs_keep {K : PySem.W.Frag} {H H' : Hp} (k : KeepT H H') : ∀ {vs : List V} {ds : List PyData}, SVs K H vs ds → SVs K H' vs ds
  | _, _, .nil => .nil
  | _, _, .cons h t => .cons (h.keep k) (svs_keep k t)
theorem svs_append {K : PySem.W.Frag} {H : Hp} : ∀ {vs us : List V} {ds es : List PyData}, SVs K H vs ds → SVs K H us es → SVs K H (vs ++ us) (ds ++ es)
  | _, _, _, _, .nil, h => h
  | _, _, _, _, .cons h t, g => .cons h (svs_append t g)
theorem svs_len {K : PySem.W.Frag} {H : Hp} {vs : List V} {ds : List PyData} (h : SVs K H vs ds) : vs.length = ds.length := Paired.length h
/-- the variables that these statements let -/
def letsD (ds : List PyData) : List Str := ds.filterMap letNm
theorem letsD_append (a b : List PyData) : letsD (a ++ b) = letsD a ++ letsD b := List.filterMap_append ..
/-- each statement sees the lets ahead of it -/
inductive Chain (ts cs : List Str) : List PyData → Prop
  | nil : Chain ts cs []
  | snoc (ds : List PyData) (x : PyData) : Chain ts cs ds → StX ts cs (letsD ds) x → Chain ts cs (ds ++ [x])
theorem StX.let' {ts cs sc : List Str} {x : PyData} (h : StX ts cs sc x) (e : isLet x = true) : ∃ z, letNm x = some z := by
  cases h with
  | let_ z x => exact ⟨z, rfl⟩
  | _ => exact absurd e (by simp only [isLet]; decide)
theorem isLet_no {x : PyData} (h : isLet x = false) : letNm x = none := by
  unfold isLet at h
  split at h
  · exact letNm_no (of_decide_eq_false h)
  · rename_i hx
    unfold letNm
    split
    · exact absurd rfl (hx _ _)
    · rfl
section
variable {P : Program} {w : World} {K : PySem.W.Frag} {mg : Str → Option Value} {base : Heap}
abbrev s_law_transaction : Stmt := topS 52
abbrev N_tr : List Str := ["_law_deck_here", "_law_world_here", "_law_most", "_law_deep", "_law_scope", "_law_found", "_law_k"]
abbrev ps_tr : List Str := ["_law_deck_here", "_law_world_here", "_law_most", "_law_deep"]
theorem sc_law_transaction : FnScope N_tr ps_tr (defScope s_law_transaction) := ⟨rfl, rfl, rfl, by decide +kernel, rfl, by decide +kernel, by decide +kernel⟩
def sp_tran (K : PySem.W.Frag) : Sp := fun vs H Q _ => ∃ (d c u tl cl nl : Addr) (N deep : Int) (many : Nat) (ts cs ns : List Str), vs = [.ref d, .ref u, .int (many : Int), .int deep] ∧ deep ≤ 3 ∧ many ≤ 6 ∧ Deck H d c N ∧ N < 2 ^ 52 ∧ Wd H d c u tl cl nl ts cs ns ∧
  ∀ H' p us ds, Keep d c H H' → Deck H' d c (N + 200000) → H' p = some (.tup us) → SVs K H' us ds → us.length ≤ 6 → Chain ts cs ds → Q (.ref p) H'
theorem ok_tran {f f_law_draw f_st : Addr} {fd fd_law_draw d_st : FuncData} {k : Nat} (F : Fun K "_law_transaction" "_law_transaction" s_law_transaction f fd) (G_law_draw : FnOk P w K mg base CX0 k f_law_draw fd_law_draw ["_law_deck_here", "_law_most"] sp_draw)
    (g_law_draw : mg "_law_draw" = some (.ref f_law_draw)) (K_law_draw : PySem.W.keepIn K (.ref f_law_draw) = true) (b_law_draw : Binds K fd_law_draw ["_law_deck_here", "_law_most"] [])
    (G : FnOk P w K mg base CX0 k f_st d_st ps_st (sp_stmt K)) (g : mg "_law_statement" = some (.ref f_st)) (Kf : PySem.W.keepIn K (.ref f_st) = true) (b : Binds K d_st ps_st []) (mrange : mg "range" = none) (mint : mg "int" = none) (mtuple : mg "tuple" = none) : FnOk P w K mg base CX0 (k + 1) f fd ps_tr (sp_tran K) := by
  have nd := sc_law_transaction.nd
  refine F.ok sc_law_transaction (fun vs H Q E h => ?_) (fun cdv A outer s H vs Q E hr h => ?_)
  · obtain ⟨d, c, u, tl, cl, nl, N, deep, many, ts, cs, ns, rfl, _⟩ := h
    rfl
  obtain ⟨d, c, u, tl, cl, nl, N, deep, many, ts, cs, ns, rfl, hdeep, hmany, D, hN, W, q⟩ := h
  refine ⟨_, (pss_cons (ps_set (i := 4) nd rfl (.inl rfl) (pe_lst pa_nil))
      (pss_cons (ps_set (i := 5) nd rfl (.inl rfl) (pe_lst pa_nil))
      (pss_cons (ps_for PassesOwn.never rfl (pi_range1 rfl mrange (pa_cons (pe_call G_law_draw hr (by rfl) g_law_draw K_law_draw b_law_draw .nil pass0 (pa_cons (pv 0) (pa_cons (pe_op op_add (pv 2) pe_int) pa_nil))) pa_nil)) (pg_name (i := 6) nd rfl (Or.inl rfl))
      (pss_cons (ps_expr (pe_bm PySem.F.plainAttrs_list PySem.F.slot_list_append PySem.F.type_list_append mt_append (pv 5) (pa_cons (pe_call G hr (by rfl) g Kf b .nil pass0 (pa_cons (pv 0) (pa_cons (pv 1) (pa_cons (pv 4) (pa_cons (pv 3) pa_nil))))) pa_nil)))
        (pss_one (ps_set (i := 4) nd rfl (.inl rfl) (pe_op op_cat (pv 4) (pe_op op_rep (pe_lst (pa_cons (pe_ix ix_tup (pe_ix ix_list (pv 5) (pe_un un_neg pe_int) (fun _ _ => rfl)) pe_int (fun _ _ => rfl)) pa_nil)) (pe_callTy call_int1 (by rfl) mint boot_int (pa_cons (pe_cmpR op_eq (pe_ix ix_tup (pe_ix ix_list (pv 5) (pe_un un_neg pe_int) (fun _ _ => rfl)) pe_int (fun _ _ => rfl)) pe_str (nomark _)) pa_nil))))))))
      (pss_one (ps_ret (pe_callTy call_tuple_of (by rfl) mtuple boot_tuple (pa_cons (pv 5) pa_nil))))))), ?_⟩
  refine ⟨Nat.zero_le _, fun sc nsc => ⟨Nat.zero_le _, fun fo nfo => ?_⟩⟩
  have s1 := same_upd (o := .lst []) nsc
  have s2 := same_upd (o := .lst []) nfo
  have hsc := D.new nsc
  have hfo := (D.same s1).new nfo
  have h1 := s2 _ _ (show upd H sc (.lst []) sc = _ from upd_same)
  have h2 : upd (upd H sc (.lst [])) fo (.lst []) fo = some (.lst []) := upd_same
  have nfoH : H fo = none := s1.free nfo
  have hsf : sc ≠ fo := ne_of_none (show upd H sc (.lst []) sc = some (.lst []) from upd_same) nfo
  have s12 := s1.trans s2
  revert h1 h2 s12
  clear s1 s2
  generalize upd (upd H sc (.lst [])) fo (.lst []) = H1
  intro h1 h2 s12
  have D1 := D.same s12
  refine ⟨.ref d, rfl, .int (many : Int), rfl, (many : Int), 1, rfl, rfl, d, c, N, (many : Int) + 1, rfl, D1, by omega, by omega, by omega, fun H2 r k2 D2 r0 r1 => ?_⟩
  obtain ⟨m, rfl⟩ := Int.eq_ofNat_of_zero_le r0
  refine ⟨(m : Int), rfl, by omega, by omega, ?_⟩
  rw [show ((m : Int)).toNat = m by omega]
  refine for_range (n := m) (fun i σ H' => ∃ (sc : Addr) (y6 : Option V) (us : List V) (ds : List PyData) (scope : List Str), σ = [some (.ref d), some (.ref u), some (.int (many : Int)), some (.int deep), some (.ref sc), some (.ref fo), y6] ∧ Keep d c H H' ∧ Deck H' d c (N + 1 + 20000 * (i : Int)) ∧ H' fo = some (.lst us) ∧ SVs K H' us ds ∧ us.length = i ∧ Scp H' d c sc scope ∧ scope.length ≤ i ∧ sc ≠ fo ∧ Chain ts cs ds ∧ letsD ds = scope) ?_ ?_ ?_
  · exact ⟨sc, none, [], [], [], rfl, (Keep.of s12).trans k2, D2.mono (by omega), k2 _ _ hfo.1 hfo.2 h2, .nil, rfl, ⟨k2 _ _ hsc.1 hsc.2 h1, hsc, fun z hz => (nomatch hz), Nat.zero_le _⟩, Nat.zero_le _, hsf, .nil, rfl⟩
  · rintro i σ H3 hi ⟨sc, y6, us, ds, scope, rfl, k3, D3, hf, hs, hl, S, hsl, nsf, hch, hsc'⟩
    refine ⟨.ref fo, rfl, .inl ⟨rfl, us, .inl (.inl hf)⟩, .ref d, rfl, .ref u, rfl, .ref sc, rfl, .int deep, rfl, d, c, u, tl, cl, nl, sc, _, deep, ts, cs, ns, scope, rfl, hdeep, D3, by omega, W.keep k3, S, fun H4 v x k4 D4 sv sx lh => ?_⟩
    have hf4 := k4 _ _ hfo.1 hfo.2 hf
    have S4 := S.keep k4
    have hs4 := svs_keep (k4.t D3) hs
    refine ⟨fo, us, v, rfl, rfl, hf4, small1000 (by omega), ?_⟩
    have kf : KeepT H4 (upd H4 fo (.lst (us ++ [v]))) := KeepT.lst hf4
    have hf5 : upd H4 fo (.lst (us ++ [v])) fo = some (.lst (us ++ [v])) := upd_same
    have hs5 := svs_append (svs_keep kf hs4) (.cons (sv.keep kf) .nil)
    have sv5 := sv.keep kf
    have lh5 := lh.keep kf
    have D5 := D4.upd (o := .lst (us ++ [v])) hfo.1 hfo.2
    have k5 : Keep d c H (upd H4 fo (.lst (us ++ [v]))) := fun b o n1 n2 e => by
      rw [upd_ne (ne_of_none e nfoH)]
      exact k4 _ _ n1 n2 (k3 _ _ n1 n2 e)
    have hsc5 : upd H4 fo (.lst (us ++ [v])) sc = some (.lst (scope.map V.str)) := by
      rw [upd_ne nsf]
      exact S4.at'
    revert hf5 hs5 sv5 lh5 D5 k5 hsc5
    generalize upd H4 fo (.lst (us ++ [v])) = H5
    intro hf5 hs5 sv5 lh5 D5 k5 hsc5
    obtain ⟨p, w', v1, vs, rfl, hp, hsf, hdp, hfin⟩ := id sv5
    have hlet := hsf.let'
    refine ⟨.ref sc, rfl, .ref fo, rfl, 1, rfl, fo, _, -1, .ref p, rfl, rfl, .inl (.inl hf5), atI_last _ _, p, _, 1, v1, rfl, rfl, .inl (.inl hp), at1, h1000 (show 1 ≤ 1000 by decide), fun l1 nl1 => ?_⟩
    have s6 := same_upd (o := .lst [v1]) nl1
    have hl1 : upd H5 l1 (.lst [v1]) l1 = some (.lst [v1]) := upd_same
    revert s6 hl1
    generalize upd H5 l1 (.lst [v1]) = H6
    intro s6 hl1
    refine ⟨.ref fo, rfl, 1, rfl, fo, _, -1, .ref p, rfl, rfl, .inl (.inl (s6 _ _ hf5)), atI_last _ _, p, _, 0, .str w', rfl, rfl, .inl (.inl (s6 _ _ hp)), at0, rfl, .inr ⟨_, rfl, ?_⟩⟩
    refine ⟨l1, _, [v1], rfl, rfl, hl1, ?_, ?_, ?_, fun l2 nl2 => ?_⟩
    · split <;> decide
    · split <;> decide
    · split
      · exact h1000 (show 1 * 1 ≤ 1000 by decide)
      · exact h1000 (show 1 * 0 ≤ 1000 by decide)
    obtain ⟨more, hmore, hm1, hmn, hml⟩ : ∃ more : List Str, (List.replicate (if decide (V.str w' = V.str "let") = true then 1 else 0 : Int).toNat [v1]).flatten = more.map V.str ∧ more.length ≤ 1 ∧ (∀ z, z ∈ more → Nm z) ∧ letsD [x] = more := by
      by_cases e : V.str w' = V.str "let"
      · obtain ⟨z, rfl, hz⟩ := hlet (V.str.inj e)
        rw [decide_eq_true e]
        have hil : isLet x = true := by
          rcases hsf with ⟨_, h, _⟩ | ⟨h, _⟩ | ⟨h, _⟩
          · exact h
          · rcases h with h | h <;> exact absurd ((V.str.inj e).symm.trans h) (by decide)
          · rcases h with h | h <;> exact absurd ((V.str.inj e).symm.trans h) (by decide)
        obtain ⟨z', hz'⟩ := sx.let' hil
        obtain ⟨p', e', q1, q2⟩ := lh5 z' hz'
        cases q1
        rw [hp] at q2
        have q3 : V.str z = V.str z' := (List.cons.inj (List.cons.inj (HO.tup.inj (Option.some.inj q2))).2).1
        exact ⟨[z], rfl, Nat.le_refl _, fun y hy => by rw [List.mem_singleton.mp hy]; exact hz, by show [x].filterMap letNm = [z]; rw [List.filterMap_cons, hz', V.str.inj q3]; rfl⟩
      · rw [decide_eq_false e]
        have hil : isLet x = false := by
          rcases hsf with ⟨h, _⟩ | ⟨_, h, _⟩ | ⟨_, h, _⟩
          · exact absurd (congrArg V.str h) e
          · exact h
          · exact h
        exact ⟨[], rfl, Nat.zero_le _, fun y hy => (nomatch hy), by show [x].filterMap letNm = []; rw [List.filterMap_cons, isLet_no hil]; rfl⟩
    rw [hmore]
    have s7 := same_upd (o := .lst (more.map V.str)) nl2
    have hl2 : upd H6 l2 (.lst (more.map V.str)) l2 = some (.lst (more.map V.str)) := upd_same
    have s67 := s6.trans s7
    revert s67 hl2
    clear s7 nl2
    generalize upd H6 l2 (.lst (more.map V.str)) = H7
    intro hl2 s67
    refine ⟨sc, l2, _, _, rfl, rfl, s67 _ _ hsc5, hl2, ?_, fun sc2 nsc2 => ?_⟩
    · rw [List.length_map, List.length_map]
      exact h1000 (by omega)
    rw [← List.map_append]
    have s8 := same_upd (o := .lst ((scope ++ more).map V.str)) nsc2
    have s58 := s67.trans s8
    have hsc2 := (D5.same s67).new nsc2
    exact ⟨sc2, _, us ++ [.ref p], ds ++ [x], scope ++ more, rfl, k5.trans (Keep.of s58), (D5.same s58).mono (by omega), s58 _ _ hf5, svs_keep (KeepT.of s58) hs5, by rw [List.length_append, hl]; rfl, ⟨upd_same, hsc2, fun z hz => by
      rcases List.mem_append.mp hz with h | h
      · exact S.nm z h
      · exact hmn z h, by rw [List.length_append]; omega⟩, by rw [List.length_append]; omega, (ne_of_none (s67 _ _ hf5) nsc2).symm, .snoc ds x hch (by rw [hsc']; exact sx), by rw [letsD_append, hsc', hml]⟩
  · rintro σ H3 ⟨sc, y6, us, ds, scope, rfl, k3, D3, hf, hs, hl, S, hsl, nsf, hch, hsc'⟩
    refine ⟨.ref fo, rfl, fo, us, rfl, .inl ⟨.inl (.inl hf), fun p np => ?_⟩⟩
    have s4 := same_upd (o := .tup us) np
    exact q _ p us ds (k3.trans (Keep.of s4)) ((D3.same s4).mono (by omega)) upd_same (svs_keep (KeepT.of s4) hs) (by omega) hch
end
end L17

namespace WX
open PySem PySem.Spec PySem.AutoSeq1
theorem ext_tup (l : Addr) (items : Array Value) (n : Nat) (b : Addr) (items2 : Array Value) (n2 : Nat) (dd : Option Addr) (sl : Array (Option Value)) (hs0 : ¬(!items.isEmpty && Builtin.List.listTooLong (items.size + items2.size)) = true) (hs1 : items.size ≤ sizeLine) (hs2 : items.size + items2.size ≤ sizeLine + 1) :
    Meets (Builtin.«list.extend» ⟨[.ref l, .ref b], []⟩) (fun _ R s => s.heap.get? l = some { cls := .type "list", dict := none, data := .seq items n, slots := #[] } ∧ s.heap.get? b = some { cls := .type "tuple", dict := dd, data := .seq items2 n2, slots := sl } ∧ R (.ok (.ret Value.none)) { s with heap := s.heap.update l (Obj.mapSeq fun x => x ++ items2), toks := s.toks }) := by
  refine .of_wp fun prog w A R s h => ?_
  obtain ⟨hp, g, d, tk, os⟩ := s
  obtain ⟨hl, hb, h⟩ := h
  have f1 := idx_int
  have f2 := sub_tuple_tuple
  have f3 := sub_list_list
  have f4 := sub_tuple_list
  have f5 := sub_list_tuple
  have hz' : (items ++ items2).size ≤ sizeLine + 1 := by
    rw [Array.size_append]
    exact hs2
  wp_walk using (wpAny_updateSeq hl rfl (hz := hs1) (_hz' := hz')), wpAny_loadPart' hl, wpAny_loadPart' hb
  exact ⟨_, rfl, h⟩
end WX

/-! Words that the hand layer lacks: a list extended by a tuple. -/
namespace WX
open PySem PySem.Spec PyProof.Rows L2
def rExtendT (K : PySem.W.Frag) : V → List V → Hp → VK → Prop := fun x vs H Q => ∃ (l b : Addr) (xs zs : List V), x = .ref l ∧ vs = [.ref b] ∧ H l = some (.lst xs) ∧ SqT K H b zs ∧ xs.length + zs.length ≤ sizeLine ∧ Q .non (upd H l (.lst (xs ++ zs)))
section
variable {X : Cx}
theorem mt_extendT : MtM X "list.extend" (rExtendT X.K) := by
  intro pins s σ H x vs v us Q I rx rv h
  obtain ⟨l, b, xs, zs, rfl, rfl, hH, hB, hz, q⟩ := h
  cases rx
  obtain ⟨u, rfl, ru⟩ := rv.one
  cases ru
  obtain ⟨z, its, n, r, hl, e⟩ := I.lstM hH
  obtain ⟨its2, r2, ⟨⟨c2, d2, dat2, sl2⟩, g2, hc2, n2, hd2⟩, z2⟩ := I.tuple hB
  have hc2 : c2 = .type "tuple" := hc2
  have hd2 : dat2 = .seq its2.toArray n2 := hd2
  subst hc2
  subst hd2
  have hl2 := r2.length
  have small : its.toArray.size + its2.toArray.size ≤ sizeLine := by
    rw [List.size_toArray, List.size_toArray]
    omega
  have short : ¬ (!its.toArray.isEmpty && Builtin.List.listTooLong (its.toArray.size + its2.toArray.size)) = true := by
    rw [notLongL small, Bool.and_false]
    exact Bool.false_ne_true
  refine call_meets F.slot_list_extend ⟨_, e, rfl⟩ F.entry_list_extend (F.args_list_extend_2 _ _)
    (ext_tup l its.toArray n b its2.toArray n2 d2 sl2 short (by rw [List.size_toArray]; omega) (by omega)) ⟨e, g2, ?_⟩
  refine ⟨.non, _, I.lset (its' := its ++ its2) hH e (by simp) (r.append r2) ?_, rfl, q⟩
  rw [List.length_append]
  omega
/-- a list extended by a list or by a tuple -/
def rExtendA (K : PySem.W.Frag) : V → List V → Hp → VK → Prop := fun x vs H Q => rExtend x vs H Q ∨ rExtendT K x vs H Q
theorem mt_extendA : MtM X "list.extend" (rExtendA X.K) := by
  intro pins s σ H x vs v us Q I rx rv h
  rcases h with h | h
  · exact mt_extend pins s σ H x vs v us Q I rx rv h
  · exact mt_extendT pins s σ H x vs v us Q I rx rv h
end
end WX

/-! Words that the hand layer lacks: a call by place of a def with a star; max(list of ints, default=); frozen tuples; dict(tuple of pairs). -/
namespace SC
open PySem PySem.Spec PyProof.Rows L2
section
variable {X : Cx} {CX : CXT} {k : Nat} {f : Addr} {sp : Sp} {E : XK} {x : Str} {e : Expr} {es : List Expr} {t : TA} {p pos : Pos}
theorem pe_callR (F : FnR X.prog X.w X.K X.mg X.base CX k f sp) (hr : Room k X.A) (hg : Gl X x) (hm : X.mg x = some (.ref f)) (hk : PySem.W.keepIn X.K (.ref f) = true) (hx : Passes CX X E)
    (ha : PA X (e :: es) t) (hdb : (x == ("__debug__" : Str)) = false := by decide) (he : starEach (e :: es) X.env = (false, eval e X.env) :: starEach es X.env := by rfl) (hpl : (backTo pos (starEach es X.env)).any (·.1) = false := by rfl) :
    PE X (.Call (.Name x p) (e :: es) [] pos) (tCall sp [] E t) := by
  refine ⟨fun pins s σ H Q I h => ?_⟩
  refine wpAny_Call_Name_kw (ld_glob I hg hm ?_ hdb)
  refine PySem.W.callWith_K (h₀ := X.base) I.ok.mod.kin hk (thn (ha.run pos pins s σ H _ I h) fun us s1 ⟨vs, H1, I1, r, q⟩ => ⟨I1.kIn, ?_⟩) he hpl
  have q : sp (vs ++ []) H1 Q E := q
  rw [List.append_nil] at q
  exact wpAny_call (run_fnR F hr hx I1 r q)
theorem pe_callR0 (F : FnR X.prog X.w X.K X.mg X.base CX k f sp) (hr : Room k X.A) (hg : Gl X x) (hm : X.mg x = some (.ref f)) (hk : PySem.W.keepIn X.K (.ref f) = true) (hx : Passes CX X E)
    (hdb : (x == ("__debug__" : Str)) = false := by decide) : PE X (.Call (.Name x p) [] [] pos) (tCall sp [] E tNil) := by
  refine ⟨fun pins s σ H Q I h => ?_⟩
  refine wpAny_Call_Name_kw (ld_glob I hg hm ?_ hdb)
  exact PySem.W.callWith_K0 I.kIn hk (wpAny_call (run_fnR (us := []) F hr hx I .nil h))
end
/-! ### max of a list of ints, with a default -/
def rMaxI (K : PySem.W.Frag) : List V → List V → Hp → VK → Prop := fun vs zs H Q => ∃ (a : Addr) (ns : List Int) (d : V), vs = [.ref a] ∧ zs = [d] ∧ SqL K H a (ns.map V.int) ∧ ns ≠ [] ∧ ∀ n, n ∈ ns → (∀ m, m ∈ ns → m ≤ n) → Q (.int n) H
theorem holdAll_ints {h : Heap} : ∀ {ns : List Int} {us : List Value}, Vals (ns.map V.int) us → PySem.W.HoldAll h us ns
  | [], us, r => by
    rw [List.map_nil] at r
    cases r
    exact ⟨[], .nil⟩
  | n :: ns, us, r => by
    rw [List.map_cons] at r
    cases r with
    | cons a b =>
      obtain ⟨t, rfl⟩ := a
      obtain ⟨as, ih⟩ := holdAll_ints b
      exact ⟨_, .cons (.int n t) ih⟩
theorem maxI_ge : ∀ (xs : List Int) (x : Int), x ≤ PySem.W.maxOf x xs ∧ ∀ y, y ∈ xs → y ≤ PySem.W.maxOf x xs
  | [], x => ⟨Int.le_refl _, fun y h => nomatch h⟩
  | z :: xs, x => by
    have e : PySem.W.maxOf x (z :: xs) = PySem.W.maxOf (if x < z then z else x) xs := by
      show List.foldl _ _ xs = List.foldl _ _ xs
      congr 1
      show (if decide (x < z) = true then z else x) = _
      by_cases h : x < z
      · rw [if_pos h, if_pos (decide_eq_true h)]
      · rw [if_neg h, if_neg (by simpa using h)]
    obtain ⟨h1, h2⟩ := maxI_ge xs (if x < z then z else x)
    rw [e]
    refine ⟨Int.le_trans ?_ h1, fun y hy => ?_⟩
    · split <;> omega
    · rcases List.mem_cons.mp hy with rfl | hy
      · exact Int.le_trans (by split <;> omega) h1
      · exact h2 y hy
section
variable {X : Cx}
theorem cr_maxD (hc : X.calm = true) (hu : X.A.units + 1 + 0 < cLine) : CallRK X (.builtin "max") [Str.ofString "default"] (rMaxI X.K) := by
  intro pins s σ H vs zs us ws Q I r rz h
  obtain ⟨a, ns, d, rfl, rfl, hs, h0, q⟩ := h
  obtain rfl := Vals.ref1 r
  obtain ⟨w1, rfl, e1⟩ := vals1 rz
  obtain ⟨its, rv, hl, hz⟩ := I.list hs
  refine PySem.W.max_list_datum_default (α := Int) (I.ok.hd hc) hl.isList (holdAll_ints (by simpa using rv)) hu (fun z => absurd z h0) fun y ys i v h' tk e hi hv hk => ?_
  subst e
  obtain ⟨as, hv⟩ := hv
  obtain ⟨t, rfl, _⟩ := PyProof.Rows.reads_int_inv hv
  have hm : PySem.W.maxOf y ys ∈ y :: ys := by
    have hi' : its[i]? = some (.int (PySem.W.maxOf y ys) t) := by simpa using hi
    have hlt : i < its.length := (List.getElem?_eq_some_iff.mp hi').1
    rw [← rv.length, List.length_map] at hlt
    obtain ⟨u, g1, g2⟩ := rv.get (show ((y :: ys).map V.int)[i]? = some (V.int ((y :: ys)[i])) by rw [List.getElem?_map, List.getElem?_eq_getElem hlt]; rfl)
    rw [hi'] at g1
    cases g1
    obtain ⟨t', e'⟩ := g2
    have e2 : PySem.W.maxOf y ys = (y :: ys)[i] := by injection e'
    rw [e2]
    exact List.getElem_mem hlt
  have hg := maxI_ge ys y
  exact ⟨.int _, H, I.kept (t' := tk) hk, ⟨t, rfl⟩, q _ hm fun m hm' => by
    rcases List.mem_cons.mp hm' with rfl | hm'
    · exact hg.1
    · exact hg.2 m hm'⟩
end
/-! ### tuples whose objects are known; dict of such -/
/-- a tuple of which it is known that its object holds no dict -/
def TupF (H : Hp) (a : Addr) (xs : List V) : Prop := ∃ o : Obj, H a = some (.frz o (.tup xs)) ∧ o.dict = none
theorem TupF.sq {K : PySem.W.Frag} {H : Hp} {a : Addr} {xs : List V} (h : TupF H a xs) : SqT K H a xs := let ⟨o, e, _⟩ := h; .inl (.inr ⟨o, e⟩)
section
variable {X : Cx}
theorem call_tupleF : CallR X (.type "tuple") (fun xs H Q => ∃ p ys, xs = [.ref p] ∧ SqL X.K H p ys ∧ ∀ l o, o.dict = none → H l = none → Q (.ref l) (upd H l (.frz o (.tup ys)))) := by
  intro pins s σ H xs us Q I r h
  obtain ⟨p, ys, rfl, hq, q⟩ := h
  obtain ⟨u, rfl, rx⟩ := vals1 r
  cases rx
  obtain ⟨its, r', pl, hz⟩ := I.list hq
  have hlen := r'.length
  refine call_tuple_list pl.isList (fun h' kp => ?_) (by simp only [List.size_toArray] <;> omega)
  have I1 : Inv X pins σ H { s with heap := h' } := I.kept (t' := s.toks) kp
  have I2 : Inv X pins σ (upd H h'.objs.size (.frz { cls := .type "tuple", data := .seq its.toArray } (.tup ys))) { s with heap := h'.push { cls := .type "tuple", data := .seq its.toArray } } :=
    I1.laid (t' := s.toks) (fun b o e => Heap.get?_push_of_some _ e) (Nat.le_refl _) (show ObjOk X.prog X.w _ _ _ (.frz _ (.tup ys)) from ⟨Heap.get?_push_size _ rfl, hz, its, r', IsTup.new _ _⟩)
  exact ⟨.ref h'.objs.size, _, I2, rfl, q _ _ rfl (I1.hok.fresh (Nat.le_refl _))⟩
theorem pairs_of2 {pins : List (Addr × Obj)} {σ : L2.St} {H : Hp} {s : Shared} (I : Inv X pins σ H s) : ∀ {ps : List Addr} {kvs : List (Key × V)}, Paired (fun p kv => SqT X.K H p [kV kv.1, kv.2]) ps kvs →
    ∃ (prs : List (Key × Value)) (qs : List (Value × Value)), KV kvs prs ∧ prs.length = ps.length ∧ qs.length = ps.length ∧
      (∀ (j : Nat) (u v : Value), qs[j]? = some (u, v) → ∃ (b : Addr) (k : Key), ps[j]? = some b ∧ prs[j]? = some (k, v) ∧ IsTup s.heap b #[u, v] ∧ keyIs k u = true)
  | _, _, .nil => ⟨[], [], .nil, rfl, rfl, fun j u v e => by simp at e⟩
  | _, _, .cons (a := p) (b := kv) h t => by
    obtain ⟨prs, qs, r, hl, hl2, hp⟩ := pairs_of2 I t
    obtain ⟨its, rv, ht, _⟩ := I.tuple h
    obtain ⟨u, y, ei, ru, ry⟩ := vals2 rv
    subst ei
    refine ⟨(kv.1, y) :: prs, (u, y) :: qs, .cons ⟨rfl, ry⟩ r, by rw [List.length_cons, List.length_cons, hl], by rw [List.length_cons, List.length_cons, hl2], fun j u' v' e => ?_⟩
    cases j with
    | zero =>
      have e' : (u, y) = (u', v') := Option.some.inj e
      cases e'
      exact ⟨p, kv.1, rfl, rfl, ht, kV_is (P := X.prog) (w := X.w) ru⟩
    | succ j =>
      obtain ⟨b, k, e1, e2, e3, e4⟩ := hp j u' v' (by simpa using e)
      exact ⟨b, k, by simpa using e1, by simpa using e2, e3, e4⟩
theorem call_dictT (hcalm : X.calm = true) : CallR X (.type "dict") (fun xs H Q => ∃ (a : Addr) (ps : List Addr) (kvs : List (Key × V)), xs = [.ref a] ∧ TupF H a (ps.map V.ref) ∧ Paired (fun p kv => SqT X.K H p [kV kv.1, kv.2]) ps kvs ∧
    ∀ p, H p = none → Q (.ref p) (upd H p (.dK (mergeK [] kvs)))) := by
  intro pins s σ H xs us Q I r q
  obtain ⟨a, ps, kvs, ex, ⟨o, hq, hdn⟩, hp, q⟩ := q
  subst ex
  obtain ⟨u, eu, rx⟩ := vals1 r
  subst eu
  cases rx
  obtain ⟨ho, hz, its, rv, o', ho', hc, n, hdat⟩ := I.hok _ _ hq
  rw [ho] at ho'
  cases ho'
  have ei := refs_at rv
  subst ei
  rw [List.length_map] at hz
  obtain ⟨prs, qs, rel, hl, hl2, hpr⟩ := pairs_of2 I hp
  refine PySem.call_dict_pairs (knd := mixKind X.prog X.w) (kvs := prs) (PySem.PairArg.tuple a (ps.map Value.ref).toArray (fun j => ps.getD j 0) qs) (I.ok.hd hcalm) ⟨⟨o, n, ho, hc, hdn, hdat⟩, by simp [hl2], fun j k v e => ?_⟩ ⟨by rw [hl, hl2], fun i key v e => ?_⟩ (by rw [hl2]; exact hz) fun h' tk hd' k => ?_
  · obtain ⟨b, k', e1, e2, e3, e4⟩ := hpr j k v e
    have eb : ps.getD j 0 = b := by rw [List.getD_eq_getElem?_getD, e1]; rfl
    show _ ∧ PySem.PairAt s.heap (ps.getD j 0) k v
    rw [eb]
    exact ⟨by simp [e1], .inl e3⟩
  · obtain ⟨b, k', e1, e2, e3, e4⟩ := hpr i key v e
    exact ⟨k', e2, e4⟩
  · have hm : (s.heap.objs.size == sysModules) = false := beq_eq_false_iff_ne.mpr (Nat.ne_of_gt I.big)
    have hlen : (mergeK [] kvs).length ≤ sizeLine := by
      refine Nat.le_trans (length_mergeK kvs []) ?_
      rw [List.length_nil, Nat.zero_add, rel.length, hl]
      exact hz
    exact ⟨.ref s.heap.objs.size, upd H s.heap.objs.size (.dK (mergeK [] kvs)), I.laid (t' := tk) (fun b ob e => k b ob (fun z => nomatch z) e) (Nat.le_refl _) (show ObjOk X.prog X.w _ _ _ (.dK (mergeK [] kvs)) from ⟨hlen, hm, merged [] prs, KV.merge rel .nil, hd'⟩), rfl, q _ (I.hok.fresh (Nat.le_refl _))⟩
end
end SC

namespace L17
open PySem PySem.Spec PyProof.Rows L2 GR
abbrev St1 := V × PyData
abbrev En := Int × V × PyData
/-- an entry at r -/
def EnOk (K : PySem.W.Frag) (H : Hp) (r : Addr) (e : En) : Prop := H r = some (.tup [.int e.1, e.2.1]) ∧ SV K H e.2.1 e.2.2
theorem EnOk.keep {K : PySem.W.Frag} {H H' : Hp} {r : Addr} {e : En} (h : EnOk K H r e) (k : KeepT H H') : EnOk K H' r e := ⟨k.1 _ _ h.1, h.2.keep k⟩
abbrev EnsOk (K : PySem.W.Frag) (H : Hp) : List Addr → List En → Prop := Paired (EnOk K H)
theorem ens_keep {K : PySem.W.Frag} {H H' : Hp} (k : KeepT H H') : ∀ {rs : List Addr} {es : List En}, EnsOk K H rs es → EnsOk K H' rs es
  | _, _, .nil => .nil
  | _, _, .cons h t => .cons (h.keep k) (ens_keep k t)
theorem ens_append {K : PySem.W.Frag} {H : Hp} : ∀ {rs us : List Addr} {es fs : List En}, EnsOk K H rs es → EnsOk K H us fs → EnsOk K H (rs ++ us) (es ++ fs)
  | _, _, _, _, .nil, h => h
  | _, _, _, _, .cons h t, g => .cons h (ens_append t g)
theorem ens_len {K : PySem.W.Frag} {H : Hp} {rs : List Addr} {es : List En} (h : EnsOk K H rs es) : rs.length = es.length := Paired.length h
def ed (e : En) : PyData := .tuple [.int e.1, e.2.2]
def logD (ms : List Int) (es : List En) : PyData := .tuple [.tuple (ms.map PyData.int), .tuple (es.map ed)]
/-- a log at p -/
def Lg (K : PySem.W.Frag) (H : Hp) (p : Addr) (ms : List Int) (es : List En) : Prop := ∃ (mp ep : Addr) (rs : List Addr), H p = some (.tup [.ref mp, .ref ep]) ∧ H mp = some (.tup (ms.map V.int)) ∧ Rd H ep (.tup (rs.map V.ref)) ∧ EnsOk K H rs es
theorem rd_keep {H H' : Hp} {a : Addr} {xs : List V} (h : Rd H a (.tup xs)) (k : KeepT H H') : Rd H' a (.tup xs) := by
  rcases h with h | ⟨o, h⟩
  · exact .inl (k.1 _ _ h)
  · exact .inr ⟨o, k.2 _ _ _ h⟩
/-- a log whose tuple of entries has an object known to hold no dict -/
def LgF (K : PySem.W.Frag) (H : Hp) (p : Addr) (ms : List Int) (es : List En) : Prop := ∃ (mp ep : Addr) (rs : List Addr), H p = some (.tup [.ref mp, .ref ep]) ∧ H mp = some (.tup (ms.map V.int)) ∧ SC.TupF H ep (rs.map V.ref) ∧ EnsOk K H rs es
theorem LgF.lg {K : PySem.W.Frag} {H : Hp} {p : Addr} {ms : List Int} {es : List En} (h : LgF K H p ms es) : Lg K H p ms es := by
  obtain ⟨mp, ep, rs, h1, h2, ⟨o, h3, _⟩, h4⟩ := h
  exact ⟨mp, ep, rs, h1, h2, .inr ⟨o, h3⟩, h4⟩
theorem tupF_keep {H H' : Hp} {a : Addr} {xs : List V} (h : SC.TupF H a xs) (k : KeepT H H') : SC.TupF H' a xs := let ⟨o, e, d⟩ := h; ⟨o, k.2 _ _ _ e, d⟩
theorem LgF.keep {K : PySem.W.Frag} {H H' : Hp} {p : Addr} {ms : List Int} {es : List En} (h : LgF K H p ms es) (k : KeepT H H') : LgF K H' p ms es := by
  obtain ⟨mp, ep, rs, h1, h2, h3, h4⟩ := h
  exact ⟨mp, ep, rs, k.1 _ _ h1, k.1 _ _ h2, tupF_keep h3 k, ens_keep k h4⟩
theorem Lg.keep {K : PySem.W.Frag} {H H' : Hp} {p : Addr} {ms : List Int} {es : List En} (h : Lg K H p ms es) (k : KeepT H H') : Lg K H' p ms es := by
  obtain ⟨mp, ep, rs, h1, h2, h3, h4⟩ := h
  exact ⟨mp, ep, rs, k.1 _ _ h1, k.1 _ _ h2, rd_keep h3 k, ens_keep k h4⟩
theorem dp_ints' {K : PySem.W.Frag} {H : Hp} : ∀ ns : List Int, DpAll K H (ns.map V.int) (ns.map PyData.int)
  | [] => .nil
  | n :: ns => .cons (.int n) (dp_ints' ns)
theorem sv_dp {K : PySem.W.Frag} {H : Hp} {v : V} {x : PyData} (h : SV K H v x) : Dp K H v x ∧ Fine 8 12000 x := by
  obtain ⟨p, w, v1, vs, rfl, h1, h2, h3, h4⟩ := h
  exact ⟨h3, h4⟩
theorem ens_dp {K : PySem.W.Frag} {H : Hp} : ∀ {rs : List Addr} {es : List En}, EnsOk K H rs es → DpAll K H (rs.map V.ref) (es.map ed)
  | _, _, .nil => .nil
  | _, _, .cons h t => .cons (.tup (.inl (.inl h.1)) (.cons (.int _) (.cons (sv_dp h.2).1 .nil))) (ens_dp t)
theorem Lg.dp {K : PySem.W.Frag} {H : Hp} {p : Addr} {ms : List Int} {es : List En} (h : Lg K H p ms es) : Dp K H (.ref p) (logD ms es) := by
  obtain ⟨mp, ep, rs, h1, h2, h3, h4⟩ := h
  exact .tup (.inl (.inl h1)) (.cons (.tup (.inl (.inl h2)) (dp_ints' ms)) (.cons (.tup (.inl h3) (ens_dp h4)) .nil))
/-- what is true of its numbers -/
structure OkL (ms : List Int) (es : List En) : Prop where
  asc : (es.map (·.1)).Pairwise (· < ·)
  mono : ms.Pairwise (· ≤ ·)
  eb : ∀ e, e ∈ es → 0 ≤ e.1 ∧ e.1 ≤ 10000
  mb : ∀ m, m ∈ ms → 0 ≤ m ∧ m ≤ 10000
  m0 : (0 : Int) ∈ ms
  ml : ms.length ≤ 6
  el : es.length ≤ 24
/-- the transactions in the list at so -/
structure Sm (K : PySem.W.Frag) (H : Hp) (so : Addr) (T : List (Addr × List St1)) : Prop where
  at' : H so = some (.lst (T.map fun t => V.ref t.1))
  tr : ∀ t, t ∈ T → H t.1 = some (.tup (t.2.map (·.1))) ∧ t.2.length ≤ 6 ∧ ∀ s, s ∈ t.2 → SV K H s.1 s.2
  len : T.length ≤ 4
theorem Sm.keep {K : PySem.W.Frag} {H H' : Hp} {so : Addr} {T : List (Addr × List St1)} (h : Sm K H so T) (k : KeepT H H') (hs : H' so = H so) : Sm K H' so T :=
  ⟨hs.trans h.at', fun t ht => ⟨k.1 _ _ (h.tr t ht).1, (h.tr t ht).2.1, fun s hs' => ((h.tr t ht).2.2 s hs').keep k⟩, h.len⟩
def entN (k : Nat) : List St1 → List En
  | [] => []
  | s :: l => ((k : Int), s.1, s.2) :: entN (k + 1) l
def mks (k : Nat) : List (List St1) → List Int
  | [] => []
  | t :: T => ((k + t.length : Nat) : Int) :: mks (k + t.length) T
theorem entN_append : ∀ (a b : List St1) (k : Nat), entN k (a ++ b) = entN k a ++ entN (k + a.length) b
  | [], b, k => rfl
  | s :: a, b, k => by
    rw [List.cons_append, entN, entN, entN_append a b (k + 1), List.cons_append, List.length_cons, show k + 1 + a.length = k + (a.length + 1) by omega]
theorem entN_len : ∀ (a : List St1) (k : Nat), (entN k a).length = a.length
  | [], k => rfl
  | s :: a, k => by rw [entN, List.length_cons, List.length_cons, entN_len a (k + 1)]
theorem mks_append : ∀ (a b : List (List St1)) (k : Nat), mks k (a ++ b) = mks k a ++ mks (k + a.flatten.length) b
  | [], b, k => rfl
  | t :: a, b, k => by
    rw [List.cons_append, mks, mks, mks_append a b, List.cons_append, List.flatten_cons, List.length_append, Nat.add_assoc]
theorem mks_len : ∀ (a : List (List St1)) (k : Nat), (mks k a).length = a.length
  | [], k => rfl
  | t :: a, k => by rw [mks, List.length_cons, List.length_cons, mks_len a]
theorem entN_ge : ∀ (a : List St1) (k : Nat) (e : En), e ∈ entN k a → (k : Int) ≤ e.1 ∧ e.1 < ((k + a.length : Nat) : Int)
  | [], k, e, h => (nomatch h)
  | s :: a, k, e, h => by
    rw [entN] at h
    rw [List.length_cons]
    rcases List.mem_cons.mp h with rfl | h
    · exact ⟨Int.le_refl _, by show (k : Int) < _; omega⟩
    · have := entN_ge a (k + 1) e h
      omega
theorem entN_asc : ∀ (a : List St1) (k : Nat), ((entN k a).map (·.1)).Pairwise (· < ·)
  | [], k => .nil
  | s :: a, k => by
    rw [entN, List.map_cons]
    refine .cons (fun m hm => ?_) (entN_asc a (k + 1))
    obtain ⟨e, he, rfl⟩ := List.mem_map.mp hm
    have := (entN_ge a (k + 1) e he).1
    show (k : Int) < e.1
    omega
theorem mks_ge : ∀ (a : List (List St1)) (k : Nat) (m : Int), m ∈ mks k a → (k : Int) ≤ m ∧ m ≤ ((k + a.flatten.length : Nat) : Int)
  | [], k, m, h => (nomatch h)
  | t :: a, k, m, h => by
    rw [mks] at h
    rw [List.flatten_cons, List.length_append]
    rcases List.mem_cons.mp h with rfl | h
    · omega
    · have := mks_ge a (k + t.length) m h
      omega
theorem mks_mono : ∀ (a : List (List St1)) (k : Nat), (mks k a).Pairwise (· ≤ ·)
  | [], k => .nil
  | t :: a, k => by
    rw [mks]
    exact .cons (fun m hm => (mks_ge a _ m hm).1) (mks_mono a _)
theorem flat_len {T : List (List St1)} {b : Nat} : (∀ t, t ∈ T → t.length ≤ b) → T.flatten.length ≤ T.length * b := by
  induction T with
  | nil => intro _; exact Nat.zero_le _
  | cons t T ih =>
    intro h
    have h1 := h t List.mem_cons_self
    have h2 := ih fun y hy => h y (List.mem_cons_of_mem _ hy)
    rw [List.flatten_cons, List.length_append, List.length_cons, Nat.succ_mul]
    omega
theorem okL_counted {T : List (List St1)} (h1 : T.length ≤ 4) (h2 : ∀ t, t ∈ T → t.length ≤ 6) : OkL (0 :: mks 0 T) (entN 0 T.flatten) := by
  have hf := flat_len h2
  have hf30 : T.flatten.length ≤ 24 := by omega
  refine ⟨entN_asc _ _, .cons (fun m hm => (mks_ge T 0 m hm).1) (mks_mono T 0), fun e he => ?_, fun m hm => ?_, List.mem_cons_self, by rw [List.length_cons, mks_len]; omega, by rw [entN_len]; exact hf30⟩
  · have := entN_ge _ _ e he
    omega
  · rcases List.mem_cons.mp hm with rfl | hm
    · omega
    · have := mks_ge T 0 m hm
      omega
/-! ### how it is shown -/
theorem fines_ints {k : Nat} : ∀ {ms : List Int}, (∀ m, m ∈ ms → 0 ≤ m ∧ m ≤ 10000) → Fines k (22 * ms.length) (ms.map PyData.int)
  | [], _ => .nil
  | m :: ms, h => by
    have h1 := h m List.mem_cons_self
    have h2 := fines_ints (k := k) fun y hy => h y (List.mem_cons_of_mem _ hy)
    rw [List.length_cons, show 22 * (ms.length + 1) = 22 + 22 * ms.length by omega, List.map_cons]
    exact .cons (Fine.int (by omega) (by omega)).k0 h2
theorem fines_ens {es : List En} (h : ∀ e, e ∈ es → (0 ≤ e.1 ∧ e.1 ≤ 10000) ∧ Fine 8 12000 e.2.2) : Fines 9 (12030 * es.length) (es.map ed) := by
  induction es with
  | nil => exact .nil
  | cons e es ih =>
    have h1 := h e List.mem_cons_self
    rw [List.length_cons, show 12030 * (es.length + 1) = 12030 + 12030 * es.length by omega, List.map_cons]
    exact .cons (((Fines.cons (Fine.int (by omega) (by omega)).k0 (.cons h1.2 .nil)).tup).mono (by decide) (by decide)) (ih fun y hy => h y (List.mem_cons_of_mem _ hy))
theorem ens_fine {K : PySem.W.Frag} {H : Hp} : ∀ {rs : List Addr} {es : List En}, EnsOk K H rs es → ∀ e, e ∈ es → Fine 8 12000 e.2.2
  | _, _, .nil, e, h => (nomatch h)
  | _, _, .cons h t, e, he => by
    rcases List.mem_cons.mp he with rfl | he
    · exact (sv_dp h.2).2
    · exact ens_fine t e he
theorem Lg.fine {K : PySem.W.Frag} {H : Hp} {p : Addr} {ms : List Int} {es : List En} (h : Lg K H p ms es) (o : OkL ms es) : Fine 11 400000 (logD ms es) := by
  obtain ⟨mp, ep, rs, h1, h2, h3, h4⟩ := h
  have a := (fines_ints (k := 0) o.mb).tup
  have b := (fines_ens fun e he => ⟨o.eb e he, ens_fine h4 e he⟩).tup
  have ml := o.ml
  have el := o.el
  exact ((Fines.cons (a.mono (show 0 + 1 ≤ 10 by decide) (Nat.le_refl _)) (.cons b .nil)).tup).mono (by decide) (by omega)
theorem Sm.upd {K : PySem.W.Frag} {H : Hp} {so b : Addr} {T : List (Addr × List St1)} {ys zs : List V} (h : Sm K H so T) (hb : H b = some (.lst ys)) (n : so ≠ b) : Sm K (L2.upd H b (.lst zs)) so T := h.keep (KeepT.lst hb) (upd_ne n)
theorem Sm.same {K : PySem.W.Frag} {H H' : Hp} {so : Addr} {T : List (Addr × List St1)} (h : Sm K H so T) (s : Same H H') : Sm K H' so T := h.keep (KeepT.of s) (by rw [h.at']; exact s _ _ h.at')
theorem take_next {α : Type} {l : List α} {i : Nat} {x : α} (h : l[i]? = some x) : l.take (i + 1) = l.take i ++ [x] := by
  rw [List.take_add_one, h]
  rfl
end L17

namespace L17
open PySem PySem.Spec PyProof.Rows L2 GR
/-! ### what stands where -/
/-- the statement at a place -/
def stAt : List En → Int → V
  | [], _ => .non
  | e :: es, p => if e.1 = p then e.2.1 else stAt es p
theorem ens_get {K : PySem.W.Frag} {H : Hp} : ∀ {rs : List Addr} {es : List En}, EnsOk K H rs es → ∀ {i : Nat} {e : En}, es[i]? = some e → ∃ r, rs[i]? = some r ∧ EnOk K H r e
  | _, _, .nil, i, e, h => by simp at h
  | _, _, .cons (a := r) h t, 0, e, h' => by cases h'; exact ⟨r, rfl, h⟩
  | _, _, .cons h t, i + 1, e, h' => by
    obtain ⟨r, h1, h2⟩ := ens_get t (by simpa using h')
    exact ⟨r, by simpa using h1, h2⟩
theorem ens_at {K : PySem.W.Frag} {H : Hp} : ∀ {rs : List Addr} {es : List En}, EnsOk K H rs es → ∀ {i : Nat} {r : Addr}, rs[i]? = some r → ∃ e, es[i]? = some e ∧ EnOk K H r e
  | _, _, .nil, i, e, h => by simp at h
  | _, _, .cons (b := e) h t, 0, r, h' => by cases h'; exact ⟨e, rfl, h⟩
  | _, _, .cons h t, i + 1, r, h' => by
    obtain ⟨e, h1, h2⟩ := ens_at t (by simpa using h')
    exact ⟨e, by simpa using h1, h2⟩
theorem drop_at {α : Type} {l : List α} {i : Nat} {x : α} (h : l[i]? = some x) : l.drop i = x :: l.drop (i + 1) := by
  obtain ⟨hi, e⟩ := List.getElem?_eq_some_iff.mp h
  rw [List.drop_eq_getElem_cons hi, e]
end L17

namespace L17
open PySem PySem.Spec PyProof.Rows L2 GR
/-- the numbers of a log that is being made; a: the next place -/
structure Nu (ms : List Int) (es : List En) (a : Int) : Prop where
  asc : (es.map (·.1)).Pairwise (· < ·)
  lt : ∀ e, e ∈ es → 0 ≤ e.1 ∧ e.1 < a
  mono : ms.Pairwise (· ≤ ·)
  le : ∀ m, m ∈ ms → 0 ≤ m ∧ m ≤ a
  m0 : ms.head? = some 0
  a0 : 0 ≤ a
theorem Nu.more {ms : List Int} {es : List En} {a b : Int} (h : Nu ms es a) (k : a ≤ b) : Nu ms es b :=
  ⟨h.asc, fun e he => by have := h.lt e he; omega, h.mono, fun m hm => by have := h.le m hm; omega, h.m0, by have := h.a0; omega⟩
theorem Nu.line {ms : List Int} {es : List En} {a : Int} (h : Nu ms es a) (v : V) (x : PyData) : Nu ms (es ++ [(a, v, x)]) (a + 1) := by
  refine ⟨?_, fun e he => ?_, h.mono, fun m hm => by have := h.le m hm; omega, h.m0, by have := h.a0; omega⟩
  · rw [List.map_append, List.pairwise_append]
    refine ⟨h.asc, List.pairwise_singleton _ _, fun x hx y hy => ?_⟩
    obtain ⟨e, he, rfl⟩ := List.mem_map.mp hx
    rw [List.mem_singleton.mp hy]
    exact (h.lt e he).2
  · rcases List.mem_append.mp he with he | he
    · have := h.lt e he
      omega
    · rw [List.mem_singleton.mp he]
      have := h.a0
      exact ⟨this, by show a < a + 1; omega⟩
theorem Nu.mark {ms : List Int} {es : List En} {a : Int} (h : Nu ms es a) : Nu (ms ++ [a]) es a := by
  refine ⟨h.asc, h.lt, ?_, fun m hm => ?_, ?_, h.a0⟩
  · rw [List.pairwise_append]
    refine ⟨h.mono, List.pairwise_singleton _ _, fun x hx y hy => ?_⟩
    rw [List.mem_singleton.mp hy]
    exact (h.le x hx).2
  · rcases List.mem_append.mp hm with hm | hm
    · exact h.le m hm
    · rw [List.mem_singleton.mp hm]
      exact ⟨h.a0, Int.le_refl _⟩
  · rw [List.head?_append, h.m0]
    rfl
theorem head_mem {l : List Int} {a : Int} (h : l.head? = some a) : a ∈ l := by
  cases l with
  | nil => cases h
  | cons b l => cases h; exact List.mem_cons_self
theorem Nu.ok {ms : List Int} {es : List En} {a : Int} (h : Nu ms es a) (h1 : a ≤ 10000) (h2 : ms.length ≤ 6) (h3 : es.length ≤ 24) : OkL ms es :=
  ⟨h.asc, h.mono, fun e he => by have := h.lt e he; omega, fun m hm => by have := h.le m hm; omega, head_mem h.m0, h2, h3⟩
/-- the last mark becomes 10000 -/
theorem Nu.last {ms : List Int} {es : List En} {a : Int} (h : Nu ms es a) (h1 : a ≤ 10000) (h2 : ms.length ≤ 6) (h3 : es.length ≤ 24) (h4 : 1 < ms.length) : OkL (ms.set (ms.length - 1) 10000) es := by
  obtain ⟨fr, b, rfl⟩ : ∃ fr b, ms = fr ++ [b] := ⟨ms.dropLast, ms.getLast (fun z => by rw [z] at h4; cases h4), (List.dropLast_concat_getLast _).symm⟩
  have e : (fr ++ [b]).set ((fr ++ [b]).length - 1) 10000 = fr ++ [10000] := by
    rw [List.length_append, List.length_singleton, Nat.add_sub_cancel, List.set_append_right _ _ (Nat.le_refl _), Nat.sub_self]
    rfl
  rw [e]
  have hm := (List.pairwise_append.mp h.mono).1
  refine ⟨h.asc, ?_, fun e he => by have := h.lt e he; omega, fun m hm => ?_, ?_, by rw [List.length_append] at h2 ⊢; exact h2, h3⟩
  · rw [List.pairwise_append]
    refine ⟨hm, List.pairwise_singleton _ _, fun x hx y hy => ?_⟩
    rw [List.mem_singleton.mp hy]
    have := h.le x (List.mem_append_left _ hx)
    omega
  · rcases List.mem_append.mp hm with hm | hm
    · have := h.le m (List.mem_append_left _ hm)
      omega
    · rw [List.mem_singleton.mp hm]
      omega
  · cases fr with
    | nil => simp at h4
    | cons f fr =>
      have := h.m0
      cases this
      exact List.mem_cons_self
/-- two lists are being made beside a deck -/
structure He (K : PySem.W.Frag) (d c : Addr) (H0 : Hp) (mb lb : Addr) (ms : List Int) (es : List En) (H : Hp) : Prop where
  hm : H mb = some (.lst (ms.map V.int))
  hl : ∃ rs : List Addr, H lb = some (.lst (rs.map V.ref)) ∧ EnsOk K H rs es
  old : ∀ b ob, b ≠ d → b ≠ c → b ≠ mb → b ≠ lb → H0 b = some ob → H b = some ob
theorem He.keep {K : PySem.W.Frag} {d c : Addr} {H0 H H' : Hp} {mb lb : Addr} {ms : List Int} {es : List En} (t : He K d c H0 mb lb ms es H) (k : Keep d c H H') (kt : KeepT H H') (m : mb ≠ d ∧ mb ≠ c) (l : lb ≠ d ∧ lb ≠ c) : He K d c H0 mb lb ms es H' := by
  obtain ⟨rs, h1, h2⟩ := t.hl
  exact ⟨k _ _ m.1 m.2 t.hm, ⟨rs, k _ _ l.1 l.2 h1, ens_keep kt h2⟩, fun b ob n1 n2 n3 n4 e => k _ _ n1 n2 (t.old b ob n1 n2 n3 n4 e)⟩
theorem He.line {K : PySem.W.Frag} {d c : Addr} {H0 H : Hp} {mb lb r : Addr} {ms : List Int} {es : List En} {e : En} (t : He K d c H0 mb lb ms es H) (hml : mb ≠ lb) (hr : EnOk K H r e) : ∃ rs : List Addr, H lb = some (.lst (rs.map V.ref)) ∧ rs.length = es.length ∧ He K d c H0 mb lb ms (es ++ [e]) (upd H lb (.lst (rs.map V.ref ++ [.ref r]))) := by
  obtain ⟨rs, h1, h2⟩ := t.hl
  have kt : KeepT H (upd H lb (.lst (rs.map V.ref ++ [.ref r]))) := KeepT.lst h1
  refine ⟨rs, h1, ens_len h2, by rw [upd_ne hml]; exact t.hm, ⟨rs ++ [r], by rw [List.map_append]; exact upd_same, ens_append (ens_keep kt h2) (.cons (hr.keep kt) .nil)⟩, fun b ob n1 n2 n3 n4 e => ?_⟩
  rw [upd_ne n4]
  exact t.old b ob n1 n2 n3 n4 e
theorem He.marks {K : PySem.W.Frag} {d c : Addr} {H0 H : Hp} {mb lb : Addr} {ms ms' : List Int} {es : List En} (t : He K d c H0 mb lb ms es H) (hml : mb ≠ lb) : He K d c H0 mb lb ms' es (upd H mb (.lst (ms'.map V.int))) := by
  obtain ⟨rs, h1, h2⟩ := t.hl
  have kt : KeepT H (upd H mb (.lst (ms'.map V.int))) := KeepT.lst t.hm
  refine ⟨upd_same, ⟨rs, by rw [upd_ne hml.symm]; exact h1, ens_keep kt h2⟩, fun b ob n1 n2 n3 n4 e => ?_⟩
  rw [upd_ne n3]
  exact t.old b ob n1 n2 n3 n4 e
/-! ### what lies between the marks -/
abbrev enD (e : En) : PyData := e.2.2
def between (l h : Int) (es : List En) : List PyData := (es.filter fun e => decide (l ≤ e.1) && decide (e.1 < h)).map enD
def partsOf : List Int → List En → List (List PyData)
  | m :: m' :: ms, es => between m m' es :: partsOf (m' :: ms) es
  | _, _ => []
theorem between_append (l h : Int) (a b : List En) : between l h (a ++ b) = between l h a ++ between l h b := by
  unfold between
  rw [List.filter_append, List.map_append]
theorem between_all {l h : Int} : ∀ {es : List En}, (∀ e, e ∈ es → l ≤ e.1 ∧ e.1 < h) → between l h es = es.map enD
  | [], _ => rfl
  | e :: es, hh => by
    have h1 := hh e List.mem_cons_self
    have ih := between_all (es := es) fun x hx => hh x (List.mem_cons_of_mem _ hx)
    unfold between at ih ⊢
    rw [List.filter_cons, decide_eq_true h1.1, decide_eq_true h1.2]
    simp only [Bool.and_self, if_true, List.map_cons, ih]
theorem between_none {l h : Int} : ∀ {es : List En}, (∀ e, e ∈ es → e.1 < l ∨ h ≤ e.1) → between l h es = []
  | [], _ => rfl
  | e :: es, hh => by
    have h1 := hh e List.mem_cons_self
    have ih := between_none (es := es) fun x hx => hh x (List.mem_cons_of_mem _ hx)
    unfold between at ih ⊢
    have : (decide (l ≤ e.1) && decide (e.1 < h)) = false := by
      rcases h1 with h1 | h1
      · rw [decide_eq_false (by omega)]; rfl
      · rw [decide_eq_false (show ¬ e.1 < h by omega), Bool.and_false]
    rw [List.filter_cons, this]
    simp only [Bool.false_eq_true, if_false, ih]
theorem parts_more : ∀ {ms : List Int} {es new : List En} {a : Int}, (∀ m, m ∈ ms → m ≤ a) → (∀ e, e ∈ new → a ≤ e.1) → partsOf ms (es ++ new) = partsOf ms es
  | [], _, _, _, _, _ => rfl
  | [_], _, _, _, _, _ => rfl
  | m :: m' :: ms, es, new, a, h1, h2 => by
    have hm' := h1 m' (List.mem_cons_of_mem _ List.mem_cons_self)
    rw [partsOf, partsOf, between_append, between_none (es := new) (fun e he => .inr (Int.le_trans hm' (h2 e he))), List.append_nil, parts_more (fun x hx => h1 x (List.mem_cons_of_mem _ hx)) h2]
theorem parts_snoc : ∀ {ms : List Int} {es : List En} {a b : Int}, ms.getLast? = some a → partsOf (ms ++ [b]) es = partsOf ms es ++ [between a b es]
  | [], _, _, _, h => by cases h
  | [m], es, a, b, h => by cases h; rfl
  | m :: m' :: ms, es, a, b, h => by
    have ih := parts_snoc (ms := m' :: ms) (es := es) (a := a) (b := b) (by rw [List.getLast?_cons_cons] at h; exact h)
    show between m m' es :: partsOf ((m' :: ms) ++ [b]) es = between m m' es :: partsOf (m' :: ms) es ++ [between a b es]
    rw [ih]
    rfl
/-- the last mark moved up, above all entries -/
theorem parts_last {ms : List Int} {es : List En} {a b : Int} (h : ms.getLast? = some a) (h1 : ∀ e, e ∈ es → e.1 < a) (hab : a ≤ b) : partsOf (ms.set (ms.length - 1) b) es = partsOf ms es := by
  obtain ⟨fr, rfl⟩ : ∃ fr, ms = fr ++ [a] := by
    have hne : ms ≠ [] := fun e => by rw [e] at h; cases h
    have e := List.getLast?_eq_some_getLast hne
    rw [e] at h
    exact ⟨ms.dropLast, by rw [← Option.some.inj h]; exact (List.dropLast_concat_getLast hne).symm⟩
  have e : (fr ++ [a]).set ((fr ++ [a]).length - 1) b = fr ++ [b] := by
    rw [List.length_append, List.length_singleton, Nat.add_sub_cancel, List.set_append_right _ _ (Nat.le_refl _), Nat.sub_self]
    rfl
  rw [e]
  cases hl : fr.getLast? with
  | none =>
    rw [List.getLast?_eq_none_iff] at hl
    subst hl
    rfl
  | some l =>
    rw [parts_snoc hl, parts_snoc hl]
    have : between l b es = between l a es := by
      unfold between
      congr 1
      refine List.filter_congr fun e he => ?_
      have := h1 e he
      rw [decide_eq_true this, decide_eq_true (Int.lt_of_lt_of_le this hab)]
    rw [this]
/-- one transaction more -/
theorem parts_one {ms : List Int} {es new : List En} {a b : Int} (hl : ms.getLast? = some a) (hm : ∀ m, m ∈ ms → m ≤ a) (h1 : ∀ e, e ∈ es → e.1 < a) (h2 : ∀ e, e ∈ new → a ≤ e.1 ∧ e.1 < b) : partsOf (ms ++ [b]) (es ++ new) = partsOf ms es ++ [new.map enD] := by
  rw [parts_snoc hl, parts_more hm fun e he => (h2 e he).1, between_append, between_none fun e he => .inl (h1 e he), between_all h2, List.nil_append]
end L17

namespace L17
open PySem PySem.Spec PyProof.Rows L2 GR
section
variable {P : Program} {w : World} {K : PySem.W.Frag} {mg : Str → Option Value} {base : Heap}
abbrev s_law_spread : Stmt := topS 53
abbrev N_sp : List Str := ["_law_deck_here", "_law_some", "_law_marks", "_law_lines", "_law_at", "_law_transaction_here", "_law_statement_here"]
theorem sc_law_spread : FnScope N_sp ["_law_deck_here", "_law_some"] (defScope s_law_spread) := ⟨rfl, rfl, rfl, by decide +kernel, rfl, by decide +kernel, by decide +kernel⟩
def tdat (t : Addr × List St1) : List PyData := t.2.map (·.2)
def sp_spread (K : PySem.W.Frag) : Sp := fun vs H Q _ => ∃ (d c so : Addr) (N : Int) (T : List (Addr × List St1)), vs = [.ref d, .ref so] ∧ Deck H d c N ∧ N < 2 ^ 59 ∧ Sm K H so T ∧ so ≠ d ∧ so ≠ c ∧
  ∀ H' p ms es, Keep d c H H' → Deck H' d c (N + 100) → LgF K H' p ms es → OkL ms es → partsOf ms es = T.map tdat → (∀ e, e ∈ es → ∃ m, m ∈ ms ∧ e.1 < m) → Q (.ref p) H'
/-- the state between statements -/
structure Zu (K : PySem.W.Frag) (d c so : Addr) (N : Int) (T : List (Addr × List St1)) (H0 : Hp) (mb lb : Addr) (ms : List Int) (es : List En) (a : Int) (H : Hp) : Prop where
  he : He K d c H0 mb lb ms es H
  nu : Nu ms es a
  dk : Deck H d c N
  sm : Sm K H so T
theorem Zu.draw {K : PySem.W.Frag} {d c so : Addr} {N M : Int} {T : List (Addr × List St1)} {H0 H H' : Hp} {mb lb : Addr} {ms : List Int} {es : List En} {a : Int} (z : Zu K d c so N T H0 mb lb ms es a H) (k : Keep d c H H') (D : Deck H' d c M) (m : mb ≠ d ∧ mb ≠ c) (l : lb ≠ d ∧ lb ≠ c) (o : so ≠ d ∧ so ≠ c) : Zu K d c so M T H0 mb lb ms es a H' :=
  ⟨z.he.keep k (k.t z.dk) m l, z.nu, D, z.sm.keep (k.t z.dk) (by rw [z.sm.at']; exact k _ _ o.1 o.2 z.sm.at')⟩
theorem Zu.same {K : PySem.W.Frag} {d c so : Addr} {N : Int} {T : List (Addr × List St1)} {H0 H H' : Hp} {mb lb : Addr} {ms : List Int} {es : List En} {a : Int} (z : Zu K d c so N T H0 mb lb ms es a H) (s : Same H H') (m : mb ≠ d ∧ mb ≠ c) (l : lb ≠ d ∧ lb ≠ c) (o : so ≠ d ∧ so ≠ c) : Zu K d c so N T H0 mb lb ms es a H' := z.draw (Keep.of s) (z.dk.same s) m l o
theorem ok_spread {f f_law_draw f_law_pick : Addr} {fd fd_law_draw fd_law_pick : FuncData} {k : Nat} (F : Fun K "_law_spread" "_law_spread" s_law_spread f fd) (G_law_draw : FnOk P w K mg base CX0 k f_law_draw fd_law_draw ["_law_deck_here", "_law_most"] sp_draw)
    (g_law_draw : mg "_law_draw" = some (.ref f_law_draw)) (K_law_draw : PySem.W.keepIn K (.ref f_law_draw) = true) (b_law_draw : Binds K fd_law_draw ["_law_deck_here", "_law_most"] [])
    (G_law_pick : FnOk P w K mg base CX0 k f_law_pick fd_law_pick ["_law_deck_here", "_law_some"] (sp_pick K))
    (g_law_pick : mg "_law_pick" = some (.ref f_law_pick)) (K_law_pick : PySem.W.keepIn K (.ref f_law_pick) = true) (b_law_pick : Binds K fd_law_pick ["_law_deck_here", "_law_some"] [])
    (mlen : mg "len" = none) (mtuple : mg "tuple" = none) : FnOk P w K mg base CX0 (k + 1) f fd ["_law_deck_here", "_law_some"] (sp_spread K) := by
  have nd := sc_law_spread.nd
  refine F.ok sc_law_spread (fun vs H Q E h => ?_) (fun cdv A outer s H vs Q E hr h => ?_)
  · obtain ⟨d, c, so, N, T, rfl, _⟩ := h
    rfl
  obtain ⟨d, c, so, N, T, rfl, D, hN, S, hsd, hsc, q⟩ := h
  refine ⟨_, (pss_cons (ps_set (i := 2) nd rfl (.inl rfl) (pe_lst (pa_cons pe_int pa_nil)))
      (pss_cons (ps_set (i := 3) nd rfl (.inl rfl) (pe_lst pa_nil))
      (pss_cons (ps_set (i := 4) nd rfl (.inl rfl) pe_int)
      (pss_cons (ps_for PassesOwn.never rfl (pi_list (pv 1)) (pg_name (i := 5) nd rfl (Or.inl rfl))
      (pss_cons (ps_for PassesOwn.never rfl (pi_tup (pv 5)) (pg_name (i := 6) nd rfl (Or.inl rfl))
        (pss_cons (ps_set (i := 4) nd rfl (.inl rfl) (pe_op op_add (pv 4) (pe_call G_law_pick hr (by rfl) g_law_pick K_law_pick b_law_pick .nil pass0 (pa_cons (pv 0) (pa_cons (pe_lst (pa_cons pe_int (pa_cons pe_int (pa_cons pe_int (pa_cons pe_int pa_nil))))) pa_nil)))))
          (pss_cons (ps_expr (pe_bm PySem.F.plainAttrs_list PySem.F.slot_list_append PySem.F.type_list_append mt_append (pv 3) (pa_cons (pe_tup (pa_cons (pv 4) (pa_cons (pv 6) pa_nil))) pa_nil)))
          (pss_one (ps_set (i := 4) nd rfl (.inl rfl) (pe_op op_add (pv 4) pe_int))))))
        (pss_cons (ps_set (i := 4) nd rfl (.inl rfl) (pe_op op_add (pv 4) (pe_call G_law_pick hr (by rfl) g_law_pick K_law_pick b_law_pick .nil pass0 (pa_cons (pv 0) (pa_cons (pe_lst (pa_cons pe_int (pa_cons pe_int (pa_cons pe_int (pa_cons pe_int pa_nil))))) pa_nil)))))
        (Evl.pss_cut (ps_if (PW.pt (pw_and (pt_cmpR op_lt (pv 4) pe_int (nomark _)) (pw_and1 (pt_cmpR op_eq (pe_call G_law_draw hr (by rfl) g_law_draw K_law_draw b_law_draw .nil pass0 (pa_cons (pv 0) (pa_cons pe_int pa_nil))) pe_int (nomark _)))))
        (pss_one (ps_set (i := 4) nd rfl (.inl rfl) (pe_op op_add (pv 4) pe_int)))
        pss_nil)
        (pss_one (ps_expr (pe_bm PySem.F.plainAttrs_list PySem.F.slot_list_append PySem.F.type_list_append mt_append (pv 2) (pa_cons (pv 4) pa_nil))))))))
      (Evl.pss_cut (ps_if (PW.pt (pw_and (pt_cmpR op_gt (pe_callB call_len_seq (by rfl) mlen PySem.boot_len (pa_cons (pv 2) pa_nil)) pe_int (nomark _)) (pw_and1 (pt_cmpR op_eq (pe_call G_law_draw hr (by rfl) g_law_draw K_law_draw b_law_draw .nil pass0 (pa_cons (pv 0) (pa_cons pe_int pa_nil))) pe_int (nomark _)))))
      (pss_one (ps_asg pe_int (pg_sub (pv 2) (pe_un un_neg pe_int) set_list)))
      pss_nil)
      (pss_one (ps_ret (pe_tup (pa_cons (pe_callTy call_tuple_of (by rfl) mtuple boot_tuple (pa_cons (pv 2) pa_nil)) (pa_cons (pe_callTy SC.call_tupleF (by rfl) mtuple boot_tuple (pa_cons (pv 3) pa_nil)) pa_nil)))))))))), ?_⟩
  refine ⟨h1000 (show 1 ≤ 1000 by decide), fun mb nmb => ⟨Nat.zero_le _, fun lb nlb => ?_⟩⟩
  have s1 := same_upd (o := .lst [.int 0]) nmb
  have s2 := same_upd (o := .lst []) nlb
  have nlH : H lb = none := s1.free nlb
  have hml : mb ≠ lb := ne_of_none (show upd H mb (.lst [.int 0]) mb = some (.lst [.int 0]) from upd_same) nlb
  have hmd := D.new nmb
  have hld := D.new nlH
  have s12 := s1.trans s2
  have hsm : so ≠ mb := ne_of_none S.at' nmb
  have hsl : so ≠ lb := ne_of_none S.at' nlH
  have Z1 : Zu K d c so N T H mb lb [0] [] 0 (upd (upd H mb (.lst [.int 0])) lb (.lst [])) :=
    ⟨⟨s2 _ _ upd_same, ⟨[], upd_same, .nil⟩, fun b ob _ _ n1 n2 e => s12 _ _ e⟩, ⟨.nil, fun e he => (nomatch he), List.pairwise_singleton _ _, fun m hm => by rw [List.mem_singleton.mp hm]; exact ⟨Int.le_refl _, Int.le_refl _⟩, rfl, Int.le_refl _⟩, D.same s12, S.same s12⟩
  revert Z1
  generalize upd (upd H mb (.lst [.int 0])) lb (.lst []) = H1
  intro Z1
  -- a draw of one of four
  have pick : ∀ {H' : Hp} {ms : List Int} {es : List En} {a M n4 : Int} {Q : VK}, Zu K d c so M T H mb lb ms es a H' → M < 2 ^ 60 → 1 ≤ n4 → (∀ H'' r, 0 ≤ r → r ≤ n4 → Zu K d c so (M + 1) T H mb lb ms es a H'' → Q (.int r) H'') →
      4 ≤ sizeLine ∧ ∀ l, H' l = none → sp_pick K [.ref d, .ref l] (upd H' l (.lst [.int 0, .int 0, .int 1, .int n4])) Q E0 := fun {H' ms es a M n4 Q} Z hM p1 hQ => by
    refine ⟨h1000 (show 4 ≤ 1000 by decide), fun l nl => .inl ⟨d, c, l, M, [.int 0, .int 0, .int 1, .int n4], rfl, ?_⟩⟩
    have sl := same_upd (o := .lst [.int 0, .int 0, .int 1, .int n4]) nl
    have hl := Z.dk.new nl
    have Z' := Z.same sl hmd hld ⟨hsd, hsc⟩
    refine ⟨Z'.dk, hM, .inl (.inl upd_same), List.cons_ne_nil _ _, by show 4 ≤ 1000; decide, hl.1, hl.2, fun H'' v k D' hv => ?_⟩
    have Z'' := Z'.draw k D' hmd hld ⟨hsd, hsc⟩
    rcases List.mem_cons.mp hv with rfl | hv
    · exact hQ H'' _ (by omega) (by omega) Z''
    rcases List.mem_cons.mp hv with rfl | hv
    · exact hQ H'' _ (by omega) (by omega) Z''
    rcases List.mem_cons.mp hv with rfl | hv
    · exact hQ H'' _ (by omega) (by omega) Z''
    rw [List.mem_singleton.mp hv]
    exact hQ H'' _ (by omega) (by omega) Z''
  have hT5 := S.len
  refine ⟨.ref so, rfl, so, rfl, ⟨_, .inl (.inl Z1.sm.at')⟩, ?_⟩
  refine for_list (xs := T.map fun t => V.ref t.1) (fun i σ H' => ∃ (a : Int) (y5 y6 : Option V) (ms : List Int) (es : List En), σ = [some (.ref d), some (.ref so), some (.ref mb), some (.ref lb), some (.int a), y5, y6] ∧ Zu K d c so (N + 10 * (i : Int)) T H mb lb ms es a H' ∧ a ≤ 9000 + 21 * (i : Int) ∧ ms.length = i + 1 ∧ es.length ≤ 6 * i ∧ ms.getLast? = some a ∧ partsOf ms es = (T.take i).map tdat) ?_ ?_ ?_ ?_
  · exact ⟨0, none, none, [0], [], rfl, by rw [show N + 10 * ((0 : Nat) : Int) = N by omega]; exact Z1, by omega, rfl, Nat.zero_le _, rfl, rfl⟩
  · rintro i σ H' _ ⟨_, _, _, _, _, rfl, Z, _⟩
    exact .inl (.inl Z.sm.at')
  · rintro i x σ H2 hx ⟨a, y5, y6, ms, es, rfl, Z2, ha, hms, hes, hlast, hpar⟩
    rw [List.getElem?_map] at hx
    obtain ⟨t, ht, rfl⟩ := Option.map_eq_some_iff.mp hx
    have htm := List.mem_of_getElem? ht
    have hi : i < T.length := (List.getElem?_eq_some_iff.mp ht).1
    have ht6 := (Z2.sm.tr t htm).2.1
    refine ⟨.ref t.1, rfl, t.1, rfl, ⟨_, .inl (.inl (Z2.sm.tr t htm).1)⟩, ?_⟩
    obtain ⟨es0, hes0⟩ : ∃ es0, es0 = es := ⟨es, rfl⟩
    refine for_tup (xs := t.2.map (·.1)) (fun j σ H' => ∃ (b : Int) (y6 : Option V) (es : List En), σ = [some (.ref d), some (.ref so), some (.ref mb), some (.ref lb), some (.int b), some (.ref t.1), y6] ∧ Zu K d c so (N + 10 * (i : Int) + (j : Int)) T H mb lb ms es b H' ∧ b ≤ a + 3 * (j : Int) ∧ es.length ≤ 6 * i + j ∧ a ≤ b ∧ ∃ new : List En, es = es0 ++ new ∧ new.map enD = (t.2.take j).map (·.2) ∧ ∀ e, e ∈ new → a ≤ e.1) ?_ ?_ ?_ ?_
    · exact ⟨a, y6, es, rfl, by rw [show N + 10 * (i : Int) + ((0 : Nat) : Int) = N + 10 * (i : Int) by omega]; exact Z2, by omega, hes, Int.le_refl _, [], by rw [hes0, List.append_nil], rfl, fun e he => (nomatch he)⟩
    · rintro j σ H' _ ⟨_, _, _, rfl, Z, _⟩
      exact .inl (.inl (Z.sm.tr t htm).1)
    · rintro j x σ H3 hx ⟨b, y6, es, rfl, Z3, hb, hes3, hab, new, hen, hnew, hna⟩
      rw [List.getElem?_map] at hx
      obtain ⟨s', hs, rfl⟩ := Option.map_eq_some_iff.mp hx
      have hj : j < t.2.length := (List.getElem?_eq_some_iff.mp hs).1
      refine ⟨.int b, rfl, .ref d, rfl, pick (n4 := 2) Z3 (by omega) (by decide) fun H'' r r0 r2 Z => ?_⟩
      refine ⟨b, r, rfl, rfl, ?_⟩
      obtain ⟨rs0, hl0, he0⟩ := Z.he.hl
      refine ⟨.ref lb, rfl, .inl ⟨rfl, _, .inl (.inl hl0)⟩, .int (b + r), rfl, s'.1, rfl, h1000 (show 2 ≤ 1000 by decide), fun r' nr => ?_⟩
      have s4 := same_upd (o := .tup [.int (b + r), s'.1]) nr
      have hr4 : upd H'' r' (.tup [.int (b + r), s'.1]) r' = some (.tup [.int (b + r), s'.1]) := upd_same
      have Z4 := Z.same s4 hmd hld ⟨hsd, hsc⟩
      revert s4 hr4 Z4
      generalize upd H'' r' (.tup [.int (b + r), s'.1]) = H4
      intro s4 hr4 Z4
      have hsv := (Z4.sm.tr t htm).2.2 s' (List.mem_of_getElem? hs)
      obtain ⟨rs, hl5, hl6, h5⟩ := Z4.he.line (e := (b + r, s'.1, s'.2)) hml ⟨hr4, hsv⟩
      refine ⟨lb, _, .ref r', rfl, rfl, hl5, small1000 (by rw [List.length_map, hl6]; omega), ?_⟩
      have nu5 := (Z4.nu.more (b := b + r) (by omega)).line s'.1 s'.2
      have D5 := Z4.dk.upd (o := .lst (rs.map V.ref ++ [.ref r'])) hld.1 hld.2
      have S5 := Z4.sm.upd (zs := rs.map V.ref ++ [.ref r']) hl5 hsl
      refine ⟨.int (b + r), rfl, b + r, 1, rfl, rfl, b + r + 1, some s'.1, _, rfl, ⟨h5, nu5, ?_, S5⟩, by omega, ?_, ?_, ?_⟩
      · exact D5.mono (by omega)
      · rw [List.length_append, List.length_singleton]; omega
      · omega
      · refine ⟨new ++ [(b + r, s'.1, s'.2)], by rw [hen, List.append_assoc], ?_, fun e he => ?_⟩
        · rw [List.map_append, hnew, List.take_add_one, hs, List.map_append]
          rfl
        · rcases List.mem_append.mp he with he | he
          · exact hna e he
          · rw [List.mem_singleton.mp he]
            show a ≤ b + r
            omega
    · rintro σ H3 ⟨b, y6, es, rfl, Z3, hb, hes3, hab, new, hen, hnew, hna⟩
      rw [List.length_map] at Z3 hb hes3
      refine ⟨.int b, rfl, .ref d, rfl, pick (n4 := 3) Z3 (by omega) (by decide) fun H'' r r0 r2 Z => ?_⟩
      refine ⟨b, r, rfl, rfl, ?_⟩
      refine ⟨fun σ' H' => ∃ a' : Int, σ' = [some (.ref d), some (.ref so), some (.ref mb), some (.ref lb), some (.int a'), some (.ref t.1), y6] ∧ Zu K d c so (N + 10 * (i : Int) + 9) T H mb lb ms es a' H' ∧ a' ≤ 9000 + 21 * ((i + 1 : Nat) : Int), ?_, ?_⟩
      · have Zm : ∀ {a' H'}, Zu K d c so (N + 10 * (i : Int) + 9) T H mb lb ms es a' H' → Zu K d c so (N + 10 * (i : Int) + 9) T H mb lb ms es a' H' := fun z => z
        refine ⟨.int (b + r), rfl, b + r, 5000, rfl, rfl, _, rfl, ?_⟩
        by_cases c1 : b + r < 5000
        · rw [decide_eq_true c1]
          refine iteT ⟨.ref d, rfl, d, c, _, 8, rfl, Z.dk, by omega, by decide, by decide, fun H4 j k4 D4 j0 j8 => ⟨rfl, _, rfl, ?_⟩⟩
          have Z4 := Z.draw k4 D4 hmd hld ⟨hsd, hsc⟩
          rw [dec_int]
          cases (j == 5) with
          | true => exact iteT ⟨.int (b + r), rfl, b + r, 4000, rfl, rfl, b + r + 4000, rfl, ⟨Z4.he, Z4.nu.more (by omega), Z4.dk.mono (by omega), Z4.sm⟩, by omega⟩
          | false => exact iteF ⟨b + r, rfl, ⟨Z4.he, Z4.nu.more (by omega), Z4.dk.mono (by omega), Z4.sm⟩, by omega⟩
        · rw [decide_eq_false c1]
          exact iteF ⟨b + r, rfl, ⟨Z.he, Z.nu.more (by omega), Z.dk.mono (by omega), Z.sm⟩, by omega⟩
      · rintro σ' H4 ⟨a', rfl, Z4, ha'⟩
        refine ⟨.ref mb, rfl, .inl ⟨rfl, _, .inl (.inl Z4.he.hm)⟩, .int a', rfl, mb, _, .int a', rfl, rfl, Z4.he.hm, small1000 (by rw [List.length_map]; omega), ?_⟩
        have hm5 := Z4.he.marks (ms' := ms ++ [a']) hml
        rw [List.map_append] at hm5
        refine ⟨a', some (.ref t.1), y6, ms ++ [a'], es, rfl, ⟨hm5, Z4.nu.mark, (Z4.dk.upd hmd.1 hmd.2).mono (by omega), Z4.sm.upd Z4.he.hm hsm⟩, ha', by rw [List.length_append, hms]; rfl, by omega, by rw [List.getLast?_append]; rfl, ?_⟩
        rw [hen, parts_one hlast (fun m hm => (Z2.nu.le m hm).2) (fun e he => (Z2.nu.lt e (hes0 ▸ he)).2) (fun e he => ⟨hna e he, (Z4.nu.lt e (by rw [hen]; exact List.mem_append_right _ he)).2⟩), hes0, hpar, hnew, List.take_add_one, ht, List.map_append]
        show _ = List.map tdat (List.take i T) ++ [t.2.map (·.2)]
        rw [List.length_map, List.take_length]
  · rintro σ H2 ⟨a, y5, y6, ms, es, rfl, Z2, ha, hms, hes, hlast, hpar⟩
    rw [List.length_map] at Z2 ha hms hes hpar
    rw [List.take_length] at hpar
    refine ⟨fun σ' H' => ∃ ms' : List Int, σ' = [some (.ref d), some (.ref so), some (.ref mb), some (.ref lb), some (.int a), y5, y6] ∧ He K d c H mb lb ms' es H' ∧ Deck H' d c (N + 99) ∧ OkL ms' es ∧ partsOf ms' es = T.map tdat ∧ (∀ e, e ∈ es → ∃ m, m ∈ ms' ∧ e.1 < m), ?_, ?_⟩
    · refine ⟨.ref mb, rfl, mb, _, rfl, .inl (.inl (.inl Z2.he.hm)), _, 1, rfl, rfl, _, rfl, ?_⟩
      rw [List.length_map, hms]
      by_cases c1 : (1 : Int) < ((T.length + 1 : Nat) : Int)
      · rw [decide_eq_true c1]
        refine iteT ⟨.ref d, rfl, d, c, _, 8, rfl, Z2.dk, by omega, by decide, by decide, fun H4 j k4 D4 j0 j8 => ⟨rfl, _, rfl, ?_⟩⟩
        have Z4 := Z2.draw k4 D4 hmd hld ⟨hsd, hsc⟩
        rw [dec_int]
        cases (j == 5) with
        | true =>
          refine iteT ⟨.ref mb, rfl, 1, rfl, mb, _, -1, T.length, rfl, rfl, Z4.he.hm, ?_, ?_⟩
          · rw [List.length_map, hms]
            unfold ixN
            rw [if_neg (by decide), if_pos (by omega)]
            congr 1
            omega
          · have e1 : (ms.map V.int).set T.length (.int 10000) = (ms.set T.length 10000).map V.int := (List.map_set).symm
            rw [e1]
            have hl' := Z4.nu.last (by omega) (by omega) (by omega) (by omega)
            rw [hms, Nat.add_sub_cancel] at hl'
            exact ⟨_, rfl, Z4.he.marks hml, (Z4.dk.upd hmd.1 hmd.2).mono (by omega), hl', by have := parts_last hlast (fun e he => (Z2.nu.lt e he).2) (show a ≤ 10000 by omega); rw [hms, Nat.add_sub_cancel] at this; rw [this, hpar], fun e he => ⟨10000, List.mem_of_getElem? (List.getElem?_set_self (by omega)), by have := (Z2.nu.lt e he).2; omega⟩⟩
        | false => exact iteF ⟨ms, rfl, Z4.he, Z4.dk.mono (by omega), Z4.nu.ok (by omega) (by omega) (by omega), hpar, fun e he => ⟨a, List.mem_of_getLast? hlast, (Z2.nu.lt e he).2⟩⟩
      · rw [decide_eq_false c1]
        exact iteF ⟨ms, rfl, Z2.he, Z2.dk.mono (by omega), Z2.nu.ok (by omega) (by omega) (by omega), hpar, fun e he => ⟨a, List.mem_of_getLast? hlast, (Z2.nu.lt e he).2⟩⟩
    · rintro σ' H3 ⟨ms', rfl, h3, D3, ok, hp1, hp2⟩
      obtain ⟨rs, hl0, he0⟩ := h3.hl
      refine ⟨.ref mb, rfl, mb, _, rfl, .inl ⟨.inl (.inl h3.hm), fun mp nmp => ?_⟩⟩
      have s3 := same_upd (o := .tup (ms'.map V.int)) nmp
      refine ⟨.ref lb, rfl, lb, _, rfl, .inl (.inl (s3 _ _ hl0)), fun ep o ho nep => ⟨h1000 (show 2 ≤ 1000 by decide), fun p np => ?_⟩⟩
      have s4 := same_upd (o := .frz o (.tup (rs.map V.ref))) nep
      have s5 := same_upd (o := .tup [.ref mp, .ref ep]) np
      have s345 := (s3.trans s4).trans s5
      refine q _ p ms' es (fun b ob n1 n2 e => s345 _ _ (h3.old b ob n1 n2 (ne_of_none e nmb) (ne_of_none e nlH) e)) ((D3.same s345).mono (by omega)) ⟨mp, ep, rs, upd_same, (s4.trans s5) _ _ upd_same, ⟨o, s5 _ _ upd_same, ho⟩, ens_keep (KeepT.of s345) he0⟩ ok hp1 hp2
end
end L17

namespace L17
open PySem PySem.Spec PyProof.Rows L2 GR
abbrev aggs : List (Str × Nat) := [("count", 2), ("sum", 3), ("most", 4), ("first", 3)]
abbrev opws : List Str := ["+", "-", "*", "<", "=", "at"]
/-- one that contains none -/
inductive Leaf (zs : List Str) : PyData → Prop
  | int (i : Int) : -(10 ^ 18) ≤ i → i ≤ 10 ^ 18 → Leaf zs (.tuple [.str "int", .int i])
  | let_ (i : Int) : 0 ≤ i → i ≤ 10000 → Leaf zs (.tuple [.str "let", .int i])
  | key : Leaf zs (.tuple [.str "key"])
  | var (z : Str) : z ∈ zs → Leaf zs (.tuple [.str "var", .str z])
/-- an expression of depth n at most; its names are among zs -/
inductive Ex (zs : List Str) : Nat → PyData → Prop
  | leaf (n : Nat) (x : PyData) : Leaf zs x → Ex zs (n + 1) x
  | cell (n : Nat) (t v : Str) (x : PyData) : t ∈ zs → v ∈ zs → Ex zs n x → Ex zs (n + 1) (.tuple [.str "cell", .str t, x, .str v])
  | op (n : Nat) (o : Str) (x y : PyData) : o ∈ opws → Ex zs n x → Ex zs n y → Ex zs (n + 1) (.tuple [.str o, x, y])
  | iff (n : Nat) (x y z : PyData) : Ex zs n x → Ex zs n y → Ex zs n z → Ex zs (n + 1) (.tuple [.str "if", x, y, z])
  | agg (n : Nat) (o t : Str) (xs ys : List PyData) : (o, ys.length) ∈ aggs → t ∈ zs → xs.length ≤ 2 → (∀ x, x ∈ xs → Ex zs n x) → (∀ y, y ∈ ys → Ex zs n y) → Ex zs (n + 1) (.tuple (.str o :: .str t :: .tuple xs :: ys))
theorem Ex.mono {zs : List Str} : ∀ {n m : Nat} {x : PyData}, Ex zs n x → n ≤ m → Ex zs m x := by
  intro n m x h
  induction h generalizing m with
  | leaf n x h =>
    intro hm
    obtain ⟨k, rfl⟩ : ∃ k, m = k + 1 := ⟨m - 1, by omega⟩
    exact .leaf k x h
  | cell n t v x h1 h2 h3 ih =>
    intro hm
    obtain ⟨k, rfl⟩ : ∃ k, m = k + 1 := ⟨m - 1, by omega⟩
    exact .cell k t v x h1 h2 (ih (by omega))
  | op n o x y h1 h2 h3 ih1 ih2 =>
    intro hm
    obtain ⟨k, rfl⟩ : ∃ k, m = k + 1 := ⟨m - 1, by omega⟩
    exact .op k o x y h1 (ih1 (by omega)) (ih2 (by omega))
  | iff n x y z h1 h2 h3 ih1 ih2 ih3 =>
    intro hm
    obtain ⟨k, rfl⟩ : ∃ k, m = k + 1 := ⟨m - 1, by omega⟩
    exact .iff k x y z (ih1 (by omega)) (ih2 (by omega)) (ih3 (by omega))
  | agg n o t xs ys h1 h2 h3 h4 h5 ih1 ih2 =>
    intro hm
    obtain ⟨k, rfl⟩ : ∃ k, m = k + 1 := ⟨m - 1, by omega⟩
    exact .agg k o t xs ys h1 h2 h3 (fun x hx => ih1 x hx (by omega)) (fun y hy => ih2 y hy (by omega))
theorem Ex.flat {zs : List Str} : ∀ {n : Nat} {x : PyData}, Ex zs n x → flatD x = true := by
  intro n x h
  induction h with
  | leaf n x h => cases h <;> simp only [flatD, flatDs, Bool.and_self]
  | cell n t v x h1 h2 h3 ih => simp only [flatD, flatDs, ih, Bool.and_self]
  | op n o x y h1 h2 h3 ih1 ih2 => simp only [flatD, flatDs, ih1, ih2, Bool.and_self]
  | iff n x y z h1 h2 h3 ih1 ih2 ih3 => simp only [flatD, flatDs, ih1, ih2, ih3, Bool.and_self]
  | agg n o t xs ys h1 h2 h3 h4 h5 ih1 ih2 => simp only [flatD, flatDs, flatDs_of ih1, flatDs_of ih2, Bool.and_self]
end L17

namespace L17
open PySem PySem.Spec PyProof.Rows L2 GR
/-- what stands behind each word -/
def table : List (Str × List Str) := [("int", ["value"]), ("var", ["name"]), ("key", []), ("let", ["position"]), ("cell", ["name", "free", "name"]), ("+", ["free", "free"]), ("-", ["free", "free"]), ("*", ["free", "free"]), ("<", ["free", "free"]), ("=", ["free", "free"]),
  ("if", ["free", "free", "free"]), ("at", ["free", "bound"]), ("count", ["name", "extra", "bound", "bound"]), ("sum", ["name", "extra", "bound", "bound", "bound"]), ("most", ["name", "extra", "bound", "bound", "bound", "free"]), ("first", ["name", "extra", "bound", "bound", "free"])]
def items : PyData → List PyData
  | .tuple xs => xs
  | _ => []
def pick (wanted : List Str) : List Str → List PyData → List PyData
  | f :: fs, d :: ds => (if f = "extra" then items d else if f ∈ wanted then [d] else []) ++ pick wanted fs ds
  | _, _ => []
/-- what stands behind the word fits its kinds, as far as contained_of asks -/
inductive Fits : List Str → List PyData → Prop
  | nil : Fits [] []
  | cons {f : Str} {d : PyData} {fs : List Str} {ds : List PyData} : (f = "extra" → ∃ xs, d = .tuple xs) → Fits fs ds → Fits (f :: fs) (d :: ds)
/-- the form of an expression -/
def Form (x : PyData) (w : Str) (fs : List Str) (rest : List PyData) : Prop := x = .tuple (.str w :: rest) ∧ (w, fs) ∈ table ∧ Fits fs rest
theorem fit1 {f : Str} {d : PyData} {fs : List Str} {ds : List PyData} (h : f ≠ "extra") (t : Fits fs ds) : Fits (f :: fs) (d :: ds) := .cons (fun e => absurd e h) t
theorem Ex.form {zs : List Str} {n : Nat} {x : PyData} (h : Ex zs n x) : ∃ w fs rest, Form x w fs rest := by
  cases h with
  | leaf n x h =>
    cases h with
    | int i _ _ => exact ⟨"int", ["value"], _, rfl, by decide, fit1 (by decide) .nil⟩
    | let_ i _ _ => exact ⟨"let", ["position"], _, rfl, by decide, fit1 (by decide) .nil⟩
    | key => exact ⟨"key", [], _, rfl, by decide, .nil⟩
    | var z _ => exact ⟨"var", ["name"], _, rfl, by decide, fit1 (by decide) .nil⟩
  | cell n t v x h1 h2 h3 => exact ⟨"cell", ["name", "free", "name"], _, rfl, by decide, fit1 (by decide) (fit1 (by decide) (fit1 (by decide) .nil))⟩
  | op n o x y h1 h2 h3 =>
    simp only [opws, List.mem_cons, List.not_mem_nil, or_false] at h1
    rcases h1 with rfl | rfl | rfl | rfl | rfl | rfl
    · exact ⟨_, ["free", "free"], _, rfl, by decide, fit1 (by decide) (fit1 (by decide) .nil)⟩
    · exact ⟨_, ["free", "free"], _, rfl, by decide, fit1 (by decide) (fit1 (by decide) .nil)⟩
    · exact ⟨_, ["free", "free"], _, rfl, by decide, fit1 (by decide) (fit1 (by decide) .nil)⟩
    · exact ⟨_, ["free", "free"], _, rfl, by decide, fit1 (by decide) (fit1 (by decide) .nil)⟩
    · exact ⟨_, ["free", "free"], _, rfl, by decide, fit1 (by decide) (fit1 (by decide) .nil)⟩
    · exact ⟨_, ["free", "bound"], _, rfl, by decide, fit1 (by decide) (fit1 (by decide) .nil)⟩
  | iff n x y z h1 h2 h3 => exact ⟨"if", ["free", "free", "free"], _, rfl, by decide, fit1 (by decide) (fit1 (by decide) (fit1 (by decide) .nil))⟩
  | agg n o t xs ys h1 h2 h3 h4 h5 =>
    have tl : ∀ d : PyData, (("extra" : Str) = "extra" → ∃ us, d = .tuple us) ∨ True := fun _ => .inr trivial
    simp only [aggs, List.mem_cons, List.not_mem_nil, or_false, Prod.mk.injEq] at h1
    rcases h1 with ⟨rfl, h⟩ | ⟨rfl, h⟩ | ⟨rfl, h⟩ | ⟨rfl, h⟩
    · match ys, h with
      | [_, _], _ => exact ⟨_, ["name", "extra", "bound", "bound"], _, rfl, by decide, fit1 (by decide) (.cons (fun _ => ⟨xs, rfl⟩) (fit1 (by decide) (fit1 (by decide) .nil)))⟩
    · match ys, h with
      | [_, _, _], _ => exact ⟨_, ["name", "extra", "bound", "bound", "bound"], _, rfl, by decide, fit1 (by decide) (.cons (fun _ => ⟨xs, rfl⟩) (fit1 (by decide) (fit1 (by decide) (fit1 (by decide) .nil))))⟩
    · match ys, h with
      | [_, _, _, _], _ => exact ⟨_, ["name", "extra", "bound", "bound", "bound", "free"], _, rfl, by decide, fit1 (by decide) (.cons (fun _ => ⟨xs, rfl⟩) (fit1 (by decide) (fit1 (by decide) (fit1 (by decide) (fit1 (by decide) .nil)))))⟩
    · match ys, h with
      | [_, _, _], _ => exact ⟨_, ["name", "extra", "bound", "bound", "free"], _, rfl, by decide, fit1 (by decide) (.cons (fun _ => ⟨xs, rfl⟩) (fit1 (by decide) (fit1 (by decide) (fit1 (by decide) .nil))))⟩
/-- the written table at fA -/
def Flds (K : PySem.W.Frag) (w : World) (fA : Addr) : Prop := ∀ wd fs, (wd, fs) ∈ table → ∃ p, KDct K w fA wd (.ref p) ∧ ∀ H, SqT K H p (fs.map V.str)
end L17
namespace L17
open PySem PySem.Spec PyProof.Rows L2 GR
/-- what one field gives -/
def pick1 (wanted : List Str) (f : Str) (d : PyData) : List PyData := if f = "extra" then items d else if f ∈ wanted then [d] else []
theorem pick_take (W : List Str) : ∀ {fs : List Str} {ds : List PyData} (i : Nat) {f : Str} {d : PyData}, fs[i]? = some f → ds[i]? = some d → pick W (fs.take (i + 1)) (ds.take (i + 1)) = pick W (fs.take i) (ds.take i) ++ pick1 W f d
  | f0 :: fs, d0 :: ds, 0, f, d, hf, hd => by
    cases hf
    cases hd
    simp only [List.take_succ_cons, List.take_zero, pick, pick1, List.append_nil, List.nil_append]
  | f0 :: fs, d0 :: ds, i + 1, f, d, hf, hd => by
    rw [List.getElem?_cons_succ] at hf hd
    have := pick_take W i hf hd
    simp only [List.take_succ_cons, pick]
    rw [this, List.append_assoc]
  | [], _, _, _, _, hf, _ => by simp at hf
  | _ :: _, [], _, _, _, _, hd => by simp at hd
theorem pick_len (W : List Str) : ∀ {fs : List Str} {ds : List PyData} (i : Nat), (pick W (fs.take i) (ds.take i)).length ≤ (pick W fs ds).length
  | f0 :: fs, d0 :: ds, 0 => by simp only [List.take_zero, pick]; exact Nat.zero_le _
  | f0 :: fs, d0 :: ds, i + 1 => by
    have := pick_len W (fs := fs) (ds := ds) i
    simp only [List.take_succ_cons, pick, List.length_append]
    omega
  | [], ds, i => by simp only [List.take_nil, pick]; exact Nat.zero_le _
  | f0 :: fs, [], i => by
    simp only [List.take_nil]
    cases fs.take i <;> cases i <;> simp [pick]
theorem flatDs_at : ∀ {ds : List PyData} {i : Nat} {d : PyData}, flatDs ds = true → ds[i]? = some d → flatD d = true
  | d0 :: ds, 0, d, h, e => by
    cases e
    rw [flatDs, Bool.and_eq_true] at h
    exact h.1
  | d0 :: ds, i + 1, d, h, e => by
    rw [flatDs, Bool.and_eq_true] at h
    rw [List.getElem?_cons_succ] at e
    exact flatDs_at h.2 e
  | [], _, _, _, e => by simp at e
theorem flat_pick1 {W : List Str} {f : Str} {d : PyData} (h : flatD d = true) : flatDs (pick1 W f d) = true := by
  unfold pick1
  split
  · cases d <;> simp only [items, flatDs]
    rw [flatD] at h
    exact h
  · split
    · rw [flatDs, h, flatDs]
      rfl
    · rw [flatDs]
theorem flat_pick {W : List Str} : ∀ {fs : List Str} {ds : List PyData}, flatDs ds = true → flatDs (pick W fs ds) = true
  | f :: fs, d :: ds, h => by
    rw [flatDs, Bool.and_eq_true] at h
    exact flatDs_append (flat_pick1 (W := W) (f := f) h.1) (flat_pick h.2)
  | [], _, _ => by simp only [pick, flatDs]
  | _ :: _, [], _ => by simp only [pick, flatDs]
theorem flatDs_take {ds : List PyData} (i : Nat) (h : flatDs ds = true) : flatDs (ds.take i) = true := by
  induction ds generalizing i with
  | nil => simp only [List.take_nil, flatDs]
  | cons d ds ih =>
    rw [flatDs, Bool.and_eq_true] at h
    cases i with
    | zero => simp only [List.take_zero, flatDs]
    | succ i =>
      rw [List.take_succ_cons, flatDs, h.1, ih i h.2]
      rfl
theorem Fits.len {fs : List Str} {ds : List PyData} (h : Fits fs ds) : fs.length = ds.length := by
  induction h with
  | nil => rfl
  | cons _ _ ih => rw [List.length_cons, List.length_cons, ih]
theorem Fits.at' {fs : List Str} {ds : List PyData} (h : Fits fs ds) : ∀ {i : Nat} {d : PyData}, fs[i]? = some ("extra" : Str) → ds[i]? = some d → ∃ xs, d = .tuple xs := by
  induction h with
  | nil =>
    intro i d e
    simp at e
  | cons h1 h2 ih =>
    intro i d e1 e2
    cases i with
    | zero =>
      simp only [List.getElem?_cons_zero, Option.some.injEq] at e1 e2
      obtain ⟨xs, rfl⟩ := h1 e1
      exact ⟨xs, e2.symm⟩
    | succ i =>
      rw [List.getElem?_cons_succ] at e1 e2
      exact ih e1 e2
end L17

/-! Data of all kinds, dicts too, in the abstract heap; ok tells which addresses its lists and dicts may have. -/
namespace AD
open PySem PySem.Spec PyProof.Rows L2 GR
def keyD : Key → PyData
  | .inl i => .int i
  | .inr x => .str x
mutual
inductive Dd (K : PySem.W.Frag) (ok : Addr → Prop) (H : Hp) : V → PyData → Prop
  | non : Dd K ok H .non .none
  | bl (b : Bool) : Dd K ok H (.bl b) (.bool b)
  | int (i : Int) : Dd K ok H (.int i) (.int i)
  | str (x : Str) : Dd K ok H (.str x) (.str x)
  | lst {a : Addr} {xs : List V} {ds : List PyData} : H a = some (.lst xs) → ok a → DdAll K ok H xs ds → Dd K ok H (.ref a) (.list ds)
  | tup {a : Addr} {xs : List V} {ds : List PyData} : SqT K H a xs → DdAll K ok H xs ds → Dd K ok H (.ref a) (.tuple ds)
  | dk {a : Addr} {kvs : List (Key × V)} {ds : List PyData} : H a = some (.dK kvs) → ok a → DdAll K ok H (kvs.map (·.2)) ds → Dd K ok H (.ref a) (.dict ((kvs.map fun p => keyD p.1).zip ds))
inductive DdAll (K : PySem.W.Frag) (ok : Addr → Prop) (H : Hp) : List V → List PyData → Prop
  | nil : DdAll K ok H [] []
  | cons {v : V} {vs : List V} {d : PyData} {ds : List PyData} : Dd K ok H v d → DdAll K ok H vs ds → DdAll K ok H (v :: vs) (d :: ds)
end
/-- tuples stay, and what lies where ok allows it -/
structure KeepO (ok : Addr → Prop) (H H' : Hp) : Prop where
  tup : ∀ b xs, H b = some (.tup xs) → H' b = some (.tup xs)
  frz : ∀ b o xs, H b = some (.frz o (.tup xs)) → H' b = some (.frz o (.tup xs))
  oth : ∀ b o, ok b → H b = some o → H' b = some o
theorem KeepO.of {ok : Addr → Prop} {H H' : Hp} (s : Same H H') : KeepO ok H H' := ⟨fun b _ e => s b _ e, fun b _ _ e => s b _ e, fun b _ _ e => s b _ e⟩
theorem KeepO.trans {ok : Addr → Prop} {H H1 H2 : Hp} (a : KeepO ok H H1) (b : KeepO ok H1 H2) : KeepO ok H H2 := ⟨fun x _ e => b.tup x _ (a.tup x _ e), fun x _ _ e => b.frz x _ _ (a.frz x _ _ e), fun x o h e => b.oth x o h (a.oth x o h e)⟩
theorem KeepO.seqt {ok : Addr → Prop} {K : PySem.W.Frag} {H H' : Hp} (s : KeepO ok H H') {a : Addr} {xs : List V} (h : SqT K H a xs) : SqT K H' a xs := by
  rcases h with (h | ⟨o, h⟩) | h
  · exact .inl (.inl (s.tup _ _ h))
  · exact .inl (.inr ⟨o, s.frz _ _ _ h⟩)
  · exact .inr h
section
variable {K : PySem.W.Frag} {ok ok' : Addr → Prop} {H H' : Hp}
mutual
theorem Dd.keep (k : KeepO ok H H') : ∀ {v : V} {d : PyData}, Dd K ok H v d → Dd K ok H' v d
  | _, _, .non => .non
  | _, _, .bl b => .bl b
  | _, _, .int i => .int i
  | _, _, .str x => .str x
  | _, _, .lst h o q => .lst (k.oth _ _ o h) o (DdAll.keep k q)
  | _, _, .tup h q => .tup (k.seqt h) (DdAll.keep k q)
  | _, _, .dk h o q => .dk (k.oth _ _ o h) o (DdAll.keep k q)
theorem DdAll.keep (k : KeepO ok H H') : ∀ {vs : List V} {ds : List PyData}, DdAll K ok H vs ds → DdAll K ok H' vs ds
  | _, _, .nil => .nil
  | _, _, .cons h q => .cons (Dd.keep k h) (DdAll.keep k q)
end
mutual
theorem Dd.mono (k : ∀ a, ok a → ok' a) : ∀ {v : V} {d : PyData}, Dd K ok H v d → Dd K ok' H v d
  | _, _, .non => .non
  | _, _, .bl b => .bl b
  | _, _, .int i => .int i
  | _, _, .str x => .str x
  | _, _, .lst h o q => .lst h (k _ o) (DdAll.mono k q)
  | _, _, .tup h q => .tup h (DdAll.mono k q)
  | _, _, .dk h o q => .dk h (k _ o) (DdAll.mono k q)
theorem DdAll.mono (k : ∀ a, ok a → ok' a) : ∀ {vs : List V} {ds : List PyData}, DdAll K ok H vs ds → DdAll K ok' H vs ds
  | _, _, .nil => .nil
  | _, _, .cons h q => .cons (Dd.mono k h) (DdAll.mono k q)
end
theorem DdAll.len : ∀ {vs : List V} {ds : List PyData}, DdAll K ok H vs ds → vs.length = ds.length
  | _, _, .nil => rfl
  | _, _, .cons _ q => by rw [List.length_cons, List.length_cons, DdAll.len q]
end
/-- the entries of a dict, its keys read -/
theorem keys_read {P : Program} {w : World} {h : Heap} {es : List DictEntry} {vs : List (Key × Value)} (p : PySem.Pairs (mixKind P w) es vs) : ReadsAll h (es.map (·.key)) (vs.map fun q => keyD q.1) [] := by
  induction p with
  | nil => exact .nil
  | @cons e kv es kvs h1 _ _ ih =>
    rw [List.map_cons, List.map_cons]
    rcases keyIs_shape h1 with ⟨i, t, e1, e2⟩ | ⟨x, t, e1, e2⟩
    · rw [e1, e2]
      exact .cons (.int i t) ih
    · rw [e1, e2]
      exact .cons (.str x t) ih
theorem pairs_val {P : Program} {w : World} {es : List DictEntry} {vs : List (Key × Value)} (p : PySem.Pairs (mixKind P w) es vs) : es.map (·.val) = vs.map (·.2) := by
  induction p with
  | nil => rfl
  | cons _ h2 _ ih => rw [List.map_cons, List.map_cons, h2, ih]
theorem kv_keys {kvs : List (Key × V)} {vs : List (Key × Value)} (r : KV kvs vs) : vs.map (fun q => keyD q.1) = kvs.map fun q => keyD q.1 := by
  induction r with
  | nil => rfl
  | cons h _ ih => rw [List.map_cons, List.map_cons, ih, h.1]
theorem kv_vals {kvs : List (Key × V)} {vs : List (Key × Value)} (r : KV kvs vs) : Vals (kvs.map (·.2)) (vs.map (·.2)) := by
  induction r with
  | nil => exact .nil
  | cons h _ ih => exact .cons h.2 ih
section
variable {X : Cx} {pins : List (Addr × Obj)} {σ : L2.St} {H : Hp} {s : Shared} {ok : Addr → Prop}
mutual
theorem Dd.reads (I : Inv X pins σ H s) (hok : ∀ a, ok a → a ≠ sysModules) : ∀ {v : V} {d : PyData}, Dd X.K ok H v d → ∀ u, RelV v u → ∃ as, Reads s.heap u d as ∧ sysModules ∉ as
  | _, _, .non, _, r => by
    cases r
    exact ⟨_, .none, List.not_mem_nil⟩
  | _, _, .bl b, _, r => by
    cases r
    exact ⟨_, .bool b, List.not_mem_nil⟩
  | _, _, .int i, _, r => by
    obtain ⟨t, rfl⟩ := r
    exact ⟨_, .int i t, List.not_mem_nil⟩
  | _, _, .str x, _, r => by
    obtain ⟨t, rfl⟩ := r
    exact ⟨_, .str x t, List.not_mem_nil⟩
  | _, _, .lst hs o q, _, r => by
    cases r
    obtain ⟨its, rv, ⟨ob, n, ho, hc, _, hd⟩, _⟩ := I.list (.inl (.inl hs))
    obtain ⟨as, hr, hn⟩ := DdAll.reads I hok q its rv
    exact ⟨_, .list ho hc hd hr, fun z => (List.mem_cons.mp z).elim (fun e => hok _ o e.symm) hn⟩
  | _, _, .tup hs q, _, r => by
    cases r
    obtain ⟨its, rv, ⟨ob, ho, hc, n, hd⟩, _⟩ := I.tuple hs
    obtain ⟨as, hr, hn⟩ := DdAll.reads I hok q its rv
    exact ⟨_, .tuple ho hc hd hr, hn⟩
  | _, _, .dk (kvs := kvs) (ds := ds) hs o q, _, r => by
    cases r
    obtain ⟨_, hsys, vs, rk, ob, es, ep, ho, hex, hd, _, hp, _⟩ := I.hok _ _ hs
    obtain ⟨as, hr, hn⟩ := DdAll.reads I hok q _ (kv_vals rk)
    have hk := keys_read (h := s.heap) hp
    have hv := pairs_val hp
    have hl := q.len
    rw [List.length_map] at hl
    rw [kv_keys rk] at hk
    rw [← hv] at hr
    refine ⟨_, .dict (kvs := (kvs.map fun p => keyD p.1).zip ds) ho hex.1 hd (as := []) (bs := as) ?_ ?_, fun z => ?_⟩
    · rw [List.map_fst_zip (by rw [List.length_map]; omega)]
      exact hk
    · rw [List.map_snd_zip (by rw [List.length_map]; omega)]
      exact hr
    · rcases List.mem_append.mp z with z | z
      · exact hok _ o (List.mem_singleton.mp z).symm
      · exact hn z
theorem DdAll.reads (I : Inv X pins σ H s) (hok : ∀ a, ok a → a ≠ sysModules) : ∀ {vs : List V} {ds : List PyData}, DdAll X.K ok H vs ds → ∀ us, Vals vs us → ∃ as, ReadsAll s.heap us ds as ∧ sysModules ∉ as
  | _, _, .nil, _, r => by
    cases r
    exact ⟨_, .nil, List.not_mem_nil⟩
  | _, _, .cons h q, _, r => by
    cases r with
    | cons r1 r2 =>
      obtain ⟨as, q1, n1⟩ := Dd.reads I hok h _ r1
      obtain ⟨bs, q2, n2⟩ := DdAll.reads I hok q _ r2
      exact ⟨_, .cons q1 q2, fun z => (List.mem_append.mp z).elim n1 n2⟩
end
/-- what is shown fits -/
structure Shw (d : PyData) : Prop where
  shw : d.showable = true
  dep : d.depth ≤ 60
  len : d.shown.length ≤ sizeLine
/-- repr of anything -/
def rReprA (X : Cx) : List V → Hp → VK → Prop := fun xs H Q => ∃ (v : V) (d : PyData) (ok : Addr → Prop), xs = [v] ∧ (∀ a, ok a → a ≠ sysModules) ∧ Dd X.K ok H v d ∧ Shw d ∧ Q (.str d.shown) H
theorem call_reprA {k : Nat} (hg : X.A.guards = some []) (hr : Room k X.A) : CallR X (.builtin "repr") (rReprA X) := by
  intro pins s σ H xs us Q I r h
  obtain ⟨v, d, ok, rfl, hok, hd, ⟨h1, h2, h3⟩, q⟩ := h
  obtain ⟨u, rfl, rv⟩ := vals1 r
  obtain ⟨as, hR, hn⟩ := Dd.reads I hok hd u rv
  have hu := hr.units
  have big : ∀ a, u = .ref a → wpAny (model X.prog X.w) X.A (call (.builtin "repr") [.ref a]) (EP X pins σ Q) X.xe s := fun a e => by
    rw [e] at hR
    exact repr_of_reads' hR h1 (fun _ => hn) hg (by omega) (fun _ _ e => e) (fun h' u tk hk => ⟨.str d.shown, H, I.kept hk, ⟨_, rfl⟩, q⟩) h3
  cases hd with
  | non =>
    cases rv
    rw [PyData.shown_none] at q
    exact PySem.P.repr_of_none ⟨.str _, H, I.tok _, ⟨_, rfl⟩, q⟩
  | bl b =>
    cases rv
    rw [PyData.shown_bool] at q
    exact P.repr_of_bool ⟨.str _, H, I.kept fun _ _ e => e, ⟨_, rfl⟩, q⟩
  | int i =>
    obtain ⟨t, rfl⟩ := rv
    rw [PyData.shown_int] at q
    exact PySem.P.repr_of_int (by simpa [PyData.showable] using h1) ⟨.str _, H, I.tok _, ⟨_, rfl⟩, q⟩
  | str x =>
    obtain ⟨t, rfl⟩ := rv
    rw [PyData.shown_str] at q h3
    exact P.repr_of_str ⟨.str _, H, I.tok _, ⟨_, rfl⟩, q⟩ h3
  | lst _ _ _ =>
    cases rv
    exact big _ rfl
  | tup _ _ =>
    cases rv
    exact big _ rfl
  | dk _ _ _ =>
    cases rv
    exact big _ rfl
/-- str of a list, a tuple, a dict -/
def rStrA (X : Cx) : List V → Hp → VK → Prop := fun xs H Q => ∃ (a : Addr) (d : PyData) (ok : Addr → Prop), xs = [.ref a] ∧ (∀ a, ok a → a ≠ sysModules) ∧ Dd X.K ok H (.ref a) d ∧ Shw d ∧ Q (.str d.shown) H
theorem call_strA {k : Nat} (hg : X.A.guards = some []) (hr : Room k X.A) : CallR X (.type "str") (rStrA X) := by
  intro pins s σ H xs us Q I r h
  obtain ⟨a, d, ok, rfl, hok, hd, ⟨h1, h2, h3⟩, q⟩ := h
  obtain ⟨u, rfl, rv⟩ := vals1 r
  obtain rfl : u = Value.ref a := rv
  obtain ⟨as, hR, hn⟩ := Dd.reads I hok hd _ rfl
  have hu := hr.units
  exact str_of_reads hR h1 (fun _ => hn) hg (by omega) (fun _ _ e => e) (fun h' u tk hk => ⟨.str d.shown, H, I.kept hk, ⟨_, rfl⟩, q⟩) h3
/-- the class's name -/
def tyN : PyData → String
  | .none => "NoneType"
  | .bool _ => "bool"
  | .int _ => "int"
  | .str _ => "str"
  | .list _ => "list"
  | .tuple _ => "tuple"
  | .dict _ => "dict"
theorem Dd.ty {K : PySem.W.Frag} {v : V} {d : PyData} (h : Dd K ok H v d) : TyX K H v (.type (tyN d)) := by
  cases h with
  | non => exact .base .non
  | bl b => exact .base (.bl b)
  | int i => exact .base (.int i)
  | str x => exact .base (.str x)
  | lst h _ _ => exact .base (.lst h)
  | tup h _ =>
    rcases h with (h | ⟨o, h⟩) | ⟨o, its, n, h1, h2, _⟩
    · exact .base (.tup h)
    · exact .fTuple h
    · exact .kTuple h1 h2
  | dk h _ _ => exact .base (.dK h)
/-- == of anything but dicts -/
def rEqA (X : Cx) : R2 := fun x y H Q => ∃ (d e : PyData) (ok : Addr → Prop), (∀ a, ok a → a ≠ sysModules) ∧ Dd X.K ok H x d ∧ Dd X.K ok H y e ∧ SeqAt.shaped d = true ∧ SeqAt.shaped e = true ∧ Q (.bl (PyData.eqv d e)) H
theorem op_eqA (hu : X.A.units + 64 < cLine) : OpR X (compareOp .Eq) (rEqA X) := by
  intro pins s σ H x y v u Q I rx ry h
  obtain ⟨d, e, ok, hok, hd, he, sd, se, q⟩ := h
  obtain ⟨as, r1, _⟩ := Dd.reads I hok hd v rx
  obtain ⟨bs, r2, _⟩ := Dd.reads I hok he u ry
  exact SeqAt.compareEq_shaped r1 r2 sd se hu ⟨.bl _, H, I, rfl, q⟩
/-- in, not in, of anything but dicts, in a tuple of such -/
def rInA (X : Cx) (neg : Bool) : R2 := fun x y H Q => ∃ (d : PyData) (ds : List PyData) (ok : Addr → Prop), (∀ a, ok a → a ≠ sysModules) ∧ Dd X.K ok H x d ∧ Dd X.K ok H y (.tuple ds) ∧ SeqAt.shaped d = true ∧ SeqAt.shaped (.tuple ds) = true ∧ Q (.bl (if neg then !ds.any (fun z => PyData.eqv z d) else ds.any fun z => PyData.eqv z d)) H
theorem op_inA (hu : X.A.units + 65 < cLine) : OpR X (compareOp .In) (rInA X false) := by
  intro pins s σ H x y v u Q I rx ry h
  obtain ⟨d, ds, ok, hok, hd, he, sd, se, q⟩ := h
  obtain ⟨as, r1, _⟩ := Dd.reads I hok hd v rx
  obtain ⟨bs, r2, _⟩ := Dd.reads I hok he u ry
  exact SeqAt.in_tuple_reads r2 r1 (SeqAt.canLay_of_shaped se) (SeqAt.canLay_of_shaped sd) (room_in_shaped sd hu) ⟨.bl _, H, I, rfl, q⟩
theorem op_notInA (hu : X.A.units + 65 < cLine) : OpR X (compareOp .NotIn) (rInA X true) := by
  intro pins s σ H x y v u Q I rx ry h
  obtain ⟨d, ds, ok, hok, hd, he, sd, se, q⟩ := h
  obtain ⟨as, r1, _⟩ := Dd.reads I hok hd v rx
  obtain ⟨bs, r2, _⟩ := Dd.reads I hok he u ry
  exact SeqAt.notIn_tuple_reads r2 r1 (SeqAt.canLay_of_shaped se) (SeqAt.canLay_of_shaped sd) (room_in_shaped sd hu) ⟨.bl _, H, I, rfl, q⟩
/-- [e, ..]: a new list, not where the modules are -/
def tLstS (t : TA) : TE := fun σ H Q => t σ H fun xs H1 => xs.length ≤ sizeLine ∧ ∀ p, H1 p = none → p ≠ sysModules → Q (.ref p) (upd H1 p (.lst xs))
theorem pe_lstS {es : List Expr} {pos : Pos} {t : TA} (h : PA X es t) : PE X (.List es pos) (tLstS t) := by
  constructor
  intro pins s σ H Q I hq
  refine wpAny_List_spliced (thn (h.run pos pins s σ H _ I hq) ?_)
  rintro us s1 ⟨xs, H1, I1, r, z, q⟩
  refine ⟨by rw [← r.length]; exact z, ?_⟩
  have new := I1.hok.fresh (Nat.le_refl s1.heap.objs.size)
  have far : s1.heap.objs.size ≠ sysModules := (Nat.ne_of_lt I1.big).symm
  refine ⟨.ref s1.heap.objs.size, _, I1.laid (t' := s1.toks) (o := .lst xs) (fun b u e => Heap.get?_push_of_some _ e) (Nat.le_refl _) ⟨z, us, 0, r, Heap.get?_push_size _ rfl⟩, rfl, q _ new far⟩
/-- a dict does not lie where the modules are -/
def tSys (t : TE) : TE := fun σ H Q => t σ H fun v H' => (∀ a kvs, H' a = some (.dK kvs) → a ≠ sysModules) → Q v H'
theorem pe_sys {e : Expr} {t : TE} (h : PE X e t) : PE X e (tSys t) := by
  constructor
  intro pins s σ H Q I hq
  refine thn (h.run pins s σ H _ I hq) ?_
  rintro u s1 ⟨v, H1, I1, r, q⟩
  exact ⟨v, H1, I1, r, q fun a kvs e => fun z => by
    have := (I1.hok a _ e).2.1
    rw [z] at this
    exact absurd this (by decide)⟩
end
end AD

/-! d.get(y) of a written dict of texts, y a text (there or not) or None. -/
namespace FG
open PySem PySem.Spec PyProof.Rows L2 GR
/-- what the dict at p says of y -/
def Says (es : Array DictEntry) (y r : V) : Prop := (y = .non ∧ r = .non) ∨ ∃ z, y = .str z ∧ ((∃ u, findBy Value.isStrOf es z = some u ∧ RelV r u) ∨ (findBy Value.isStrOf es z = none ∧ r = .non))
def tKGet (K : PySem.W.Frag) (w : World) (td ty : TE) : TE := fun σ H Q => td σ H fun x H1 => ∃ (p : Addr) (es : Array DictEntry) (n : Nat), x = .ref p ∧ K.lookup p = some ⟨.type "dict", none, .dict es n, #[]⟩ ∧ PySem.W.KeysLit w.params es.toList ∧ (p == sysModules) = false ∧
  ty σ H1 fun y H2 => ∃ r, Says es y r ∧ Q r H2
/-- None is no key of it -/
theorem none_at {P : Program} {w : World} {h : Heap} {p : Addr} {es : Array DictEntry} {n : Nat} (hp : h.get? p = some ⟨.type "dict", none, .dict es n, #[]⟩) (hk : PySem.W.KeysLit w.params es.toList) : ∃ f, h.MapOf (noneKind P w) p f ∧ f none = none := by
  refine ⟨fun k => findBy (noneKind P w).is es k, ⟨_, es, n, hp, ⟨rfl, rfl, rfl⟩, rfl, fun e he => ?_, fun _ => rfl⟩, ?_⟩
  · obtain ⟨x, t, e1, e2⟩ := hk.all e (Array.mem_toList_iff.mpr he)
    exact ⟨some (.inr x), by rw [e1]; show keyIs (.inr x) (.str x t) = true; simp only [keyIs, PySem.W.isStr_of]; show (x == x) = true; exact beq_self_eq_true x, e2⟩
  · have q : (es.find? fun e => nkIs none e.key) = none := by
      rw [Array.find?_eq_none]
      intro e he hq
      obtain ⟨x, t, e1, _⟩ := hk.all e (Array.mem_toList_iff.mpr he)
      rw [e1] at hq
      exact absurd (nk_none hq) (fun z => nomatch z)
    show (es.find? fun e => nkIs none e.key).map (·.val) = none
    rw [q]
    rfl
section
variable {X : Cx} {o e : Expr} {apos cpos : Pos} {td ty : TE}
theorem pe_kget (ho : PE X o td) (he : PE X e ty) (m : M1 X o "get" apos e cpos) : PE X (.Call (.Attribute o "get" apos) [e] [] cpos) (tKGet X.K X.w td ty) := by
  refine ⟨fun pins s σ H Q I h => ?_⟩
  refine wpAny_Call_method m.base m.few m.line PySem.F.plainAttrs_dict PySem.F.slot_dict_get PySem.F.type_dict_get (thn (ho.run pins s σ H _ I h) fun u s1 ⟨x, H1, I1, rx, p, es, n, ex, hl, hk, hd, q1⟩ => ?_)
  subst ex
  obtain rfl : u = Value.ref p := rx
  have hp := I1.kIn _ _ hl
  refine ⟨⟨_, hp, rfl⟩, fun b q => ⟨_, by cases q; exact hp, rfl⟩, ?_⟩
  rw [m.trees]
  refine Calls.callWith_builtin rfl (Calls.evalArgs_plain (Calls.spliced_cons (thn (he.run pins s1 σ H1 _ I1 q1) fun iv s2 ⟨y, H2, I2, ry, r, hs, q2⟩ => Calls.spliced_nil ?_)))
  have hp2 := I2.kIn _ _ hl
  have hm := PySem.W.mapOf_K (prog := X.prog) (w := X.w) I2.kIn hl hk
  rcases hs with ⟨rfl, rfl⟩ | ⟨z, rfl, hz⟩
  · obtain rfl : iv = Value.none := ry
    obtain ⟨f, hf, hn⟩ := none_at (P := X.prog) (w := X.w) hp2 hk
    refine call_meetsIn PySem.F.slot_dict_get ⟨_, hp2, rfl⟩ PySem.F.entry_dict_get (PySem.F.args_dict_get_2 _ _) (meets_dict_get (noneKind X.prog X.w) p (show (noneKind X.prog X.w).is none .none = true from rfl) hd) ⟨_, hf, ?_⟩
    rw [hn]
    exact ⟨.non, H2, I2.tok _, rfl, q2⟩
  · obtain ⟨t, rfl⟩ := (show ∃ t, iv = Value.str z t from ry)
    refine call_meetsIn PySem.F.slot_dict_get ⟨_, hp2, rfl⟩ PySem.F.entry_dict_get (PySem.F.args_dict_get_2 _ _) (meets_dict_get (strKind X.prog X.w) p (strKind_is X.prog X.w z t) hd) ⟨_, hm, ?_⟩
    rcases hz with ⟨u, hu, rr⟩ | ⟨hu, rfl⟩
    · rw [hu]
      exact ⟨r, H2, I2.tok _, rr, q2⟩
    · rw [hu]
      exact ⟨.non, H2, I2.tok _, rfl, q2⟩
end
end FG

namespace L17
open PySem PySem.Spec PyProof.Rows L2 GR AD
def isI : PyData → Bool
  | .int _ => true
  | _ => false
def isS : PyData → Bool
  | .str _ => true
  | _ => false
def isTu : PyData → Bool
  | .tuple _ => true
  | _ => false
def isIB : PyData → Bool
  | .int _ => true
  | .bool _ => true
  | _ => false
def isB : PyData → Bool
  | .bool _ => true
  | _ => false
theorem kit_i (K : PySem.W.Frag) : ∀ d : PyData, PySem.W.kitOne K (.type (tyN d)) (.type "int") = some (isIB d)
  | .none => kit_ty (show kitB "NoneType" "int" = some false by decide +kernel)
  | .bool _ => kit_ty (show kitB "bool" "int" = some true by decide +kernel)
  | .int _ => kit_ty (show kitB "int" "int" = some true by decide +kernel)
  | .str _ => kit_ty (show kitB "str" "int" = some false by decide +kernel)
  | .list _ => kit_ty (show kitB "list" "int" = some false by decide +kernel)
  | .tuple _ => kit_ty (show kitB "tuple" "int" = some false by decide +kernel)
  | .dict _ => kit_ty (show kitB "dict" "int" = some false by decide +kernel)
theorem kit_b (K : PySem.W.Frag) : ∀ d : PyData, PySem.W.kitOne K (.type (tyN d)) (.type "bool") = some (isB d)
  | .none => kit_ty (show kitB "NoneType" "bool" = some false by decide +kernel)
  | .bool _ => kit_ty (show kitB "bool" "bool" = some true by decide +kernel)
  | .int _ => kit_ty (show kitB "int" "bool" = some false by decide +kernel)
  | .str _ => kit_ty (show kitB "str" "bool" = some false by decide +kernel)
  | .list _ => kit_ty (show kitB "list" "bool" = some false by decide +kernel)
  | .tuple _ => kit_ty (show kitB "tuple" "bool" = some false by decide +kernel)
  | .dict _ => kit_ty (show kitB "dict" "bool" = some false by decide +kernel)
theorem kit_s (K : PySem.W.Frag) : ∀ d : PyData, PySem.W.kitOne K (.type (tyN d)) (.type "str") = some (isS d)
  | .none => kit_ty (show kitB "NoneType" "str" = some false by decide +kernel)
  | .bool _ => kit_ty (show kitB "bool" "str" = some false by decide +kernel)
  | .int _ => kit_ty (show kitB "int" "str" = some false by decide +kernel)
  | .str _ => kit_ty (show kitB "str" "str" = some true by decide +kernel)
  | .list _ => kit_ty (show kitB "list" "str" = some false by decide +kernel)
  | .tuple _ => kit_ty (show kitB "tuple" "str" = some false by decide +kernel)
  | .dict _ => kit_ty (show kitB "dict" "str" = some false by decide +kernel)
theorem kit_t (K : PySem.W.Frag) : ∀ d : PyData, PySem.W.kitOne K (.type (tyN d)) (.type "tuple") = some (isTu d)
  | .none => kit_ty (show kitB "NoneType" "tuple" = some false by decide +kernel)
  | .bool _ => kit_ty (show kitB "bool" "tuple" = some false by decide +kernel)
  | .int _ => kit_ty (show kitB "int" "tuple" = some false by decide +kernel)
  | .str _ => kit_ty (show kitB "str" "tuple" = some false by decide +kernel)
  | .list _ => kit_ty (show kitB "list" "tuple" = some false by decide +kernel)
  | .tuple _ => kit_ty (show kitB "tuple" "tuple" = some true by decide +kernel)
  | .dict _ => kit_ty (show kitB "dict" "tuple" = some false by decide +kernel)
/-- a test whose answer is told -/
theorem iteB {c : Bool} {A B : Prop} (h1 : c = true → A) (h2 : c = false → B) : if c = true then A else B := by
  cases c with
  | true => exact iteT (h1 rfl)
  | false => exact iteF (h2 rfl)
theorem Dd.tup_inv {K : PySem.W.Frag} {ok : Addr → Prop} {H : Hp} {v : V} {ds : List PyData} (h : Dd K ok H v (.tuple ds)) : ∃ a xs, v = .ref a ∧ SqT K H a xs ∧ DdAll K ok H xs ds := by
  cases h with
  | tup h1 h2 => exact ⟨_, _, rfl, h1, h2⟩
section
variable {P : Program} {w : World} {K : PySem.W.Frag} {mg : Str → Option Value} {base : Heap}
/-- a def of one thing that tells a truth of it -/
def sp_is (K : PySem.W.Frag) (f : PyData → Bool) : Sp := fun vs H Q _ => ∃ (v : V) (d : PyData) (ok : Addr → Prop), vs = [v] ∧ Dd K ok H v d ∧ Q (.bl (f d)) H
abbrev s_is_integer : Stmt := topS 5
theorem sc_is_integer : FnScope ["thing"] ["thing"] (defScope s_is_integer) := ⟨rfl, rfl, rfl, by decide +kernel, rfl, by decide +kernel, by decide +kernel⟩
theorem ok_is_integer {f : Addr} {fd : FuncData} {k : Nat} (F : Fun K "is_integer" "is_integer" s_is_integer f fd) (misi : mg "isinstance" = none) (mint : mg "int" = none) (mbool : mg "bool" = none) : FnOk P w K mg base CX0 (k + 1) f fd ["thing"] (sp_is K isI) := by
  have nd := sc_is_integer.nd
  refine F.ok sc_is_integer (fun vs H Q E h => ?_) (fun cdv A outer s H vs Q E hr h => ?_)
  · obtain ⟨v, d, ok, rfl, _⟩ := h
    rfl
  obtain ⟨v, d, ok, rfl, hd, q⟩ := h
  refine ⟨_, (pss_one (ps_ret (pe_and (pe_callB call_isi (by rfl) misi boot_isinstance (pa_cons (pv 0) (pa_cons (pe_bltn (v := .ty "int") (by rfl) mint boot_int rfl) pa_nil))) (pe_one (pe_not (pe_callB call_isi (by rfl) misi boot_isinstance (pa_cons (pv 0) (pa_cons (pe_bltn (v := .ty "bool") (by rfl) mbool boot_bool rfl) pa_nil)))))))), ?_⟩
  refine ⟨v, rfl, v, .ty "int", _, _, _, rfl, .ty "int", hd.ty, kit_i K d, _, rfl, ?_⟩
  cases d with
  | int i => exact iteT ⟨v, rfl, v, .ty "bool", _, _, _, rfl, .ty "bool", hd.ty, kit_b K _, _, rfl, q⟩
  | bool b => exact iteT ⟨v, rfl, v, .ty "bool", _, _, _, rfl, .ty "bool", hd.ty, kit_b K _, _, rfl, q⟩
  | _ => exact iteF q
/-- a value of the language -/
def isV : PyData → Bool
  | .int i => decide (-LIM ≤ i) && decide (i ≤ LIM)
  | _ => false
abbrev s_is_value : Stmt := topS 6
theorem sc_is_value : FnScope ["thing"] ["thing"] (defScope s_is_value) := ⟨rfl, rfl, rfl, by decide +kernel, rfl, by decide +kernel, by decide +kernel⟩
theorem ok_is_value {f fi : Addr} {fd di : FuncData} {k : Nat} {tl : Tok} (F : Fun K "is_value" "is_value" s_is_value f fd) (G : FnOk P w K mg base CX0 k fi di ["thing"] (sp_is K isI)) (g : mg "is_integer" = some (.ref fi)) (Kf : PySem.W.keepIn K (.ref fi) = true) (b : Binds K di ["thing"] []) (mLIMIT : mg "LIMIT" = some (.int LIM tl)) :
    FnOk P w K mg base CX0 (k + 1) f fd ["thing"] (sp_is K isV) := by
  have nd := sc_is_value.nd
  refine F.ok sc_is_value (fun vs H Q E h => ?_) (fun cdv A outer s H vs Q E hr h => ?_)
  · obtain ⟨v, d, ok, rfl, _⟩ := h
    rfl
  obtain ⟨v, d, ok, rfl, hd, q⟩ := h
  refine ⟨_, (pss_one (ps_ret (pe_and (pe_call G hr (by rfl) g Kf b .nil pass0 (pa_cons (pv 0) pa_nil)) (pe_one (pe_chain op_le op_le (pe_un un_neg (pe_glob (v := .int LIM) rfl mLIMIT ⟨_, rfl⟩)) (pv 0) (pe_glob (v := .int LIM) rfl mLIMIT ⟨_, rfl⟩)))))), ?_⟩
  refine ⟨v, rfl, v, d, ok, rfl, hd, _, rfl, ?_⟩
  cases hd with
  | int i =>
    replace q : Q (.bl (decide (-LIM ≤ i) && decide (i ≤ LIM))) H := q
    refine iteT ⟨LIM, rfl, .int i, rfl, -LIM, i, rfl, rfl, _, rfl, ?_⟩
    cases c : decide (-LIM ≤ i) with
    | true =>
      refine iteT ⟨i, LIM, rfl, rfl, ?_⟩
      rw [c, Bool.true_and] at q
      exact q
    | false =>
      rw [c, Bool.false_and] at q
      exact iteF q
  | _ => exact iteF q
/-! ### names -/
abbrev BARW : List Str := ["key", "if", "at", "count", "sum", "most", "first", "let", "need", "put", "each", "tell"]
def lowC (c : Nat) : Bool := decide (97 ≤ c) && decide (c ≤ 122)
def isN : PyData → Bool
  | .str z => (decide (1 ≤ z.length) && decide (z.length ≤ 8)) && (!decide (z ∈ BARW) && z.cps.toList.all lowC)
  | _ => false
theorem mem26 (c : Nat) : decide (c ∈ L26.cps.toList) = lowC c := by
  rw [Bool.eq_iff_iff, decide_eq_true_eq]
  unfold lowC
  rw [Bool.and_eq_true, decide_eq_true_eq, decide_eq_true_eq]
  constructor
  · exact (show ∀ c, c ∈ L26.cps.toList → 97 ≤ c ∧ c ≤ 122 by decide) c
  · rintro ⟨h1, h2⟩
    have := l26_at (c - 97) (by omega)
    rw [show 97 + (c - 97) = c by omega] at this
    exact List.mem_of_getElem? this
/-- a written tuple of texts -/
def KTx (K : PySem.W.Frag) (p : Addr) (fs : List Str) : Prop := ∀ H, SqT K H p (fs.map V.str)
def Sh (d : PyData) : Prop := ∀ z, d = .str z → z.length ≤ 1000 ∧ PyData.strOk z = true
def sp_isS (K : PySem.W.Frag) (f : PyData → Bool) : Sp := fun vs H Q _ => ∃ (v : V) (d : PyData) (ok : Addr → Prop), vs = [v] ∧ Dd K ok H v d ∧ Sh d ∧ ∀ H', Same H H' → Q (.bl (f d)) H'
theorem take_at {α : Type} {l : List α} {i : Nat} {x : α} (h : l[i]? = some x) : l.take (i + 1) = l.take i ++ [x] := by
  rw [List.take_add_one, h]
  rfl
abbrev s_is_name : Stmt := topS 7
theorem sc_is_name : FnScope ["thing", "sign"] ["thing"] (defScope s_is_name) := ⟨rfl, rfl, rfl, by decide +kernel, rfl, by decide +kernel, by decide +kernel⟩
theorem flat_strsW (W : List Str) : (W.map V.str).all flatV = true := by
  rw [List.all_map, List.all_eq_true]
  intro z _
  rfl
theorem ok_is_name {f aW : Addr} {fd : FuncData} {k : Nat} {tn : Tok} {tl : Tok} (F : Fun K "is_name" "is_name" s_is_name f fd) (misi : mg "isinstance" = none) (mstr : mg "str" = none) (mlen : mg "len" = none) (mall : mg "all" = none)
    (mWORDS : mg "WORDS" = some (.ref aW)) (TW : KTx K aW BARW) (mLONGEST_NAME : mg "LONGEST_NAME" = some (.int 8 tn)) (mLETTERS : mg "LETTERS" = some (.str L26 tl)) : FnOk P w K mg base CX0 (k + 1) f fd ["thing"] (sp_isS K isN) := by
  have nd := sc_is_name.nd
  refine F.ok sc_is_name (fun vs H Q E h => ?_) (fun cdv A outer s H vs Q E hr h => ?_)
  · obtain ⟨v, d, ok, rfl, _⟩ := h
    rfl
  obtain ⟨v, d, ok, rfl, hd, hsh, q⟩ := h
  refine ⟨_, (pss_cons (ps_if (PW.pt (pw_or (pt_not (pt_val (pe_callB call_isi (by rfl) misi boot_isinstance (pa_cons (pv 0) (pa_cons (pe_bltn (v := .ty "str") (by rfl) mstr boot_str rfl) pa_nil)))))
        (pw_or1 (pt_not (pt_chain op_le op_le pe_int (pe_callB call_len_str (by rfl) mlen PySem.boot_len (pa_cons (pv 0) pa_nil)) (pe_glob (v := .int 8) rfl mLONGEST_NAME ⟨_, rfl⟩))))))
      (pss_one (ps_ret pe_bl))
      pss_nil)
      (pss_one (ps_ret (pe_and (pe_cmpR op_notIn_seq (pv 0) (pe_glob (v := .ref aW) rfl mWORDS rfl) (by rfl)) (pe_one (pe_callB (cr_all rfl) (by rfl) mall boot_all (pa_cons (pe_lc (own := [("sign", 1)]) (tt := tYes) (te := tOp (fun x y H Q => ∃ (c : Nat) (z : Str), x = .str ⟨#[c]⟩ ∧ y = .str z ∧ Q (.bl (decide (c ∈ z.cps.toList))) H) (tVar 1) (tC (.str L26))) rfl nd (pi_str (pv 0)) (blkOk_by (N := ["thing", "sign"]) (sc := defScope s_is_name) (by decide +kernel))
        (fun _ _ _ _ _ => (pg_name (i := 1) nd rfl (Or.inl rfl))) (fun _ _ _ _ _ => pts_nil) (fun _ _ _ _ _ => (pe_cmpR op_in_sign (pv 1) (pe_glob (v := .str L26) rfl mLETTERS ⟨_, rfl⟩) (by rfl)))) pa_nil))))))), ?_⟩
  have q0 := q H fun _ _ e => e
  refine ⟨v, rfl, v, .ty "str", _, _, _, rfl, .ty "str", hd.ty, kit_s K d, _, rfl, ?_⟩
  cases hd with
  | str z =>
    have hz := (hsh z rfl).1
    have q1 : ∀ H', Same H H' → Q (.bl ((decide (1 ≤ z.length) && decide (z.length ≤ 8)) && (!decide (z ∈ BARW) && z.cps.toList.all lowC))) H' := q
    have e1 : decide ((1 : Int) ≤ (z.length : Int)) = decide (1 ≤ z.length) := decide_eq_decide.mpr (by omega)
    have e2 : decide ((z.length : Int) ≤ (8 : Int)) = decide (z.length ≤ 8) := decide_eq_decide.mpr (by omega)
    refine iteF ⟨.str z, rfl, z, rfl, h1000 hz, 1, (z.length : Int), rfl, rfl, _, rfl, ?_⟩
    rw [e1]
    cases c1 : decide (1 ≤ z.length) with
    | false =>
      rw [c1, Bool.false_and, Bool.false_and] at q1
      exact iteF ⟨_, rfl, iteT (q1 H fun _ _ e => e)⟩
    | true =>
    rw [c1, Bool.true_and] at q1
    refine iteT ⟨(z.length : Int), 8, rfl, rfl, _, rfl, ?_⟩
    rw [e2]
    cases c2 : decide (z.length ≤ 8) with
    | false =>
      rw [c2, Bool.false_and] at q1
      exact iteT (q1 H fun _ _ e => e)
    | true =>
    rw [c2, Bool.true_and] at q1
    refine iteF ⟨.str z, rfl, aW, BARW.map V.str, rfl, .inr (TW H), rfl, flat_strsW _, _, rfl, ?_⟩
    show if (!inV (.str z) (BARW.map V.str)) = true then _ else _
    rw [in_strs]
    cases c3 : decide (z ∈ BARW) with
    | true =>
      rw [c3] at q1
      exact iteF (q1 H fun _ _ e => e)
    | false =>
    rw [c3, Bool.not_false, Bool.true_and] at q1
    have hlen : z.cps.size ≤ 1000 := hz
    refine iteT ⟨.str z, rfl, z, rfl, fun D nD => ?_⟩
    refine lc_it walk_str (fun i H' => H' D = some (.lst (((z.cps.toList.take i).map lowC).map V.bl)) ∧ ∀ b o, b ≠ D → H b = some o → H' b = some o) ?_ (fun _ _ _ _ => trivial) ?_ ?_
    · exact ⟨upd_same, fun b o nb e => by rw [upd_ne nb]; exact e⟩
    · rintro i x H1 H' hi ⟨hD, kp⟩ ⟨rfl, c, hc, rfl⟩
      have hc' : z.cps.toList[i]? = some c := by rw [Array.getElem?_toList]; exact hc
      refine ⟨rfl, yes_then ⟨.str ⟨#[c]⟩, rfl, c, L26, rfl, rfl, _, hD, small1000 (by rw [List.length_map, List.length_map, List.length_take]; rw [Array.length_toList]; omega), ?_, fun b o nb e => by rw [upd_ne nb]; exact kp b o nb e⟩⟩
      rw [mem26, take_at hc', List.map_append, List.map_append]
      exact upd_same
    · rintro H1 ⟨hD, kp⟩
      have sD : Same H H1 := fun b o e => kp b o (ne_of_none e nD) e
      rw [← Array.length_toList, List.take_length] at hD
      refine ⟨D, z.cps.toList.map lowC, rfl, .inl (.inl hD), ?_⟩
      rw [List.all_map]
      exact q1 H1 sD
  | _ => exact iteT (iteT q0)
end
end L17

namespace L17
open PySem PySem.Spec PyProof.Rows L2 GR AD
/-! ### the form of an expression -/
/-- its word, if it has one -/
def wordV : PyData → V
  | .tuple (.str w :: _) => .str w
  | _ => .non
def fitsD (f : Str) (d : PyData) : Bool := if f = "value" then isV d else if f = "name" then isN d else if f = "position" then (match d with | .int i => decide (0 ≤ i) | _ => false) else if f = "extra" then isTu d else true
/-- the kinds that stand behind a word -/
def look (w : Str) : Option (List Str) := (table.find? fun p => decide (p.1 = w)).map (·.2)
def fitsAll : List Str → List PyData → Bool
  | [], [] => true
  | f :: fs, d :: ds => fitsD f d && fitsAll fs ds
  | _, _ => false
def hasForm : PyData → Bool
  | .tuple (.str w :: r) => (match look w with | some fs => fitsAll fs r | none => false)
  | _ => false
section
variable {P : Program} {w : World} {K : PySem.W.Frag} {mg : Str → Option Value} {base : Heap}
abbrev s_word_of : Stmt := topS 8
theorem sc_word_of : FnScope ["thing"] ["thing"] (defScope s_word_of) := ⟨rfl, rfl, rfl, by decide +kernel, rfl, by decide +kernel, by decide +kernel⟩
def sp_word (K : PySem.W.Frag) : Sp := fun vs H Q _ => ∃ (v : V) (d : PyData) (ok : Addr → Prop), vs = [v] ∧ Dd K ok H v d ∧ Q (wordV d) H
theorem ok_word_of {f : Addr} {fd : FuncData} {k : Nat} (F : Fun K "word_of" "word_of" s_word_of f fd) (misi : mg "isinstance" = none) (mtuple : mg "tuple" = none) (mstr : mg "str" = none) : FnOk P w K mg base CX0 (k + 1) f fd ["thing"] (sp_word K) := by
  have nd := sc_word_of.nd
  refine F.ok sc_word_of (fun vs H Q E h => ?_) (fun cdv A outer s H vs Q E hr h => ?_)
  · obtain ⟨v, d, ok, rfl, _⟩ := h
    rfl
  obtain ⟨v, d, ok, rfl, hd, q⟩ := h
  refine ⟨_, (pss_cons (ps_if (PW.pt (pw_and (pt_val (pe_callB call_isi (by rfl) misi boot_isinstance (pa_cons (pv 0) (pa_cons (pe_bltn (v := .ty "tuple") (by rfl) mtuple boot_tuple rfl) pa_nil)))) (pw_and (pt_truth (pv 0) (fun _ => rfl)) (pw_and1 (pt_val (pe_callB call_isi (by rfl) misi boot_isinstance (pa_cons (pe_ix ix_tup (pv 0) pe_int (fun _ _ => rfl)) (pa_cons (pe_bltn (v := .ty "str") (by rfl) mstr boot_str rfl) pa_nil))))))))
      (pss_one (ps_ret (pe_ix ix_tup (pv 0) pe_int (fun _ _ => rfl))))
      pss_nil)
      (pss_one (ps_ret pe_non))), ?_⟩
  refine ⟨v, rfl, v, .ty "tuple", _, _, _, rfl, .ty "tuple", hd.ty, kit_t K d, _, rfl, ?_⟩
  cases hd with
  | tup hs ha =>
    rename_i a xs ds
    refine iteT ⟨.ref a, rfl, !xs.isEmpty, .inr (.inl ⟨xs, hs, rfl⟩), ?_⟩
    cases ha with
    | nil => exact iteF q
    | cons h1 r1 =>
      rename_i v1 vs1 d1 ds1
      refine iteT ⟨.ref a, rfl, a, _, 0, v1, rfl, rfl, hs, at0, v1, .ty "str", _, _, _, rfl, .ty "str", h1.ty, kit_s K d1, _, rfl, ?_⟩
      cases h1 with
      | str z => exact iteT ⟨.ref a, rfl, a, _, 0, .str z, rfl, rfl, hs, at0, q⟩
      | _ => exact iteF q
  | _ => exact iteF q
abbrev s_fits : Stmt := topS 15
theorem sc_fits : FnScope ["kind", "part"] ["kind", "part"] (defScope s_fits) := ⟨rfl, rfl, rfl, by decide +kernel, rfl, by decide +kernel, by decide +kernel⟩
def sp_fits (K : PySem.W.Frag) : Sp := fun vs H Q _ => ∃ (z : Str) (v : V) (d : PyData) (ok : Addr → Prop), vs = [.str z, v] ∧ Dd K ok H v d ∧ Sh d ∧ ∀ H', Same H H' → Q (.bl (fitsD z d)) H'
theorem ok_fits {f fv fn fi : Addr} {fd dv dn di : FuncData} {k : Nat} (F : Fun K "fits" "fits" s_fits f fd) (Gv : FnOk P w K mg base CX0 k fv dv ["thing"] (sp_is K isV)) (gv : mg "is_value" = some (.ref fv)) (Kv : PySem.W.keepIn K (.ref fv) = true) (bv : Binds K dv ["thing"] [])
    (Gn : FnOk P w K mg base CX0 k fn dn ["thing"] (sp_isS K isN)) (gn : mg "is_name" = some (.ref fn)) (Kn : PySem.W.keepIn K (.ref fn) = true) (bn : Binds K dn ["thing"] [])
    (Gi : FnOk P w K mg base CX0 k fi di ["thing"] (sp_is K isI)) (gi : mg "is_integer" = some (.ref fi)) (Ki : PySem.W.keepIn K (.ref fi) = true) (bi : Binds K di ["thing"] [])
    (misi : mg "isinstance" = none) (mtuple : mg "tuple" = none) : FnOk P w K mg base CX0 (k + 1) f fd ["kind", "part"] (sp_fits K) := by
  have nd := sc_fits.nd
  refine F.ok sc_fits (fun vs H Q E h => ?_) (fun cdv A outer s H vs Q E hr h => ?_)
  · obtain ⟨z, v, d, ok, rfl, _⟩ := h
    rfl
  obtain ⟨z, v, d, ok, rfl, hd, hsh, q⟩ := h
  refine ⟨_, (pss_cons (ps_if (pt_cmpR op_eq (pv 0) pe_str (nomark _)) (pss_one (ps_ret (pe_call Gv hr (by rfl) gv Kv bv .nil pass0 (pa_cons (pv 1) pa_nil)))) pss_nil)
      (pss_cons (ps_if (pt_cmpR op_eq (pv 0) pe_str (nomark _)) (pss_one (ps_ret (pe_call Gn hr (by rfl) gn Kn bn .nil pass0 (pa_cons (pv 1) pa_nil)))) pss_nil)
      (pss_cons (ps_if (pt_cmpR op_eq (pv 0) pe_str (nomark _)) (pss_one (ps_ret (pe_and (pe_call Gi hr (by rfl) gi Ki bi .nil pass0 (pa_cons (pv 1) pa_nil)) (pe_one (pe_cmpR op_ge (pv 1) pe_int (nomark _)))))) pss_nil)
      (pss_cons (ps_if (pt_cmpR op_eq (pv 0) pe_str (nomark _)) (pss_one (ps_ret (pe_callB call_isi (by rfl) misi boot_isinstance (pa_cons (pv 1) (pa_cons (pe_bltn (v := .ty "tuple") (by rfl) mtuple boot_tuple rfl) pa_nil))))) pss_nil)
      (pss_one (ps_ret pe_bl)))))), ?_⟩
  have q0 : Q (.bl (fitsD z d)) H := q H fun _ _ e => e
  unfold fitsD at q q0
  refine ⟨.str z, rfl, rfl, _, rfl, ite2 (fun e1 => ?_) (fun e1 => ?_)⟩
  · have e1 : z = "value" := by simpa using e1
    rw [if_pos e1] at q0
    exact ⟨v, rfl, v, d, ok, rfl, hd, q0⟩
  have e1 : z ≠ "value" := fun x => e1 (by simpa using x)
  rw [if_neg e1] at q0
  simp only [if_neg e1] at q
  refine ⟨.str z, rfl, rfl, _, rfl, ite2 (fun e2 => ?_) (fun e2 => ?_)⟩
  · have e2 : z = "name" := by simpa using e2
    simp only [if_pos e2] at q
    exact ⟨v, rfl, v, d, ok, rfl, hd, hsh, q⟩
  have e2 : z ≠ "name" := fun x => e2 (by simpa using x)
  rw [if_neg e2] at q0
  refine ⟨.str z, rfl, rfl, _, rfl, ite2 (fun e3 => ?_) (fun e3 => ?_)⟩
  · have e3 : z = "position" := by simpa using e3
    rw [if_pos e3] at q0
    refine ⟨v, rfl, v, d, ok, rfl, hd, ?_⟩
    cases hd with
    | int i => exact ⟨true, rfl, iteT ⟨.int i, rfl, i, 0, rfl, rfl, q0⟩⟩
    | _ => exact ⟨false, rfl, iteF q0⟩
  have e3 : z ≠ "position" := fun x => e3 (by simpa using x)
  rw [if_neg e3] at q0
  refine ⟨.str z, rfl, rfl, _, rfl, ite2 (fun e4 => ?_) (fun e4 => ?_)⟩
  · have e4 : z = "extra" := by simpa using e4
    rw [if_pos e4] at q0
    exact ⟨v, rfl, v, .ty "tuple", _, _, _, rfl, .ty "tuple", hd.ty, kit_t K d, q0⟩
  have e4 : z ≠ "extra" := fun x => e4 (by simpa using x)
  rw [if_neg e4] at q0
  exact q0
end
end L17

namespace L17
open PySem PySem.Spec PyProof.Rows L2 GR AD RZ
theorem walk_zipT {K : PySem.W.Frag} {a b : Addr} {xs ys : List V} {n : Nat} (hx : n = xs.length) (hy : n = ys.length) : Walk (ItzT K a b) n (fun H => SqT K H a xs ∧ SqT K H b ys) (YPair (fun i => xs[i]?) (fun i => ys[i]?)) := by
  refine ⟨fun i H hi q => ⟨xs, ys, xs[i]'(by omega), ys[i]'(by omega), q.1, q.2, List.getElem?_eq_getElem _, List.getElem?_eq_getElem _⟩, fun H q => ⟨xs, ys, q.1, q.2, .inl (by omega)⟩, fun i H v H' hi q y => ?_⟩
  obtain ⟨T, x, z, h1, h2, h3, h4, h5⟩ := y
  exact ⟨T, x, z, h1, h2, h3, h4 xs q.1, h5 ys q.2⟩
/-- the table of kinds, as it is written -/
structure Tab (K : PySem.W.Frag) (w : World) (fA : Addr) (es : Array DictEntry) (n : Nat) : Prop where
  at' : K.lookup fA = some ⟨.type "dict", none, .dict es n, #[]⟩
  keys : PySem.W.KeysLit w.params es.toList
  low : (fA == sysModules) = false
  yes : ∀ wd fs, (wd, fs) ∈ table → ∃ p, findBy Value.isStrOf es wd = some (.ref p) ∧ KTx K p fs
  no : ∀ wd, look wd = none → findBy Value.isStrOf es wd = none
theorem look_some {w : Str} {fs : List Str} (h : look w = some fs) : (w, fs) ∈ table := by
  unfold look at h
  obtain ⟨p, hp, rfl⟩ := Option.map_eq_some_iff.mp h
  have h1 := List.find?_some hp
  have h2 := List.mem_of_find?_eq_some hp
  rw [decide_eq_true_eq] at h1
  rw [← h1]
  exact h2
theorem form_some {z : Str} {r : List PyData} {fs : List Str} (h : look z = some fs) : hasForm (.tuple (.str z :: r)) = fitsAll fs r := by
  show (match look z with | some fs => fitsAll fs r | none => false) = _
  rw [h]
theorem form_none {z : Str} {r : List PyData} (h : look z = none) : hasForm (.tuple (.str z :: r)) = false := by
  show (match look z with | some fs => fitsAll fs r | none => false) = _
  rw [h]
theorem fitsAll_len : ∀ {fs : List Str} {ds : List PyData}, fs.length ≠ ds.length → fitsAll fs ds = false
  | [], [], h => absurd rfl h
  | [], _ :: _, _ => rfl
  | _ :: _, [], _ => rfl
  | f :: fs, d :: ds, h => by
    show (fitsD f d && fitsAll fs ds) = false
    rw [fitsAll_len (fs := fs) (ds := ds) (fun e => h (by rw [List.length_cons, List.length_cons, e])), Bool.and_false]
/-- the answers so far -/
def fitsUp (fs : List Str) (ds : List PyData) (i : Nat) : List Bool := ((fs.zip ds).take i).map fun p => fitsD p.1 p.2
theorem fitsAll_zip : ∀ {fs : List Str} {ds : List PyData}, fs.length = ds.length → fitsAll fs ds = ((fs.zip ds).map fun p => fitsD p.1 p.2).all id
  | [], [], _ => rfl
  | f :: fs, d :: ds, h => by
    show (fitsD f d && fitsAll fs ds) = _
    rw [fitsAll_zip (fs := fs) (ds := ds) (by simpa using h), List.zip_cons_cons, List.map_cons, List.all_cons]
    rfl
theorem table_len : ∀ p, p ∈ table → p.2.length ≤ 6 := by decide
theorem dd_at {K : PySem.W.Frag} {ok : Addr → Prop} {H : Hp} : ∀ {vs : List V} {ds : List PyData}, DdAll K ok H vs ds → ∀ {i : Nat} {v : V}, vs[i]? = some v → ∃ d, ds[i]? = some d ∧ Dd K ok H v d
  | _, _, .nil, i, v, h => by simp at h
  | _, _, .cons h1 t, 0, v, h => by cases h; exact ⟨_, rfl, h1⟩
  | _, _, .cons h1 t, i + 1, v, h => by
    obtain ⟨d, e1, e2⟩ := dd_at t (by simpa using h)
    exact ⟨d, by simpa using e1, e2⟩
section
variable {P : Program} {w : World} {K : PySem.W.Frag} {mg : Str → Option Value} {base : Heap}
abbrev s_has_form : Stmt := topS 14
abbrev N_hf : List Str := ["thing", "kinds", "kind", "part"]
theorem sc_has_form : FnScope N_hf ["thing"] (defScope s_has_form) := ⟨rfl, rfl, rfl, by decide +kernel, rfl, by decide +kernel, by decide +kernel⟩
def sp_hf (K : PySem.W.Frag) : Sp := fun vs H Q _ => ∃ (v : V) (d : PyData) (ok : Addr → Prop), vs = [v] ∧ Dd K ok H v d ∧ (∀ ds, d = .tuple ds → ∀ y, y ∈ ds → Sh y) ∧ ∀ H', Same H H' → Q (.bl (hasForm d)) H'
theorem ok_has_form {f fw ff fA : Addr} {fd dw df : FuncData} {k : Nat} {es : Array DictEntry} {n : Nat} (F : Fun K "has_form" "has_form" s_has_form f fd) (Gw : FnOk P w K mg base CX0 k fw dw ["thing"] (sp_word K)) (gw : mg "word_of" = some (.ref fw)) (Kw : PySem.W.keepIn K (.ref fw) = true) (bw : Binds K dw ["thing"] [])
    (Gf : FnOk P w K mg base CX0 k ff df ["kind", "part"] (sp_fits K)) (gf : mg "fits_expressions" = some (.ref ff)) (Kf : PySem.W.keepIn K (.ref ff) = true) (bf : Binds K df ["kind", "part"] [])
    (mFIELDS : mg "FIELDS_expressions" = some (.ref fA)) (T : Tab K w fA es n) (mlen : mg "len" = none) (mzip : mg "zip" = none) (mall : mg "all" = none) : FnOk P w K mg base CX0 (k + 1) f fd ["thing"] (sp_hf K) := by
  have nd := sc_has_form.nd
  refine F.ok sc_has_form (fun vs H Q E h => ?_) (fun cdv A outer s H vs Q E hr h => ?_)
  · obtain ⟨v, d, ok, rfl, _⟩ := h
    rfl
  obtain ⟨v, d, ok, rfl, hd, hsh, q⟩ := h
  refine ⟨_, (pss_cons (ps_set (i := 1) nd rfl (.inl rfl) (FG.pe_kget (pe_glob rfl mFIELDS (v := .ref fA) rfl) (pe_call Gw hr (by rfl) gw Kw bw .nil pass0 (pa_cons (pv 0) pa_nil)) ⟨by rfl, by rfl, by rfl, by rfl⟩))
      (pss_cons (ps_if (PW.pt (pw_or (pt_cmpR op_isN (pv 1) pe_non (nomark _)) (pw_or1 (pt_cmpR op_ne (pe_callB call_len_seq (by rfl) mlen PySem.boot_len (pa_cons (pv 0) pa_nil)) (pe_op op_add pe_int (pe_callB call_len_seq (by rfl) mlen PySem.boot_len (pa_cons (pv 1) pa_nil))) (nomark _)))))
        (pss_one (ps_ret pe_bl))
        pss_nil)
      (pss_one (ps_ret (pe_callB (cr_all rfl) (by rfl) mall boot_all (pa_cons (pe_lc (own := [("kind", 2), ("part", 3)]) (g := gTup K 2 (gCons (gName 2) (gCons (gName 3) gNil))) (tt := tYes) (te := tCall (sp_fits K) [] E0 (tCons (tVar 2) (tCons (tVar 3) tNil))) rfl nd
          (pi_zipA (by rfl) mzip (pa_cons (pv 1) (pa_cons (pe_slice L2.sl_tup (pv 0) (po_some pe_int) po_none) pa_nil))) (blkOk_by (N := N_hf) (sc := defScope s_has_form) (by decide +kernel))
          (fun _ _ _ _ _ => (pg_tup rfl (pgs_cons (pg_name (i := 2) (x := "kind") nd rfl (Or.inl rfl)) (pgs_cons (pg_name (i := 3) (x := "part") nd rfl (Or.inl rfl)) pgs_nil))))
          (fun _ _ _ _ _ => pts_nil) (fun _ _ _ _ _ => (pe_call Gf hr (by rfl) gf Kf bf .nil pass0 (pa_cons (pv 2) (pa_cons (pv 3) pa_nil))))) pa_nil)))))), ?_⟩
  refine ⟨fA, es, n, rfl, T.at', T.keys, T.low, v, rfl, v, d, ok, rfl, hd, ?_⟩
  cases hd with
  | tup hs ha =>
    rename_i a xs ds
    cases ha with
    | nil => exact ⟨.non, .inl ⟨rfl, rfl⟩, .non, rfl, rfl, _, rfl, iteT (iteT (q H fun _ _ e => e))⟩
    | cons h1 r1 =>
      rename_i v1 vs1 d1 ds1
      cases h1 with
      | str z =>
        cases hlk : look z with
        | none =>
          refine ⟨.non, .inr ⟨z, rfl, .inr ⟨T.no z hlk, rfl⟩⟩, .non, rfl, rfl, _, rfl, iteT (iteT ?_)⟩
          have := q H fun _ _ e => e
          rw [form_none hlk] at this
          exact this
        | some fs =>
          have hq : ∀ H', Same H H' → Q (.bl (fitsAll fs ds1)) H' := fun H' s => by
            have := q H' s
            rw [form_some hlk] at this
            exact this
          obtain ⟨p, hp1, hp2⟩ := T.yes z fs (look_some hlk)
          have hlen := r1.len
          have hf6 : fs.length ≤ 6 := table_len _ (look_some hlk)
          refine ⟨.ref p, .inr ⟨z, rfl, .inl ⟨.ref p, hp1, rfl⟩⟩, .ref p, rfl, rfl, _, rfl, ?_⟩
          rw [decide_eq_false (fun z => nomatch z)]
          refine iteF ⟨.ref a, rfl, a, _, rfl, .inr hs, .ref p, rfl, p, _, rfl, .inr (hp2 H), 1, _, rfl, rfl, rfl, _, rfl, ?_⟩
          by_cases c : fs.length = ds1.length
          case neg =>
            rw [fitsAll_len c] at hq
            rw [show (!decide (V.int (((V.str z :: vs1).length : Nat) : Int) = V.int (1 + (((fs.map V.str).length : Nat) : Int)))) = true from by
              rw [decide_eq_false (fun e => c (by injection e with e; rw [List.length_cons, List.length_map] at e; omega))]; rfl]
            exact iteT (hq H fun _ _ e => e)
          rw [show (!decide (V.int (((V.str z :: vs1).length : Nat) : Int) = V.int (1 + (((fs.map V.str).length : Nat) : Int)))) = false from by
            rw [decide_eq_true (by congr 1; rw [List.length_cons, List.length_map]; omega)]; rfl]
          refine iteF ⟨.ref p, rfl, .ref a, rfl, 1, rfl, a, _, rfl, hs, ?_, fun c1 nc => ?_⟩
          · rw [List.length_cons]
            rintro ⟨e, _⟩
            have : HT.sIx (vs1.length + 1) 0 (some 1) = min 1 (vs1.length + 1) := HT.sIx_nat _ _ 1
            rw [this] at e
            omega
          have hcut : cutV (.str z :: vs1) (some 1) none = vs1 := by
            unfold cutV
            rw [HT.sIx_none, show HT.sIx (V.str z :: vs1).length 0 (some 1) = min 1 (V.str z :: vs1).length from HT.sIx_nat _ _ 1, List.length_cons, show min 1 (vs1.length + 1) = 1 by omega, List.drop_succ_cons, List.drop_zero, show vs1.length + 1 - 1 = vs1.length by omega, List.take_length]
          rw [hcut]
          have sc := same_upd (o := .tup vs1) nc
          have hc1 : upd H c1 (.tup vs1) c1 = some (.tup vs1) := upd_same
          revert sc hc1
          generalize upd H c1 (.tup vs1) = H1
          intro sc hc1
          refine ⟨p, c1, fs.map V.str, vs1, rfl, .inr ⟨hp2 H1, .inl (.inl hc1), fun D nD => ?_⟩⟩
          refine lc_it (walk_zipT (xs := fs.map V.str) (ys := vs1) (n := fs.length) (by rw [List.length_map]) (by omega)) (fun i H' => H' D = some (.lst ((fitsUp fs ds1 i).map V.bl)) ∧ ∀ b o, b ≠ D → H1 b = some o → H' b = some o) ?_ ?_ ?_ ?_
          · exact ⟨upd_same, fun b o nb e => by rw [upd_ne nb]; exact e⟩
          · rintro i H' _ ⟨_, kp⟩
            exact ⟨hp2 H', .inl (.inl (kp _ _ (ne_of_none hc1 nD) hc1))⟩
          · rintro i x H2 H' hi ⟨hD, kp⟩ ⟨T1, x1, y1, rfl, hT, rfl, hx1, hy1⟩
            replace hx1 : (fs.map V.str)[i]? = some x1 := hx1
            replace hy1 : vs1[i]? = some y1 := hy1
            rw [List.getElem?_map] at hx1
            obtain ⟨fi, hfi, rfl⟩ := Option.map_eq_some_iff.mp hx1
            have sT := same_upd (o := .tup [.str fi, y1]) hT
            have s12 : Same H1 H2 := fun b o e => kp b o (ne_of_none e nD) e
            have s02 := sc.trans (s12.trans sT)
            obtain ⟨di, hdi, hyd⟩ := dd_at (r1.keep (KeepO.of s02)) hy1
            have hDT := sT _ _ hD
            refine ⟨_, _, rfl, .inl (.inl upd_same), rfl, _, _, rfl, _, _, rfl, rfl, rfl, yes_then ⟨.str fi, rfl, y1, rfl, fi, y1, di, ok, rfl, hyd, hsh _ rfl di (List.mem_cons_of_mem _ (List.mem_of_getElem? hdi)), fun H3 s3 => ⟨_, s3 _ _ hDT, small1000 ?_, ?_, fun b o nb e => ?_⟩⟩⟩
            · unfold fitsUp
              rw [List.length_map, List.length_map, List.length_take]
              omega
            · have hz : (fs.zip ds1)[i]? = some (fi, di) := List.getElem?_zip_eq_some.mpr ⟨hfi, hdi⟩
              unfold fitsUp
              rw [take_at hz, List.map_append, List.map_append]
              exact upd_same
            · rw [upd_ne nb]
              exact s3 _ _ (sT _ _ (kp b o nb e))
          · rintro H2 ⟨hD, kp⟩
            have s12 : Same H1 H2 := fun b o e => kp b o (ne_of_none e nD) e
            have hzl : fs.length = (fs.zip ds1).length := by
              rw [List.length_zip]
              omega
            unfold fitsUp at hD
            rw [hzl, List.take_length] at hD
            refine ⟨D, (fs.zip ds1).map fun p => fitsD p.1 p.2, rfl, .inl (.inl hD), ?_⟩
            rw [← fitsAll_zip c]
            exact hq H2 (sc.trans s12)
      | _ => exact ⟨.non, .inl ⟨rfl, rfl⟩, .non, rfl, rfl, _, rfl, iteT (iteT (q H fun _ _ e => e))⟩
  | _ => exact ⟨.non, .inl ⟨rfl, rfl⟩, .non, rfl, rfl, _, rfl, iteT (iteT (q H fun _ _ e => e))⟩
end
end L17

namespace L17
open PySem PySem.Spec PyProof.Rows L2 GR AD RZ WX
mutual
theorem _root_.AD.Dd.off {K : PySem.W.Frag} {ok : Addr → Prop} {H : Hp} {p : Addr} (n : H p = none) : ∀ {v : V} {d : PyData}, Dd K ok H v d → Dd K (fun b => ok b ∧ b ≠ p) H v d
  | _, _, .non => .non
  | _, _, .bl b => .bl b
  | _, _, .int i => .int i
  | _, _, .str x => .str x
  | _, _, .lst h o q => .lst h ⟨o, ne_of_none h n⟩ (AD.DdAll.off n q)
  | _, _, .tup h q => .tup h (AD.DdAll.off n q)
  | _, _, .dk h o q => .dk h ⟨o, ne_of_none h n⟩ (AD.DdAll.off n q)
theorem _root_.AD.DdAll.off {K : PySem.W.Frag} {ok : Addr → Prop} {H : Hp} {p : Addr} (n : H p = none) : ∀ {vs : List V} {ds : List PyData}, DdAll K ok H vs ds → DdAll K (fun b => ok b ∧ b ≠ p) H vs ds
  | _, _, .nil => .nil
  | _, _, .cons h q => .cons (AD.Dd.off n h) (AD.DdAll.off n q)
end
theorem _root_.AD.DdAll.app {K : PySem.W.Frag} {ok : Addr → Prop} {H : Hp} : ∀ {vs us : List V} {ds es : List PyData}, DdAll K ok H vs ds → DdAll K ok H us es → DdAll K ok H (vs ++ us) (ds ++ es)
  | _, _, _, _, .nil, h => h
  | _, _, _, _, .cons a t, h => .cons a (t.app h)
section
variable {P : Program} {w : World} {K : PySem.W.Frag} {mg : Str → Option Value} {base : Heap}
abbrev s_contained_of : Stmt := topS 19
theorem sc_contained_of : FnScope ["expression", "wanted", "found", "kind", "part"] ["expression", "wanted"] (defScope s_contained_of) := ⟨rfl, rfl, rfl, by decide +kernel, rfl, by decide +kernel, by decide +kernel⟩
def sp_contained_of (K : PySem.W.Frag) : Sp := fun vs H Q _ => ∃ (a wA : Addr) (wd : Str) (fs wanted : List Str) (rest : List PyData) (ok : Addr → Prop), vs = [.ref a, .ref wA] ∧ Dd K ok H (.ref a) (.tuple (.str wd :: rest)) ∧ (wd, fs) ∈ table ∧ Fits fs rest ∧ (pick wanted fs rest).length ≤ 4000000 ∧ SqT K H wA (wanted.map V.str) ∧
  ∀ H' p us, Same H H' → H p = none → H' p = some (.lst us) → DdAll K ok H' us (pick wanted fs rest) → Q (.ref p) H'
theorem wanted_in (f : Str) (W : List Str) : inV (.str f) (W.map V.str) = decide (f ∈ W) := by
  unfold inV
  rw [List.any_map, Bool.eq_iff_iff, List.any_eq_true, decide_eq_true_eq]
  constructor
  · rintro ⟨z, hz, e⟩
    have : eqV (.str z) (.str f) = true := e
    have e2 : z = f := by
      simpa [eqV] using this
    exact e2 ▸ hz
  · intro h
    exact ⟨f, h, by show eqV (.str f) (.str f) = true; simp [eqV]⟩
theorem flat_strs (W : List Str) : (W.map V.str).all flatV = true := by
  rw [List.all_map, List.all_eq_true]
  intro z _
  rfl
theorem ok_contained_of {f fA : Addr} {fd : FuncData} {k : Nat} (F : Fun K "contained_of" "contained_of" s_contained_of f fd) (mFIELDS : mg "FIELDS_expressions" = some (.ref fA)) (T : Flds K w fA) (mzip : mg "zip" = none) :
    FnOk P w K mg base CX0 (k + 1) f fd ["expression", "wanted"] (sp_contained_of K) := by
  have nd := sc_contained_of.nd
  refine F.ok sc_contained_of (fun vs H Q E h => ?_) (fun cdv A outer s H vs Q E hr h => ?_)
  · obtain ⟨a, wA, wd, fs, wanted, rest, ok, rfl, _⟩ := h
    rfl
  obtain ⟨a, wA, wd, fs, wanted, rest, ok, rfl, hd, ht, hfit, hlen, hW, q⟩ := h
  refine ⟨_, (pss_cons (ps_set (i := 2) nd rfl (.inl rfl) (pe_lst pa_nil))
      (pss_cons (ps_for PassesOwn.never rfl (pi_zipA (by rfl) mzip (pa_cons (pe_ix ix_kdict (pe_glob rfl mFIELDS (v := .ref fA) rfl) (pe_ix ix_tup (pv 0) pe_int (fun _ _ => rfl)) (fun _ _ => rfl)) (pa_cons (pe_slice L2.sl_tup (pv 0) (po_some pe_int) po_none) pa_nil))) (pg_tup rfl (pgs_cons (pg_name (i := 3) nd rfl (Or.inl rfl)) (pgs_cons (pg_name (i := 4) nd rfl (Or.inl rfl)) pgs_nil)))
      (pss_one (ps_if (pt_cmpR op_eq (pv 3) pe_str (nomark _))
        (pss_one (ps_expr (pe_bm PySem.F.plainAttrs_list PySem.F.slot_list_extend PySem.F.type_list_extend mt_extendT (pv 2) (pa_cons (pv 4) pa_nil))))
        (pss_one (ps_if (pt_cmpR op_in_seq (pv 3) (pv 1) (by rfl))
          (pss_one (ps_expr (pe_bm PySem.F.plainAttrs_list PySem.F.slot_list_append PySem.F.type_list_append mt_append (pv 2) (pa_cons (pv 4) pa_nil))))
          pss_nil)))))
      (pss_one (ps_ret (pv 2))))), ?_⟩
  cases hd with
  | tup hS hA =>
  cases hA with
  | cons hw hA =>
  cases hw
  rename_i vs0
  obtain ⟨fp, hK, hF⟩ := T wd fs ht
  have hl0 := hA.len
  refine ⟨Nat.zero_le _, fun fo nfo => ?_⟩
  have sf := same_upd (o := .lst []) nfo
  refine ⟨.ref a, rfl, a, _, 0, .str wd, rfl, rfl, (KeepT.of sf).seqt hS, at0, fA, wd, .ref fp, rfl, rfl, hK, .ref a, rfl, 1, rfl, a, _, rfl, (KeepT.of sf).seqt hS, ?_, fun c nc => ?_⟩
  · rw [List.length_cons]
    rintro ⟨e, _⟩
    have : HT.sIx (vs0.length + 1) 0 (some 1) = min 1 (vs0.length + 1) := HT.sIx_nat _ _ 1
    rw [this] at e
    omega
  have hcut : cutV (.str wd :: vs0) (some 1) none = vs0 := by
    unfold cutV
    rw [HT.sIx_none, show HT.sIx (V.str wd :: vs0).length 0 (some 1) = min 1 (V.str wd :: vs0).length from HT.sIx_nat _ _ 1, List.length_cons, show min 1 (vs0.length + 1) = 1 by omega, List.drop_succ_cons, List.drop_zero, show vs0.length + 1 - 1 = vs0.length by omega, List.take_length]
  rw [hcut]
  have sc := same_upd (o := .tup vs0) nc
  have hc1 : upd (upd H fo (.lst [])) c (.tup vs0) c = some (.tup vs0) := upd_same
  have hf1 := sc _ _ (show upd H fo (.lst []) fo = _ from upd_same)
  have s2 := sf.trans sc
  revert hc1 hf1 s2
  generalize upd (upd H fo (.lst [])) c (.tup vs0) = H1
  intro hc1 hf1 s2
  have hl : (fs.map V.str).length = vs0.length := by rw [List.length_map, hfit.len, hl0]
  refine ⟨fp, c, fs.map V.str, vs0, rfl, .inr ⟨hF H1, .inl (.inl hc1), ?_⟩⟩
  refine for_zipT hl (fun i σ H' => ∃ (y3 y4 : Option V) (us : List V), σ = [some (.ref a), some (.ref wA), some (.ref fo), y3, y4] ∧ H' fo = some (.lst us) ∧ DdAll K (fun b => ok b ∧ b ≠ fo) H' us (pick wanted (fs.take i) (rest.take i)) ∧ (∀ b o, b ≠ fo → H1 b = some o → H' b = some o)) ?_ ?_ ?_ ?_
  · refine ⟨none, none, [], rfl, hf1, ?_, fun b o _ e => e⟩
    simp only [List.take_zero, pick]
    exact .nil
  · rintro i σ H' ⟨y3, y4, us, rfl, hu, hdp, kk⟩
    exact ⟨hF H', .inl (.inl (kk _ _ (ne_of hc1 hf1 (fun z => by cases z)) hc1))⟩
  · rintro i x y t σ H' hx hy ⟨y3, y4, us, rfl, hu, hdp, kk⟩ nt
    rw [List.getElem?_map] at hx
    obtain ⟨fi, hfi, rfl⟩ : ∃ fi, fs[i]? = some fi ∧ x = .str fi := by
      cases e : fs[i]? with
      | none =>
        rw [e] at hx
        cases hx
      | some fi =>
        rw [e] at hx
        cases hx
        exact ⟨fi, rfl, rfl⟩
    obtain ⟨di, hdi, hyd⟩ := dd_at (hA.off nfo) hy
    have st := same_upd (o := .tup [.str fi, y]) nt
    have kt : KeepT H (upd H' t (.tup [.str fi, y])) := ⟨fun b xs e => st _ _ (kk _ _ (ne_of_none e nfo) (s2 _ _ e)), fun b o xs e => st _ _ (kk _ _ (ne_of_none e nfo) (s2 _ _ e))⟩
    have ko : KeepO (fun b => ok b ∧ b ≠ fo) H (upd H' t (.tup [.str fi, y])) := ⟨kt.1, kt.2, fun b o hb e => st _ _ (kk _ _ hb.2 (s2 _ _ e))⟩
    have hyd2 := hyd.keep ko
    have hu2 := st _ _ hu
    have ntf : t ≠ fo := (ne_of_none hu nt).symm
    have hp : pick wanted (fs.take (i + 1)) (rest.take (i + 1)) = pick wanted (fs.take i) (rest.take i) ++ pick1 wanted fi di := pick_take wanted i hfi hdi
    have hl2 := pick_len wanted (fs := fs) (ds := rest) (i + 1)
    have hlu := hdp.len
    rw [hp, List.length_append] at hl2
    -- what is put behind us
    have turn : ∀ zs' : List V, DdAll K (fun b => ok b ∧ b ≠ fo) (upd H' t (.tup [.str fi, y])) zs' (pick1 wanted fi di) → ∃ (z3 z4 : Option V) (us' : List V), [some (.ref a), some (.ref wA), some (.ref fo), some (.str fi), some y] = [some (.ref a), some (.ref wA), some (.ref fo), z3, z4] ∧
        upd (upd H' t (.tup [.str fi, y])) fo (.lst (us ++ zs')) fo = some (.lst us') ∧ DdAll K (fun b => ok b ∧ b ≠ fo) (upd (upd H' t (.tup [.str fi, y])) fo (.lst (us ++ zs'))) us' (pick wanted (fs.take (i + 1)) (rest.take (i + 1))) ∧ (∀ b o, b ≠ fo → H1 b = some o → upd (upd H' t (.tup [.str fi, y])) fo (.lst (us ++ zs')) b = some o) := by
      intro zs' hz
      have k2 : KeepT (upd H' t (.tup [.str fi, y])) (upd (upd H' t (.tup [.str fi, y])) fo (.lst (us ++ zs'))) := KeepT.lst hu2
      refine ⟨_, _, us ++ zs', rfl, upd_same, ?_, fun b o hb e => ?_⟩
      · rw [hp]
        have ko2 : KeepO (fun b => ok b ∧ b ≠ fo) (upd H' t (.tup [.str fi, y])) (upd (upd H' t (.tup [.str fi, y])) fo (.lst (us ++ zs'))) := ⟨k2.1, k2.2, fun b o hb e => by rw [upd_ne hb.2]; exact e⟩
        exact ((hdp.keep (KeepO.of st)).keep ko2).app (hz.keep ko2)
      · rw [upd_ne hb]
        exact st _ _ (kk b o hb e)
    refine ⟨t, [.str fi, y], rfl, .inl (.inl upd_same), rfl, _, _, rfl, _, _, rfl, rfl, ?_⟩
    refine ⟨.str fi, rfl, rfl, _, rfl, ite2 (fun e1 => ?_) (fun e1 => ?_)⟩
    · have e1 : fi = "extra" := by simpa using e1
      subst e1
      obtain ⟨xs, rfl⟩ := hfit.at' hfi hdi
      cases hyd2 with
      | tup hys hyA =>
      rename_i ya zs'
      have hz := hyA.len
      refine ⟨.ref fo, rfl, .inl ⟨rfl, _, .inl (.inl hu2)⟩, .ref ya, rfl, fo, ya, us, zs', rfl, rfl, hu2, hys, ?_, turn zs' ?_⟩
      · rw [hlu, hz]
        unfold pick1 at hl2
        rw [if_pos rfl, items] at hl2
        exact Nat.le_trans (show _ ≤ 4000000 by omega) (by rw [sizeLine_eq]; decide)
      · unfold pick1
        rw [if_pos rfl]
        exact hyA
    · have e1 : fi ≠ "extra" := fun z => e1 (by simpa using z)
      refine ⟨.str fi, rfl, .ref wA, rfl, wA, wanted.map V.str, rfl, .inr ((KeepT.trans ⟨fun b xs e => kk _ _ (ne_of_none e nfo) (s2 _ _ e), fun b o xs e => kk _ _ (ne_of_none e nfo) (s2 _ _ e)⟩ (KeepT.of st)).seqt hW), rfl, flat_strs wanted, _, rfl, ?_⟩
      rw [wanted_in]
      refine ite2 (fun e2 => ?_) (fun e2 => ?_)
      · have e2 : fi ∈ wanted := by simpa using e2
        refine ⟨.ref fo, rfl, .inl ⟨rfl, _, .inl (.inl hu2)⟩, y, rfl, fo, _, _, rfl, rfl, hu2, ?_, turn [y] ?_⟩
        · rw [hlu]
          exact Nat.lt_of_le_of_lt (show _ ≤ 4000000 by omega) (by rw [sizeLine_eq]; decide)
        · unfold pick1
          rw [if_neg e1, if_pos e2]
          exact .cons hyd2 .nil
      · have e2 : fi ∉ wanted := fun z => e2 (by simpa using z)
        refine ⟨_, _, us, rfl, hu2, ?_, fun b o hb e => st _ _ (kk b o hb e)⟩
        rw [hp]
        unfold pick1
        rw [if_neg e1, if_neg e2, List.append_nil]
        exact hdp.keep (KeepO.of st)
  · rintro σ H' ⟨y3, y4, us, rfl, hu, hdp, kk⟩
    have e1 : fs.take (fs.map V.str).length = fs := by rw [List.length_map, List.take_length]
    have e2 : rest.take (fs.map V.str).length = rest := by rw [List.length_map, hfit.len, List.take_length]
    rw [e1, e2] at hdp
    refine ⟨.ref fo, rfl, q H' fo us (fun b o e => kk _ _ (ne_of_none e nfo) (s2 _ _ e)) nfo hu (hdp.mono fun _ h => h.1)⟩
end
end L17

namespace L17
open PySem PySem.Spec PyProof.Rows L2 GR AD RZ WX
/-! ### expressions among any data -/
abbrev W2 : List Str := ["free", "bound"]
/-- what an expression of good form contains -/
def kidsE : PyData → List PyData
  | .tuple (.str w :: r) => (match look w with | some fs => pick W2 fs r | none => [])
  | _ => []
mutual
/-- its size, and that its texts are short -/
def sz : PyData → Nat
  | .tuple ds => 1 + szs ds
  | _ => 1
def szs : List PyData → Nat
  | [] => 0
  | d :: ds => sz d + szs ds
end
mutual
def shB : PyData → Bool
  | .tuple ds => shBs ds
  | .str z => decide (z.length ≤ 1000) && PyData.strOk z
  | _ => true
def shBs : List PyData → Bool
  | [] => true
  | d :: ds => shB d && shBs ds
end
theorem shBs_mem : ∀ {ds : List PyData}, shBs ds = true → ∀ d, d ∈ ds → shB d = true
  | [], _, d, h => (nomatch h)
  | x :: ds, h, d, hd => by
    rw [shBs, Bool.and_eq_true] at h
    rcases List.mem_cons.mp hd with rfl | hd
    · exact h.1
    · exact shBs_mem h.2 d hd
theorem shB_sh {d : PyData} (h : shB d = true) : Sh d := fun z e => by
  subst e
  rw [shB, Bool.and_eq_true] at h
  exact ⟨of_decide_eq_true h.1, h.2⟩
theorem shB_items {d : PyData} (h : shB d = true) : ∀ y, y ∈ items d → shB y = true := by
  cases d with
  | tuple ds => exact shBs_mem (by rw [shB] at h; exact h)
  | _ => exact fun y hy => (nomatch hy)
theorem sz_pos : ∀ d : PyData, 1 ≤ sz d
  | .tuple ds => by rw [sz]; omega
  | .none => Nat.le_refl 1
  | .bool _ => Nat.le_refl 1
  | .int _ => Nat.le_refl 1
  | .str _ => Nat.le_refl 1
  | .list _ => Nat.le_refl 1
  | .dict _ => Nat.le_refl 1
theorem szs_append : ∀ a b : List PyData, szs (a ++ b) = szs a + szs b
  | [], b => by rw [List.nil_append, szs, Nat.zero_add]
  | x :: a, b => by rw [List.cons_append, szs, szs, szs_append a b]; omega
theorem szs_len : ∀ a : List PyData, a.length ≤ szs a
  | [] => Nat.zero_le _
  | x :: a => by
    have := szs_len a
    have := sz_pos x
    rw [List.length_cons, szs]
    omega
theorem szs_items : ∀ d : PyData, szs (items d) ≤ sz d
  | .tuple ds => by rw [items, sz]; omega
  | .none => Nat.zero_le _
  | .bool _ => Nat.zero_le _
  | .int _ => Nat.zero_le _
  | .str _ => Nat.zero_le _
  | .list _ => Nat.zero_le _
  | .dict _ => Nat.zero_le _
theorem szs_pick (W : List Str) : ∀ (fs : List Str) (ds : List PyData), szs (pick W fs ds) ≤ szs ds
  | [], _ => by rw [pick]; exact Nat.zero_le _; all_goals simp
  | f :: fs, [] => by rw [pick]; exact Nat.zero_le _; all_goals simp
  | f :: fs, d :: ds => by
    have h1 := szs_pick W fs ds
    have h2 := szs_items d
    rw [pick, szs_append, szs]
    split
    · omega
    · split
      · rw [szs, szs]; omega
      · rw [szs]; omega
theorem pick_sh (W : List Str) : ∀ {fs : List Str} {ds : List PyData}, (∀ d, d ∈ ds → shB d = true) → ∀ y, y ∈ pick W fs ds → shB y = true
  | [], _, _, y, hy => by rw [pick] at hy; exact (nomatch hy); all_goals simp
  | f :: fs, [], _, y, hy => by rw [pick] at hy; exact (nomatch hy); all_goals simp
  | f :: fs, d :: ds, h, y, hy => by
    rw [pick] at hy
    rcases List.mem_append.mp hy with hy | hy
    · split at hy
      · exact shB_items (h d List.mem_cons_self) y hy
      · split at hy
        · rw [List.mem_singleton.mp hy]
          exact h d List.mem_cons_self
        · exact (nomatch hy)
    · exact pick_sh W (fun x hx => h x (List.mem_cons_of_mem _ hx)) y hy
theorem kids_sz (d : PyData) (h : hasForm d = true) : szs (kidsE d) < sz d ∧ (shB d = true → ∀ y, y ∈ kidsE d → shB y = true) ∧ ∃ w fs r, d = .tuple (.str w :: r) ∧ look w = some fs ∧ fitsAll fs r = true ∧ kidsE d = pick W2 fs r := by
  unfold hasForm at h
  split at h
  · rename_i w r
    split at h
    · rename_i fs hl
      have e : kidsE (.tuple (.str w :: r)) = pick W2 fs r := by
        show (match look w with | some fs => pick W2 fs r | none => []) = _
        rw [hl]
      refine ⟨?_, fun hs => ?_, w, fs, r, rfl, hl, h, e⟩
      · rw [e, sz, szs]
        have := szs_pick W2 fs r
        omega
      · rw [e]
        rw [shB] at hs
        exact pick_sh W2 fun d hd => shBs_mem hs d (List.mem_cons_of_mem _ hd)
    · cases h
  · cases h
/-- an expression, looked at n deep -/
def isE : Nat → PyData → Bool
  | 0, _ => false
  | n + 1, d => hasForm d && (kidsE d).all (isE n)
theorem sz_mem : ∀ {l : List PyData} {y : PyData}, y ∈ l → sz y ≤ szs l
  | x :: l, y, h => by
    rw [szs]
    rcases List.mem_cons.mp h with rfl | h
    · omega
    · have := sz_mem h
      omega
theorem isE_same : ∀ {n m : Nat} {d : PyData}, sz d ≤ n → sz d ≤ m → isE n d = isE m d
  | 0, _, d, h, _ => by have := sz_pos d; omega
  | _ + 1, 0, d, _, h => by have := sz_pos d; omega
  | n + 1, m + 1, d, h1, h2 => by
    rw [isE, isE]
    cases hf : hasForm d with
    | false => rfl
    | true =>
      have hk := (kids_sz d hf).1
      rw [Bool.true_and, Bool.true_and, Bool.eq_iff_iff, List.all_eq_true, List.all_eq_true]
      have key : ∀ y, y ∈ kidsE d → isE n y = isE m y := fun y hy => by
        have := sz_mem hy
        exact isE_same (by omega) (by omega)
      exact ⟨fun g y hy => by rw [← key y hy]; exact g y hy, fun g y hy => by rw [key y hy]; exact g y hy⟩
def isX (d : PyData) : Bool := isE (sz d) d
theorem isX_step (d : PyData) : isX d = (hasForm d && (kidsE d).all isX) := by
  unfold isX
  have hp := sz_pos d
  obtain ⟨n, hn⟩ : ∃ n, sz d = n + 1 := ⟨sz d - 1, by omega⟩
  rw [hn, isE]
  cases hf : hasForm d with
  | false => rfl
  | true =>
    have hk := (kids_sz d hf).1
    rw [Bool.true_and, Bool.true_and, Bool.eq_iff_iff, List.all_eq_true, List.all_eq_true]
    have key : ∀ y, y ∈ kidsE d → isE n y = isE (sz y) y := fun y hy => by
      have := sz_mem hy
      exact isE_same (by omega) (Nat.le_refl _)
    exact ⟨fun g y hy => by rw [← key y hy]; exact g y hy, fun g y hy => by rw [key y hy]; exact g y hy⟩
theorem fits_of : ∀ {fs : List Str} {ds : List PyData}, fitsAll fs ds = true → Fits fs ds
  | [], [], _ => .nil
  | [], _ :: _, h => by cases h
  | _ :: _, [], h => by cases h
  | f :: fs, d :: ds, h => by
    have h' : (fitsD f d && fitsAll fs ds) = true := h
    rw [Bool.and_eq_true] at h'
    refine .cons (fun e => ?_) (fits_of h'.2)
    subst e
    have := h'.1
    unfold fitsD at this
    rw [if_neg (by decide), if_neg (by decide), if_neg (by decide), if_pos rfl] at this
    cases d with
    | tuple xs => exact ⟨xs, rfl⟩
    | _ => cases this
end L17

namespace L17
open PySem PySem.Spec PyProof.Rows L2 GR AD RZ WX
theorem dd_split {K : PySem.W.Frag} {ok : Addr → Prop} {H : Hp} : ∀ {us ws : List V} {xs : List PyData}, DdAll K ok H (us ++ ws) xs → ∃ d1 d2, xs = d1 ++ d2 ∧ DdAll K ok H us d1 ∧ DdAll K ok H ws d2
  | [], ws, xs, h => ⟨[], xs, rfl, .nil, h⟩
  | u :: us, ws, _, .cons h t => by
    obtain ⟨d1, d2, rfl, h1, h2⟩ := dd_split t
    exact ⟨_ :: d1, d2, rfl, .cons h h1, h2⟩
theorem dd_last {K : PySem.W.Frag} {ok : Addr → Prop} {H : Hp} {us : List V} {xs : List PyData} (h : DdAll K ok H us xs) (hne : us ≠ []) : ∃ y d xs', xs = xs' ++ [d] ∧ us[us.length - 1]? = some y ∧ DdAll K ok H us.dropLast xs' ∧ Dd K ok H y d := by
  have e := List.dropLast_concat_getLast hne
  rw [← e] at h
  obtain ⟨d1, d2, rfl, g1, g2⟩ := dd_split h
  cases g2 with
  | cons g3 g4 =>
  cases g4
  refine ⟨us.getLast hne, _, d1, rfl, ?_, g1, g3⟩
  rw [← List.getLast?_eq_getElem?, List.getLast?_eq_getLast hne]
section
variable {P : Program} {w : World} {K : PySem.W.Frag} {mg : Str → Option Value} {base : Heap}
abbrev s_contained : Stmt := topS 17
theorem sc_contained : FnScope ["expression"] ["expression"] (defScope s_contained) := ⟨rfl, rfl, rfl, by decide +kernel, rfl, by decide +kernel, by decide +kernel⟩
def sp_contained (K : PySem.W.Frag) : Sp := fun vs H Q _ => ∃ (v : V) (d : PyData) (ok : Addr → Prop), vs = [v] ∧ Dd K ok H v d ∧ hasForm d = true ∧ (kidsE d).length ≤ 4000000 ∧ ∀ H' p us, Same H H' → H p = none → H' p = some (.lst us) → DdAll K ok H' us (kidsE d) → Q (.ref p) H'
theorem ok_contained {f fc aP : Addr} {fd dc : FuncData} {k : Nat} (F : Fun K "contained" "contained" s_contained f fd) (Gc : FnOk P w K mg base CX0 k fc dc ["expression", "wanted"] (sp_contained_of K)) (gc : mg "contained_of" = some (.ref fc)) (Kc : PySem.W.keepIn K (.ref fc) = true) (bc : Binds K dc ["expression", "wanted"] [])
    (mALL : mg "ALL_PARTS" = some (.ref aP)) (TA : KTx K aP W2) : FnOk P w K mg base CX0 (k + 1) f fd ["expression"] (sp_contained K) := by
  have nd := sc_contained.nd
  refine F.ok sc_contained (fun vs H Q E h => ?_) (fun cdv A outer s H vs Q E hr h => ?_)
  · obtain ⟨v, d, ok, rfl, _⟩ := h
    rfl
  obtain ⟨v, d, ok, rfl, hd, hf, hl, q⟩ := h
  refine ⟨_, (pss_one (ps_ret (pe_call Gc hr (by rfl) gc Kc bc .nil pass0 (pa_cons (pv 0) (pa_cons (pe_glob (v := .ref aP) rfl mALL rfl) pa_nil))))), ?_⟩
  obtain ⟨_, _, w', fs, r, rfl, hlk, hfit, hk⟩ := kids_sz d hf
  rw [hk] at q hl
  cases hd with
  | tup hs ha =>
  exact ⟨_, rfl, _, aP, w', fs, W2, r, ok, rfl, .tup hs ha, look_some hlk, fits_of hfit, hl, TA H, q⟩
abbrev s_is_expression : Stmt := topS 13
theorem sc_is_expression : FnScope ["thing", "todo", "part"] ["thing"] (defScope s_is_expression) := ⟨rfl, rfl, rfl, by decide +kernel, rfl, by decide +kernel, by decide +kernel⟩
/-- what is still to do: the list at td -/
def XInv (K : PySem.W.Frag) (ok : Addr → Prop) (d : PyData) (v : V) (td : Addr) (H0 : Hp) (m : Nat) (σ : L2.St) (H : Hp) : Prop :=
  ∃ (z : Option V) (us : List V) (xs : List PyData), σ = [some v, some (.ref td), z] ∧ H td = some (.lst us) ∧ DdAll K (fun b => ok b ∧ b ≠ td) H us xs ∧ (∀ y, y ∈ xs → shB y = true) ∧ m = szs xs ∧ m ≤ 4000000 ∧ isX d = xs.all isX ∧ (∀ b o, b ≠ td → H0 b = some o → H b = some o)
def sp_isx (K : PySem.W.Frag) : Sp := fun vs H Q _ => ∃ (v : V) (d : PyData) (ok : Addr → Prop), vs = [v] ∧ Dd K ok H v d ∧ shB d = true ∧ sz d ≤ 4000000 ∧ ∀ H', Same H H' → Q (.bl (isX d)) H'
theorem ok_is_expression {f fh fc : Addr} {fd dh dc : FuncData} {k : Nat} (F : Fun K "is_expression" "is_expression" s_is_expression f fd) (Gh : FnOk P w K mg base CX0 k fh dh ["thing"] (sp_hf K)) (gh : mg "has_form" = some (.ref fh)) (Kh : PySem.W.keepIn K (.ref fh) = true) (bh : Binds K dh ["thing"] [])
    (Gc : FnOk P w K mg base CX0 k fc dc ["expression"] (sp_contained K)) (gc : mg "contained" = some (.ref fc)) (Kc : PySem.W.keepIn K (.ref fc) = true) (bc : Binds K dc ["expression"] []) :
    FnOk P w K mg base CX0 (k + 1) f fd ["thing"] (sp_isx K) := by
  have nd := sc_is_expression.nd
  refine F.ok sc_is_expression (fun vs H Q E h => ?_) (fun cdv A outer s H vs Q E hr h => ?_)
  · obtain ⟨v, d, ok, rfl, _⟩ := h
    rfl
  obtain ⟨v, d, ok, rfl, hd, hsh, hsz, q⟩ := h
  refine ⟨_, (pss_cons (ps_set (i := 1) nd rfl (.inl rfl) (pe_lst (pa_cons (pv 0) pa_nil)))
      (pss_cons (ps_while PassesOwn.never (pt_truth (pv 1) (fun _ => rfl))
      (pss_cons (ps_set (i := 2) nd rfl (.inl rfl) (pe_bm0 PySem.F.plainAttrs_list PySem.F.slot_list_pop PySem.F.type_list_pop mt_pop (pv 1)))
        (pss_cons (ps_if (pt_not (pt_val (pe_call Gh hr (by rfl) gh Kh bh .nil pass0 (pa_cons (pv 2) pa_nil))))
        (pss_one (ps_ret pe_bl))
        pss_nil)
        (pss_one (ps_expr (pe_bm PySem.F.plainAttrs_list PySem.F.slot_list_extend PySem.F.type_list_extend mt_extend (pv 1) (pa_cons (pe_call Gc hr (by rfl) gc Kc bc .nil pass0 (pa_cons (pv 2) pa_nil)) pa_nil)))))))
      (pss_one (ps_ret pe_bl)))), ?_⟩
  refine ⟨v, rfl, small_le (show 1 ≤ 1000 by decide), fun td ntd => ?_⟩
  have sl := same_upd (o := .lst [v]) ntd
  refine ⟨XInv K ok d v td H, ⟨szs [d], none, [v], [d], rfl, upd_same, .cons ((hd.off ntd).keep (KeepO.of sl)) .nil, ?_, rfl, ?_, ?_, fun b o _ e => sl _ _ e⟩, ?_⟩
  · intro y hy
    rw [List.mem_singleton.mp hy]
    exact hsh
  · rw [szs, szs]
    omega
  · rw [List.all_cons, List.all_nil, Bool.and_true]
  · rintro m σ H' ⟨z, us, xs, rfl, hu, hA, hE, rfl, hm, hf, kk⟩
    have lu := hA.len
    have fin : ∀ H2, (∀ b o, b ≠ td → H' b = some o → H2 b = some o) → Same H H2 := fun H2 s2 b o e => s2 _ _ (ne_of_none e ntd) (kk _ _ (ne_of_none e ntd) e)
    refine ⟨.ref td, rfl, !us.isEmpty, .inl ⟨us, .inl (.inl hu), rfl⟩, ?_⟩
    cases hus : us with
    | nil =>
      subst hus
      cases hA
      rw [List.all_nil] at hf
      refine iteF ?_
      have := q H' (fin H' fun b o _ e => e)
      rw [hf] at this
      exact this
    | cons u0 ur =>
      have hne : us ≠ [] := by
        rw [hus]
        exact List.cons_ne_nil _ _
      rw [← hus]
      have full : (!us.isEmpty) = true := by
        rw [hus]
        rfl
      rw [full]
      obtain ⟨y, e, xs', rfl, hy, hA', hyd⟩ := dd_last hA hne
      have hsy := hE e (List.mem_append_right _ (List.mem_singleton.mpr rfl))
      have hE' : ∀ y, y ∈ xs' → shB y = true := fun y hy => hE y (List.mem_append_left _ hy)
      have hpos := sz_pos e
      have hse : szs (xs' ++ [e]) = szs xs' + sz e := by rw [szs_append, szs, szs]; omega
      rw [hse] at hm
      rw [List.all_append, List.all_cons, List.all_nil, Bool.and_true, isX_step e] at hf
      refine iteT ⟨fun σ' H'' => ∃ m', m' < szs (xs' ++ [e]) ∧ XInv K ok d v td H m' σ' H'', fun σ' H'' h => h, ?_⟩
      refine ⟨.ref td, rfl, .inl ⟨rfl, _, .inl (.inl hu)⟩, td, us, y, rfl, rfl, hu, hy, ?_⟩
      have ko1 : KeepO (fun b => ok b ∧ b ≠ td) H' (upd H' td (.lst us.dropLast)) := ⟨(KeepT.lst hu).1, (KeepT.lst hu).2, fun b o hb e => by rw [upd_ne hb.2]; exact e⟩
      have hu1 : upd H' td (.lst us.dropLast) td = some (.lst us.dropLast) := upd_same
      have keep1 : ∀ b o, b ≠ td → H' b = some o → upd H' td (.lst us.dropLast) b = some o := fun b o hb e => by
        rw [upd_ne hb]
        exact e
      have hA1 := hA'.keep ko1
      have hyd1 := hyd.keep ko1
      revert hu1 keep1 hA1 hyd1
      generalize upd H' td (.lst us.dropLast) = H1
      intro hu1 keep1 hA1 hyd1
      refine ⟨y, rfl, y, e, _, rfl, hyd1, fun ds he z hz => shB_sh (shBs_mem (by subst he; rw [shB] at hsy; exact hsy) z hz), fun H2 s2 => ⟨_, rfl, ?_⟩⟩
      have keep2 : ∀ b o, b ≠ td → H' b = some o → H2 b = some o := fun b o hb e => s2 _ _ (keep1 b o hb e)
      cases hff : hasForm e with
      | false =>
        rw [hff, Bool.false_and, Bool.and_false] at hf
        have := q H2 (fin H2 keep2)
        rw [hf] at this
        exact iteT this
      | true =>
        rw [hff, Bool.true_and, ← List.all_append] at hf
        obtain ⟨hk1, hk2, _⟩ := kids_sz e hff
        have hkl := szs_len (kidsE e)
        have hA2 := hA1.keep (KeepO.of s2)
        have hu2 := s2 _ _ hu1
        refine iteF ⟨.ref td, rfl, .inl ⟨rfl, _, .inl (.inl hu2)⟩, y, rfl, y, e, _, rfl, hyd1.keep (KeepO.of s2), hff, by omega, fun H3 p us2 s3 np hp hus2 => ?_⟩
        have htd3 := s3 _ _ hu2
        have l1 := hA2.len
        have l2 := hus2.len
        have hxl := szs_len xs'
        have ko3 : KeepO (fun b => ok b ∧ b ≠ td) H3 (upd H3 td (.lst (us.dropLast ++ us2))) := ⟨(KeepT.lst htd3).1, (KeepT.lst htd3).2, fun b o hb e => by rw [upd_ne hb.2]; exact e⟩
        refine ⟨td, p, us.dropLast, us2, rfl, rfl, htd3, hp, ?_, szs (xs' ++ kidsE e), ?_, some y, us.dropLast ++ us2, xs' ++ kidsE e, rfl, upd_same, ?_, ?_, rfl, ?_, hf, fun b o hb e => ?_⟩
        · rw [l1, l2]
          exact Nat.le_trans (show _ ≤ 8000000 by omega) (by rw [sizeLine_eq]; decide)
        · rw [szs_append, hse]
          omega
        · exact ((hA2.keep (KeepO.of s3)).keep ko3).app (hus2.keep ko3)
        · intro z hz
          rcases List.mem_append.mp hz with hz | hz
          · exact hE' z hz
          · exact hk2 hsy z hz
        · rw [szs_append]
          omega
        · rw [upd_ne hb]
          exact s3 _ _ (keep2 b o hb (kk _ _ hb e))
end
end L17

namespace L17
open PySem PySem.Spec PyProof.Rows L2 GR AD RZ WX
/-! ### what is true of each part of an expression -/
theorem kidsE_sz (d : PyData) : szs (kidsE d) < sz d := by
  unfold kidsE
  split
  · rename_i w r
    rw [sz, szs]
    split
    · have := szs_pick W2 ‹_› r
      omega
    · rw [szs]
      omega
  · exact Nat.lt_of_lt_of_le (show szs [] < 1 by rw [szs]; omega) (sz_pos d)
def allE (q : PyData → Bool) : Nat → PyData → Bool
  | 0, _ => true
  | n + 1, d => q d && (kidsE d).all (allE q n)
theorem allE_same {q : PyData → Bool} : ∀ {n m : Nat} {d : PyData}, sz d ≤ n → sz d ≤ m → allE q n d = allE q m d
  | 0, _, d, h, _ => by have := sz_pos d; omega
  | _ + 1, 0, d, _, h => by have := sz_pos d; omega
  | n + 1, m + 1, d, h1, h2 => by
    have hk := kidsE_sz d
    rw [allE, allE]
    congr 1
    rw [Bool.eq_iff_iff, List.all_eq_true, List.all_eq_true]
    have key : ∀ y, y ∈ kidsE d → allE q n y = allE q m y := fun y hy => by
      have := sz_mem hy
      exact allE_same (by omega) (by omega)
    exact ⟨fun g y hy => by rw [← key y hy]; exact g y hy, fun g y hy => by rw [key y hy]; exact g y hy⟩
def allX (q : PyData → Bool) (d : PyData) : Bool := allE q (sz d) d
theorem allX_step (q : PyData → Bool) (d : PyData) : allX q d = (q d && (kidsE d).all (allX q)) := by
  have hp := sz_pos d
  have hk := kidsE_sz d
  unfold allX
  obtain ⟨n, hn⟩ : ∃ n, sz d = n + 1 := ⟨sz d - 1, by omega⟩
  rw [hn, allE]
  congr 1
  rw [Bool.eq_iff_iff, List.all_eq_true, List.all_eq_true]
  have key : ∀ y, y ∈ kidsE d → allE q n y = allE q (sz y) y := fun y hy => by
    have := sz_mem hy
    exact allE_same (by omega) (Nat.le_refl _)
  exact ⟨fun g y hy => by rw [← key y hy]; exact g y hy, fun g y hy => by rw [key y hy]; exact g y hy⟩
theorem isX_form {d : PyData} (h : isX d = true) : hasForm d = true := by
  rw [isX_step, Bool.and_eq_true] at h
  exact h.1
theorem isX_kids {d : PyData} (h : isX d = true) : ∀ y, y ∈ kidsE d → isX y = true := by
  rw [isX_step, Bool.and_eq_true, List.all_eq_true] at h
  exact h.2
theorem fits_flat : ∀ {fs : List Str} {r : List PyData}, fitsAll fs r = true → (∀ f, f ∈ fs → f ∈ (["value", "name", "position", "extra", "free", "bound"] : List Str)) → (∀ y, y ∈ pick W2 fs r → flatD y = true) → flatDs r = true
  | [], [], _, _, _ => by rw [flatDs]
  | [], _ :: _, h, _, _ => by cases h
  | _ :: _, [], h, _, _ => by cases h
  | f :: fs, d :: ds, h, hm, hk => by
    have h' : (fitsD f d && fitsAll fs ds) = true := h
    rw [Bool.and_eq_true] at h'
    have hf := hm f List.mem_cons_self
    rw [pick] at hk
    have ih := fits_flat h'.2 (fun g hg => hm g (List.mem_cons_of_mem _ hg)) (fun y hy => hk y (List.mem_append_right _ hy))
    rw [flatDs, ih, Bool.and_true]
    have h1 := h'.1
    unfold fitsD at h1
    simp only [List.mem_cons, List.not_mem_nil, or_false] at hf
    rcases hf with rfl | rfl | rfl | rfl | rfl | rfl
    · rw [if_pos rfl] at h1
      cases d with
      | int i => rw [flatD]
      | _ => cases h1
    · rw [if_neg (by decide), if_pos rfl] at h1
      cases d with
      | str z => rw [flatD]
      | _ => cases h1
    · rw [if_neg (by decide), if_neg (by decide), if_pos rfl] at h1
      cases d with
      | int i => rw [flatD]
      | _ => cases h1
    · rw [if_neg (by decide), if_neg (by decide), if_neg (by decide), if_pos rfl] at h1
      cases d with
      | tuple xs =>
        rw [flatD]
        exact flatDs_of fun y hy => hk y (List.mem_append_left _ (by rw [if_pos rfl]; exact hy))
      | _ => cases h1
    · exact hk d (List.mem_append_left _ (by rw [if_neg (by decide), if_pos (by decide)]; exact List.mem_singleton.mpr rfl))
    · exact hk d (List.mem_append_left _ (by rw [if_neg (by decide), if_pos (by decide)]; exact List.mem_singleton.mpr rfl))
theorem table_kinds : ∀ p, p ∈ table → ∀ f, f ∈ p.2 → f ∈ (["value", "name", "position", "extra", "free", "bound"] : List Str) := by decide
theorem flat_of_sz : ∀ (n : Nat) {d : PyData}, sz d ≤ n → isX d = true → flatD d = true
  | 0, d, h, _ => by have := sz_pos d; omega
  | n + 1, d, h, hx => by
    obtain ⟨hlt, _, w, fs, r, rfl, lk, hfit, ek⟩ := kids_sz d (isX_form hx)
    rw [flatD, flatDs, flatD, Bool.true_and]
    refine fits_flat hfit (table_kinds _ (look_some lk)) fun y hy => ?_
    rw [← ek] at hy
    have := sz_mem hy
    exact flat_of_sz n (by omega) (isX_kids hx y hy)
theorem isX_flat {d : PyData} (h : isX d = true) : flatD d = true := flat_of_sz (sz d) (Nat.le_refl _) h
mutual
theorem dd_of {K : PySem.W.Frag} {ok : Addr → Prop} {H : Hp} : ∀ (x : PyData) (v : V), flatD x = true → Dp K H v x → Dd K ok H v x
  | .none, _, _, h => by cases h; exact .non
  | .bool b, _, _, h => by cases h; exact .bl b
  | .int i, _, _, h => by cases h; exact .int i
  | .str z, _, _, h => by cases h; exact .str z
  | .tuple ds, _, hf, h => by
    cases h with
    | tup h1 h2 => exact .tup h1 (dd_ofs ds _ (by rw [flatD] at hf; exact hf) h2)
  | .list ds, _, hf, h => by simp only [flatD, Bool.false_eq_true] at hf
  | .dict ds, _, hf, h => by cases h
theorem dd_ofs {K : PySem.W.Frag} {ok : Addr → Prop} {H : Hp} : ∀ (xs : List PyData) (vs : List V), flatDs xs = true → DpAll K H vs xs → DdAll K ok H vs xs
  | [], _, _, h => by cases h; exact .nil
  | x :: xs, _, hf, h => by
    rw [flatDs, Bool.and_eq_true] at hf
    cases h with
    | cons h1 h2 => exact .cons (dd_of x _ hf.1 h1) (dd_ofs xs _ hf.2 h2)
end
mutual
theorem dp_of {K : PySem.W.Frag} {ok : Addr → Prop} {H : Hp} : ∀ (x : PyData) (v : V), flatD x = true → Dd K ok H v x → Dp K H v x
  | .none, _, _, h => by cases h; exact .non
  | .bool b, _, _, h => by cases h; exact .bl b
  | .int i, _, _, h => by cases h; exact .int i
  | .str z, _, _, h => by cases h; exact .str z
  | .tuple ds, _, hf, h => by
    cases h with
    | tup h1 h2 => exact .tup h1 (dp_ofs ds _ (by rw [flatD] at hf; exact hf) h2)
  | .list ds, _, hf, h => by simp only [flatD, Bool.false_eq_true] at hf
  | .dict ds, _, hf, h => by simp only [flatD, Bool.false_eq_true] at hf
theorem dp_ofs {K : PySem.W.Frag} {ok : Addr → Prop} {H : Hp} : ∀ (xs : List PyData) (vs : List V), flatDs xs = true → DdAll K ok H vs xs → DpAll K H vs xs
  | [], _, _, h => by cases h; exact .nil
  | x :: xs, _, hf, h => by
    rw [flatDs, Bool.and_eq_true] at hf
    cases h with
    | cons h1 h2 => exact .cons (dp_of x _ hf.1 h1) (dp_ofs xs _ hf.2 h2)
end
abbrev F0 : Addr → Prop := fun _ => False
theorem isXs_flat {l : List PyData} (h : ∀ y, y ∈ l → isX y = true) : flatDs l = true := flatDs_of fun y hy => isX_flat (h y hy)
def down (l : List PyData) : List PyData := l.flatMap kidsE
theorem down_take {xs : List PyData} {i : Nat} {x : PyData} (h : xs[i]? = some x) : down (xs.take (i + 1)) = down (xs.take i) ++ kidsE x := by
  unfold down
  rw [List.take_add_one, h, List.flatMap_append]
  simp
theorem down_take_le (xs : List PyData) (i : Nat) : (down (xs.take i)).length ≤ (down xs).length := by
  have : down xs = down (xs.take i) ++ down (xs.drop i) := by
    unfold down
    rw [← List.flatMap_append, List.take_append_drop]
  rw [this, List.length_append]
  omega
theorem down_sz : ∀ l : List PyData, szs (down l) + l.length ≤ szs l
  | [] => Nat.le_refl _
  | x :: l => by
    have ih := down_sz l
    have hk := kidsE_sz x
    unfold down at ih ⊢
    rw [List.flatMap_cons, szs_append, List.length_cons, szs]
    omega
theorem down_isX {xs : List PyData} (h : ∀ x, x ∈ xs → isX x = true) : ∀ y, y ∈ down xs → isX y = true := fun y hy => by
  obtain ⟨x, hx, hy⟩ := List.mem_flatMap.mp hy
  exact isX_kids (h x hx) y hy
/-- any walk over a list: what a turn does, told by body with what is to hold behind it -/
theorem walk_body {K : PySem.W.Frag} {a : Addr} {xs : List V} {body : V → Hp → (Hp → Prop) → Prop} {H0 : Hp} {Qd : Hp → Prop} (Pv : Nat → Hp → Prop) (h0 : Pv 0 H0) (hl : ∀ i H, i ≤ xs.length → Pv i H → SqL K H a xs)
    (hs : ∀ i x H, xs[i]? = some x → Pv i H → body x H (Pv (i + 1))) (hd : ∀ H, Pv xs.length H → Qd H) :
    ∃ W : Nat → Nat → Hp → Prop, (∃ m, W 0 m H0) ∧ ∀ i m H, W i m H →
      ((Itl K a).stop i H ∧ Qd H) ∨ ((Itl K a).go i H ∧ ∃ Nx : Hp → Prop, (∀ H', Nx H' → ∃ m', m' < m ∧ W (i + 1) m' H') ∧ ∀ x H', (Itl K a).yld i H x H' → body x H' Nx) := by
  have w := walk_list (K := K) (a := a) (xs := xs)
  refine ⟨fun i m H => m = xs.length - i ∧ i ≤ xs.length ∧ Pv i H, ⟨xs.length, rfl, Nat.zero_le _, h0⟩, ?_⟩
  rintro i m H ⟨rfl, hi, p⟩
  have q := hl i H hi p
  by_cases hlt : i < xs.length
  · refine .inr ⟨w.goes i H hlt q, Pv (i + 1), fun H' p' => ⟨xs.length - (i + 1), by omega, rfl, hlt, p'⟩, fun x H' y => ?_⟩
    obtain ⟨rfl, hx⟩ := w.yields i H x H' hlt q y
    exact hs i x _ hx p
  · obtain rfl : i = xs.length := by omega
    exact .inl ⟨w.stops H q, hd H p⟩
section
variable {P : Program} {w : World} {K : PySem.W.Frag} {mg : Str → Option Value} {base : Heap}
abbrev s_one_deeper : Stmt := topS 20
abbrev N_one : List Str := ["expressions", "expression", "part"]
theorem sc_one_deeper : FnScope N_one ["expressions"] (defScope s_one_deeper) := ⟨rfl, rfl, rfl, by decide +kernel, rfl, by decide +kernel, by decide +kernel⟩
def sp_one_deeper (K : PySem.W.Frag) : Sp := fun vs H Q _ => ∃ (a : Addr) (us : List V) (xs : List PyData), vs = [.ref a] ∧ SqL K H a us ∧ DpAll K H us xs ∧ (∀ x, x ∈ xs → isX x = true) ∧ szs xs ≤ 4000000 ∧
  ∀ H' p us', Same H H' → H p = none → H' p = some (.lst us') → DpAll K H' us' (down xs) → Q (.ref p) H'
theorem ok_one_deeper {f fc : Addr} {fd fdc : FuncData} {k : Nat} (F : Fun K "one_deeper" "one_deeper" s_one_deeper f fd) (Gc : FnOk P w K mg base CX0 k fc fdc ["expression"] (sp_contained K)) (gc : mg "contained" = some (.ref fc)) (Kc : PySem.W.keepIn K (.ref fc) = true) (bc : Binds K fdc ["expression"] []) :
    FnOk P w K mg base CX0 (k + 1) f fd ["expressions"] (sp_one_deeper K) := by
  have nd := sc_one_deeper.nd
  refine F.ok sc_one_deeper (fun vs H Q E h => ?_) (fun cdv A outer s H vs Q E hr h => ?_)
  · obtain ⟨a, us, xs, rfl, _⟩ := h
    rfl
  obtain ⟨a, us, xs, rfl, hS, hA, hE, hlen, q⟩ := h
  refine ⟨_, (pss_one (ps_ret (pe_lc2 (own := [("expression", 1), ("part", 2)]) (vs1 := [2]) (wi1 := iList K (tCall (sp_contained K) [] E0 (tCons (tVar 1) tNil))) rfl nd (pi_list (pv 0)) (blkOk_by (N := N_one) (sc := defScope s_one_deeper) (by decide +kernel)) (by decide)
      (fun _ _ _ _ _ => (pg_name (i := 1) nd rfl (Or.inl rfl))) (fun _ _ _ _ _ => pts_nil)
      (fun _ _ _ _ _ => pi_list (pe_call Gc hr (by rfl) gc Kc bc .nil pass0 (pa_cons (pv 1) pa_nil))) (fun _ _ _ _ _ => (pg_name (i := 2) nd rfl (Or.inl rfl))) (fun _ _ _ _ _ => pts_nil)
      (fun _ _ _ _ _ => (pv 2))))), ?_⟩
  refine ⟨.ref a, rfl, a, rfl, ⟨us, hS⟩, fun D nD => ?_⟩
  have hxl := dpAll_len hA
  have hdl := down_sz xs
  have hds := szs_len (down xs)
  refine walk_body (xs := us) (fun i H' => ∃ acc, H' D = some (.lst acc) ∧ DpAll K H' acc (down (xs.take i)) ∧ Same H H') ?_ ?_ ?_ ?_
  · refine ⟨[], upd_same, ?_, same_upd nD⟩
    rw [List.take_zero]
    exact .nil
  · rintro i H' _ ⟨acc, hD, hdp, kk⟩
    exact kk.seq hS
  · rintro i v H' hv ⟨acc, hD, hdp, kk⟩
    obtain ⟨x, hx, hvx⟩ := dpAll_at hA hv
    have ex := hE x (List.mem_of_getElem? hx)
    have hsx := sz_mem (List.mem_of_getElem? hx)
    have hkx := kidsE_sz x
    have hkl := szs_len (kidsE x)
    refine ⟨rfl, yes_then ⟨v, rfl, v, x, F0, rfl, dd_of x v (isX_flat ex) (dp_keep (KeepT.of kk) _ _ (isX_flat ex) hvx), isX_form ex, by omega, fun H2 p us2 s2 np hp hu0 => ⟨p, rfl, ⟨us2, .inl (.inl hp)⟩, ?_⟩⟩⟩
    have fk : flatDs (kidsE x) = true := isXs_flat (isX_kids ex)
    have hu := dp_ofs _ _ fk hu0
    have hD2 := s2 _ _ hD
    have npD : D ≠ p := ne_of_none hD np
    have hul := dpAll_len hu
    have fd : flatDs (down (xs.take i)) = true := isXs_flat (down_isX fun y hy => hE y (List.mem_of_mem_take hy))
    have hdn := down_take hx
    have hle := down_take_le xs (i + 1)
    rw [hdn, List.length_append] at hle
    refine walk_body (xs := us2) (fun j H3 => ∃ acc', H3 D = some (.lst acc') ∧ DpAll K H3 acc' (down (xs.take i) ++ (kidsE x).take j) ∧ (∀ b o, b ≠ D → H2 b = some o → H3 b = some o)) ?_ ?_ ?_ ?_
    · refine ⟨acc, hD2, ?_, fun b o _ e => e⟩
      rw [List.take_zero, List.append_nil]
      exact dp_keepAll (KeepT.of s2) _ _ fd hdp
    · rintro j H3 _ ⟨acc', hD3, hdp3, k3⟩
      exact .inl (.inl (k3 _ _ npD.symm hp))
    · rintro j y H3 hy ⟨acc', hD3, hdp3, k3⟩
      obtain ⟨dj, hdj, hyd⟩ := dpAll_at hu hy
      have kt3 : KeepT H2 H3 := ⟨fun b us e => k3 _ _ (ne_of e hD2 (fun z => by cases z)) e, fun b o us e => k3 _ _ (ne_of e hD2 (fun z => by cases z)) e⟩
      have fdj := flatDs_at fk hdj
      have k4 : KeepT H3 (upd H3 D (.lst (acc' ++ [y]))) := KeepT.lst hD3
      have la := dpAll_len hdp3
      rw [List.length_append, List.length_take] at la
      have hj : j < (kidsE x).length := (List.getElem?_eq_some_iff.mp hdj).1
      refine ⟨rfl, yes_then ⟨y, rfl, acc', hD3, ?_, acc' ++ [y], upd_same, ?_, fun b o hb e => ?_⟩⟩
      · rw [sizeLine_eq]
        omega
      · rw [take_at hdj, ← List.append_assoc]
        exact dpAll_append (dp_keepAll k4 _ _ (flatDs_append fd (flatDs_take j fk)) hdp3) (.cons (dp_keep (kt3.trans k4) _ _ fdj hyd) .nil)
      · rw [upd_ne hb]
        exact k3 b o hb e
    · rintro H3 ⟨acc', hD3, hdp3, k3⟩
      rw [hul, List.take_length, ← hdn] at hdp3
      exact ⟨acc', hD3, hdp3, fun b o e => k3 b o (ne_of_none e nD) (s2 _ _ (kk _ _ e))⟩
  · rintro H' ⟨acc, hD, hdp, kk⟩
    rw [hxl, List.take_length] at hdp
    exact q H' D acc kk nD hD hdp
end
end L17

namespace L17
open PySem PySem.Spec PyProof.Rows L2 GR AD RZ WX
theorem all_down (q : PyData → Bool) : ∀ l : List PyData, l.all (allX q) = (l.all q && (down l).all (allX q))
  | [] => rfl
  | x :: l => by
    have ih := all_down q l
    unfold down at ih ⊢
    rw [List.all_cons, List.all_cons, List.flatMap_cons, List.all_append, ih, allX_step q x]
    cases q x <;> cases (kidsE x).all (allX q) <;> cases l.all q <;> cases (l.flatMap kidsE).all (allX q) <;> rfl
section
variable {P : Program} {w : World} {K : PySem.W.Frag} {mg : Str → Option Value} {base : Heap}
abbrev s_all_parts : Stmt := topS 21
theorem sc_all_parts : FnScope ["expression", "found", "level"] ["expression"] (defScope s_all_parts) := ⟨rfl, rfl, rfl, by decide +kernel, rfl, by decide +kernel, by decide +kernel⟩
def sp_ap (K : PySem.W.Frag) : Sp := fun vs H Q _ => ∃ (v : V) (d : PyData), vs = [v] ∧ Dp K H v d ∧ isX d = true ∧ sz d ≤ 4000000 ∧
  ∀ H' p us xs, Same H H' → H p = none → H' p = some (.lst us) → DpAll K H' us xs → (∀ y, y ∈ xs → isX y = true) → (∀ q, xs.all q = allX q d) → xs.length ≤ sz d → Q (.ref p) H'
theorem ok_all_parts {f fc : Addr} {fd fdc : FuncData} {k : Nat} (F : Fun K "all_parts" "all_parts" s_all_parts f fd) (Gc : FnOk P w K mg base CX0 k fc fdc ["expressions"] (sp_one_deeper K)) (gc : mg "one_deeper" = some (.ref fc)) (Kc : PySem.W.keepIn K (.ref fc) = true) (bc : Binds K fdc ["expressions"] []) :
    FnOk P w K mg base CX0 (k + 1) f fd ["expression"] (sp_ap K) := by
  have nd := sc_all_parts.nd
  refine F.ok sc_all_parts (fun vs H Q E h => ?_) (fun cdv A outer s H vs Q E hr h => ?_)
  · obtain ⟨v, x, rfl, _⟩ := h
    rfl
  obtain ⟨v, x, rfl, hd, hx, hsz, q⟩ := h
  refine ⟨_, (pss_cons (ps_set (i := 1) nd rfl (.inl rfl) (pe_lst pa_nil))
      (pss_cons (ps_set (i := 2) nd rfl (.inl rfl) (pe_lst (pa_cons (pv 0) pa_nil)))
      (pss_cons (ps_while PassesOwn.never (pt_truth (pv 2) (fun _ => rfl))
      (pss_cons (ps_expr (pe_bm PySem.F.plainAttrs_list PySem.F.slot_list_extend PySem.F.type_list_extend mt_extend (pv 1) (pa_cons (pv 2) pa_nil)))
        (pss_one (ps_set (i := 2) nd rfl (.inl rfl) (pe_call Gc hr (by rfl) gc Kc bc .nil pass0 (pa_cons (pv 2) pa_nil))))))
      (pss_one (ps_ret (pv 1)))))), ?_⟩
  refine ⟨Nat.zero_le _, fun fo nfo => ?_⟩
  have sf := same_upd (o := .lst []) nfo
  have hf0 : upd H fo (.lst []) fo = some (.lst []) := upd_same
  refine ⟨v, rfl, small_le (show 1 ≤ 1000 by decide), fun lv nlv => ?_⟩
  have sl0 := same_upd (o := .lst [v]) nlv
  have hfl := ne_of_none hf0 nlv
  have inv : ∀ m, ∃ I : L2.St → Hp → Prop, I = fun σ H' => ∃ (lv : Addr) (acc us : List V) (done xs : List PyData), σ = [some v, some (.ref fo), some (.ref lv)] ∧ H' fo = some (.lst acc) ∧ H' lv = some (.lst us) ∧ fo ≠ lv ∧ DpAll K H' acc done ∧ DpAll K H' us xs ∧ (∀ y, y ∈ xs → isX y = true) ∧ (∀ y, y ∈ done → isX y = true) ∧ (∀ q, (done.all q && xs.all (allX q)) = allX q x) ∧ done.length + szs xs ≤ sz x ∧ szs xs = m ∧ (∀ b o, b ≠ fo → H b = some o → H' b = some o) := fun m => ⟨_, rfl⟩
  refine ⟨fun m σ H' => ∃ (lv : Addr) (acc us : List V) (done xs : List PyData), σ = [some v, some (.ref fo), some (.ref lv)] ∧ H' fo = some (.lst acc) ∧ H' lv = some (.lst us) ∧ fo ≠ lv ∧ DpAll K H' acc done ∧ DpAll K H' us xs ∧ (∀ y, y ∈ xs → isX y = true) ∧ (∀ y, y ∈ done → isX y = true) ∧ (∀ q, (done.all q && xs.all (allX q)) = allX q x) ∧ done.length + szs xs ≤ sz x ∧ szs xs = m ∧ (∀ b o, b ≠ fo → H b = some o → H' b = some o), ⟨szs [x], ?_⟩, ?_⟩
  · refine ⟨lv, [], [v], [], [x], rfl, sl0 _ _ hf0, upd_same, hfl, .nil, .cons (dp_keep (KeepT.of (sf.trans sl0)) _ _ (isX_flat hx) hd) .nil, ?_, fun y hy => (nomatch hy), fun p => ?_, ?_, rfl, fun b o _ e => sl0 _ _ (sf _ _ e)⟩
    · intro y hy
      rw [List.mem_singleton.mp hy]
      exact hx
    · rw [List.all_nil, List.all_cons, List.all_nil, Bool.and_true, Bool.true_and]
    · rw [List.length_nil, szs, szs]
      omega
  · rintro m σ H' ⟨lv, acc, us, done, xs, rfl, hfo, hlv, hne, hA, hX, hE, hF, hL, hlen, rfl, kk⟩
    have lA := dpAll_len hA
    have lX := dpAll_len hX
    refine ⟨.ref lv, rfl, !us.isEmpty, .inl ⟨us, .inl (.inl hlv), rfl⟩, ?_⟩
    cases us with
    | nil =>
      have hx : xs = [] := by
        cases hX
        rfl
      subst hx
      refine iteF ⟨.ref fo, rfl, q H' fo acc done (fun b o e => kk b o (ne_of_none e nfo) e) nfo hfo hA hF (fun p => ?_) ?_⟩
      · rw [← hL p, List.all_nil, Bool.and_true]
      · rw [szs] at hlen
        omega
    | cons u0 ur =>
      have hpos : 0 < xs.length := by
        rw [← lX]
        exact Nat.succ_pos _
      have hxl := szs_len xs
      have hdn := down_sz xs
      have hu := upd_same (H := H') (a := fo) (o := .lst (acc ++ u0 :: ur))
      refine iteT ⟨fun σ' H'' => ∃ m', m' < szs xs ∧ ∃ (lv : Addr) (acc us : List V) (done xs : List PyData), σ' = [some v, some (.ref fo), some (.ref lv)] ∧ H'' fo = some (.lst acc) ∧ H'' lv = some (.lst us) ∧ fo ≠ lv ∧ DpAll K H'' acc done ∧ DpAll K H'' us xs ∧ (∀ y, y ∈ xs → isX y = true) ∧ (∀ y, y ∈ done → isX y = true) ∧ (∀ q, (done.all q && xs.all (allX q)) = allX q x) ∧ done.length + szs xs ≤ sz x ∧ szs xs = m' ∧ (∀ b o, b ≠ fo → H b = some o → H'' b = some o),
        fun σ' H'' z => z, ?_⟩
      refine ⟨.ref fo, rfl, .inl ⟨rfl, _, .inl (.inl hfo)⟩, .ref lv, rfl, fo, lv, acc, u0 :: ur, rfl, rfl, hfo, hlv, ?_, ?_⟩
      · rw [lA, lX, sizeLine_eq]
        omega
      have k1 : KeepT H' (upd H' fo (.lst (acc ++ u0 :: ur))) := KeepT.lst hfo
      have hlv1 : upd H' fo (.lst (acc ++ u0 :: ur)) lv = some (.lst (u0 :: ur)) := by
        rw [upd_ne hne.symm]
        exact hlv
      have fX := isXs_flat hE
      have fF := isXs_flat hF
      have hA1 := dpAll_append (dp_keepAll k1 _ _ fF hA) (dp_keepAll k1 _ _ fX hX)
      have hX1 := dp_keepAll k1 _ _ fX hX
      refine ⟨.ref lv, rfl, lv, u0 :: ur, xs, rfl, .inl (.inl hlv1), hX1, hE, by omega, fun H2 p us' s2 np hp hu' => ?_⟩
      have hfo2 := s2 _ _ hu
      refine ⟨szs (down xs), by omega, p, acc ++ u0 :: ur, us', done ++ xs, down xs, rfl, hfo2, hp, ne_of_none hu np, ?_, hu', down_isX hE, ?_, ?_, ?_, rfl, fun b o hb e => ?_⟩
      · exact dp_keepAll (KeepT.of s2) _ _ (flatDs_append fF fX) hA1
      · intro y hy
        rcases List.mem_append.mp hy with hy | hy
        · exact hF y hy
        · exact hE y hy
      · intro p
        rw [List.all_append, Bool.and_assoc, ← all_down, hL p]
      · rw [List.length_append]
        omega
      · refine s2 _ _ ?_
        rw [upd_ne hb]
        exact kk b o hb e
/-! ### plain, simple -/
abbrev aggW : List Str := ["count", "sum", "most", "first"]
/-- the table of an aggregate is named by a text -/
def plainP : PyData → Bool
  | .tuple (.str w :: r) => if w ∈ aggW then (match r with | .str t :: .tuple xs :: x :: _ => xs.isEmpty && PyData.eqv x (rowX t) | _ => false) else !decide (w = "let")
  | _ => false
def simpleP : PyData → Bool
  | .tuple (.str w :: _) => !decide (w ∈ aggW)
  | _ => false
end
end L17

/-! == of a tuple, of a list, whatever they hold, with the empty one -/
namespace ZE
open PySem PySem.Spec PyProof.Rows L2 GR
def rT0 (K : PySem.W.Frag) : R2 := fun x y H Q => ∃ (a b : Addr) (xs : List V), x = .ref a ∧ y = .ref b ∧ SqT K H a xs ∧ SqT K H b [] ∧ Q (.bl xs.isEmpty) H
def rL0 (K : PySem.W.Frag) : R2 := fun x y H Q => ∃ (a b : Addr) (xs : List V), x = .ref a ∧ y = .ref b ∧ SqL K H a xs ∧ SqL K H b [] ∧ Q (.bl xs.isEmpty) H
section
variable {X : Cx}
theorem empty_size {its : List Value} {xs : List V} (r : Vals xs its) : (its.toArray.size == 0) = xs.isEmpty := by
  cases r <;> rfl
theorem op_eqT0 (hu : X.A.units < cLine) : OpR X (compareOp .Eq) (rT0 X.K) := by
  intro pins s σ H x y v u Q I rx ry h
  obtain ⟨a, b, xs, rfl, rfl, ha, hb, q⟩ := h
  cases rx
  cases ry
  obtain ⟨its, rv, pt, hz⟩ := I.tuple ha
  obtain ⟨its2, rv2, pt2, hz2⟩ := I.tuple hb
  cases rv2
  refine SeqAt.eq_tupleAt (e := fun _ => true) pt pt2 hu (fun j h1 h2 => absurd h2 (Nat.not_lt_zero _)) ?_
  refine ⟨.bl xs.isEmpty, H, I, ?_, q⟩
  show Value.bool _ = Value.bool _
  rw [← empty_size rv]
  simp
theorem op_eqL0 (hu : X.A.units < cLine) : OpR X (compareOp .Eq) (rL0 X.K) := by
  intro pins s σ H x y v u Q I rx ry h
  obtain ⟨a, b, xs, rfl, rfl, ha, hb, q⟩ := h
  cases rx
  cases ry
  obtain ⟨its, rv, pl, hz⟩ := I.list ha
  obtain ⟨its2, rv2, pl2, hz2⟩ := I.list hb
  cases rv2
  cases rv with
  | nil => exact SeqAt.eq_listAt (e := fun _ => true) pl.isList pl2.isList rfl hu (fun j h1 h2 => absurd h2 (Nat.not_lt_zero _)) ⟨.bl true, H, I, rfl, q⟩
  | cons r t => exact SeqAt.eq_list_lengthsAt pl.isList pl2.isList (by simp) hu ⟨.bl false, H, I, rfl, q⟩
end
end ZE

namespace L17
open PySem PySem.Spec PyProof.Rows L2 GR AD RZ WX ZE
/-! ### what holds of all parts -/
theorem allX_of {q : PyData → Bool} {P : PyData → Prop} (hP : ∀ y, P y → q y = true ∧ ∀ z, z ∈ kidsE y → P z) : ∀ (n : Nat) (d : PyData), sz d ≤ n → P d → allX q d = true
  | 0, d, h, _ => by have := sz_pos d; omega
  | n + 1, d, h, hp => by
    obtain ⟨h1, h2⟩ := hP d hp
    rw [allX_step, h1, Bool.true_and, List.all_eq_true]
    intro y hy
    have := sz_mem hy
    have := kidsE_sz d
    exact allX_of hP n y (by omega) (h2 y hy)
theorem depthAll_mem : ∀ {ds : List PyData} {y : PyData}, y ∈ ds → y.depth ≤ PyData.depthAll ds
  | x :: ds, y, h => by
    rw [PyData.depthAll]
    rcases List.mem_cons.mp h with rfl | h
    · omega
    · have := depthAll_mem h
      omega
theorem pick_depth (W : List Str) : ∀ {fs : List Str} {ds : List PyData} {y : PyData}, y ∈ pick W fs ds → y.depth ≤ PyData.depthAll ds
  | [], ds, y, hy => by simp only [pick, List.not_mem_nil] at hy
  | f :: fs, [], y, hy => by simp only [pick, List.not_mem_nil] at hy
  | f :: fs, d :: ds, y, hy => by
    rw [pick] at hy
    simp only [PyData.depthAll]
    rcases List.mem_append.mp hy with hy | hy
    · split at hy
      · cases d with
        | tuple xs =>
          have := depthAll_mem (show y ∈ xs from hy)
          simp only [PyData.depth]
          omega
        | _ => exact (nomatch hy)
      · split at hy
        · rw [List.mem_singleton.mp hy]
          omega
        · exact (nomatch hy)
    · have := pick_depth W hy
      omega
theorem kidsE_depth {d y : PyData} (h : y ∈ kidsE d) : y.depth ≤ d.depth := by
  unfold kidsE at h
  split at h
  · split at h
    · have := pick_depth W2 h
      simp only [PyData.depth, PyData.depthAll]
      omega
    · exact (nomatch h)
  · exact (nomatch h)
theorem kidsE_sh {d : PyData} (hx : isX d = true) (h : shB d = true) : ∀ y, y ∈ kidsE d → shB y = true := (kids_sz d (isX_form hx)).2.1 h
/-- an expression that may be asked about -/
structure Xp (d : PyData) : Prop where
  x : isX d = true
  sh : shB d = true
  dep : d.depth < 40
  sz : sz d ≤ 4000000
theorem Xp.kids {d : PyData} (h : Xp d) : ∀ y, y ∈ kidsE d → Xp y := fun y hy => by
  have h1 := sz_mem hy
  have h2 := kidsE_sz d
  have h3 := h.sz
  exact ⟨isX_kids h.x y hy, kidsE_sh h.x h.sh y hy, Nat.lt_of_le_of_lt (kidsE_depth hy) h.dep, by omega⟩
def xpB (d : PyData) : Bool := isX d && (shB d && (decide (d.depth < 40) && decide (L17.sz d ≤ 4000000)))
theorem xp_iff {d : PyData} : xpB d = true ↔ Xp d := by
  unfold xpB
  simp only [Bool.and_eq_true, decide_eq_true_eq]
  exact ⟨fun ⟨a, b, c, e⟩ => ⟨a, b, c, e⟩, fun ⟨a, b, c, e⟩ => ⟨a, b, c, e⟩⟩
theorem Xp.all {d : PyData} (h : Xp d) : allX xpB d = true := allX_of (P := Xp) (fun y hy => ⟨xp_iff.mpr hy, hy.kids⟩) (L17.sz d) d (Nat.le_refl _) h
theorem xp_parts {xs : List PyData} {d : PyData} (h : ∀ q, xs.all q = allX q d) (hx : Xp d) : ∀ y, y ∈ xs → Xp y := fun y hy => xp_iff.mp (List.all_eq_true.mp ((h xpB).trans hx.all) y hy)
mutual
theorem lay_of : ∀ d : PyData, flatD d = true → shB d = true → d.canLay0 = true
  | .none, _, _ => by simp only [PyData.canLay0]
  | .bool b, _, _ => by simp only [PyData.canLay0]
  | .int i, _, _ => by simp only [PyData.canLay0]
  | .str z, _, h => by
    rw [shB, Bool.and_eq_true] at h
    simp only [PyData.canLay0, h.2]
  | .tuple ds, hf, h => by
    rw [flatD] at hf
    rw [shB] at h
    simp only [PyData.canLay0, lay_ofs ds hf h]
  | .list ds, hf, _ => by simp only [flatD, Bool.false_eq_true] at hf
  | .dict ds, hf, _ => by simp only [flatD, Bool.false_eq_true] at hf
theorem lay_ofs : ∀ ds : List PyData, flatDs ds = true → shBs ds = true → PyData.canLayAll0 ds = true
  | [], _, _ => by simp only [PyData.canLayAll0]
  | d :: ds, hf, h => by
    rw [flatDs, Bool.and_eq_true] at hf
    rw [shBs, Bool.and_eq_true] at h
    simp only [PyData.canLayAll0, lay_of d hf.1 h.1, lay_ofs ds hf.2 h.2, Bool.and_self]
end
theorem shaped_of {d : PyData} (hf : flatD d = true) (h : shB d = true) (hd : d.depth < 40) : SeqAt.shaped d = true := by
  unfold SeqAt.shaped
  rw [Bool.and_eq_true]
  exact ⟨lay_of d hf h, decide_eq_true (by omega)⟩
theorem Xp.shaped {d : PyData} (h : Xp d) : SeqAt.shaped d = true := shaped_of (isX_flat h.x) h.sh h.dep
/-- an aggregate, by its word -/
theorem agg_form {w : Str} {r : List PyData} (h : isX (.tuple (.str w :: r)) = true) (hw : w ∈ aggW) : ∃ t xs x r', r = .str t :: .tuple xs :: x :: r' ∧ x ∈ kidsE (.tuple (.str w :: r)) := by
  have hf := isX_form h
  have key : ∀ fs : List Str, look w = some fs → (∃ fs', fs = ("name" : Str) :: ("extra" : Str) :: ("bound" : Str) :: fs') → ∃ t xs x r', r = .str t :: .tuple xs :: x :: r' ∧ x ∈ kidsE (.tuple (.str w :: r)) := by
    rintro fs lk ⟨fs', rfl⟩
    rw [form_some lk] at hf
    match r, hf with
    | [], hf => cases hf
    | [_], hf => simp [fitsAll] at hf
    | [_, _], hf => simp [fitsAll] at hf
    | a :: b :: x :: r', hf =>
      have hf' : (fitsD "name" a && (fitsD "extra" b && (fitsD "bound" x && fitsAll fs' r'))) = true := hf
      rw [Bool.and_eq_true, Bool.and_eq_true] at hf'
      obtain ⟨h1, h2, _⟩ := hf'
      have h1' : isN a = true := h1
      have h2' : isTu b = true := h2
      cases a with
      | str t =>
        cases b with
        | tuple xs =>
          refine ⟨t, xs, x, r', rfl, ?_⟩
          have : kidsE (.tuple (.str w :: .str t :: .tuple xs :: x :: r')) = pick W2 ("name" :: "extra" :: "bound" :: fs') (.str t :: .tuple xs :: x :: r') := by
            show (match look w with | some fs => pick W2 fs _ | none => []) = _
            rw [lk]
          rw [this]
          simp only [pick]
          refine List.mem_append_right _ (List.mem_append_right _ (List.mem_append_left _ ?_))
          rw [if_neg (by decide), if_pos (by decide)]
          exact List.mem_singleton.mpr rfl
        | _ => cases h2'
      | _ => cases h1'
  simp only [aggW, List.mem_cons, List.not_mem_nil, or_false] at hw
  rcases hw with rfl | rfl | rfl | rfl
  · exact key ["name", "extra", "bound", "bound"] (by decide) ⟨_, rfl⟩
  · exact key ["name", "extra", "bound", "bound", "bound"] (by decide) ⟨_, rfl⟩
  · exact key ["name", "extra", "bound", "bound", "bound", "free"] (by decide) ⟨_, rfl⟩
  · exact key ["name", "extra", "bound", "bound", "free"] (by decide) ⟨_, rfl⟩
theorem isX_head {d : PyData} (h : isX d = true) : ∃ w r, d = .tuple (.str w :: r) := by
  obtain ⟨_, _, w, fs, r, rfl, _⟩ := kids_sz d (isX_form h)
  exact ⟨w, r, rfl⟩
theorem plain_agg {o t : Str} {xs : List PyData} {y : PyData} {r : List PyData} (h : o ∈ aggW) : plainP (.tuple (.str o :: .str t :: .tuple xs :: y :: r)) = (xs.isEmpty && PyData.eqv y (rowX t)) := if_pos h
theorem plain_no {o : Str} {r : List PyData} (h : o ∉ aggW) : plainP (.tuple (.str o :: r)) = !decide (o = "let") := if_neg h
theorem row_shaped {t : Str} (h : PyData.strOk t = true) : SeqAt.shaped (rowX t) = true := by
  have k1 : PyData.strOk "key" = true := by decide +kernel
  have k2 : PyData.strOk "cell" = true := by decide +kernel
  have k3 : PyData.strOk "in" = true := by decide +kernel
  unfold SeqAt.shaped rowX
  simp only [PyData.canLay0, PyData.canLayAll0, Bool.and_true, h, k1, k2, k3, Bool.true_and, PyData.depth, PyData.depthAll]
  exact decide_eq_true (by omega)
section
variable {P : Program} {w : World} {K : PySem.W.Frag} {mg : Str → Option Value} {base : Heap}
abbrev s_rows_of : Stmt := topS 22
theorem sc_rows_of : FnScope ["table"] ["table"] (defScope s_rows_of) := ⟨rfl, rfl, rfl, by decide +kernel, rfl, by decide +kernel, by decide +kernel⟩
def sp_rows_of (K : PySem.W.Frag) : Sp := fun vs H Q _ => ∃ t, vs = [.str t] ∧ ∀ H' v, Same H H' → Dp K H' v (rowX t) → Q v H'
theorem ok_rows_of {f : Addr} {fd : FuncData} {k : Nat} (F : Fun K "rows_of" "rows_of" s_rows_of f fd) : FnOk P w K mg base CX0 (k + 1) f fd ["table"] (sp_rows_of K) := by
  have nd := sc_rows_of.nd
  refine F.ok sc_rows_of (fun vs H Q E h => ?_) (fun cdv A outer s H vs Q E hr h => ?_)
  · obtain ⟨t, rfl, _⟩ := h
    rfl
  obtain ⟨t, rfl, q⟩ := h
  refine ⟨_, (pss_one (ps_ret (pe_tup (pa_cons pe_str (pa_cons (pv 0) (pa_cons (pe_tup (pa_cons pe_str pa_nil)) (pa_cons pe_str pa_nil))))))), ?_⟩
  refine ⟨.str t, rfl, small_le (show 1 ≤ 1000 by decide), fun p np => ⟨small_le (show 4 ≤ 1000 by decide), fun r nr => ?_⟩⟩
  have s1 := same_upd (o := .tup [.str "key"]) np
  have s2 := same_upd (o := .tup [.str "cell", .str t, .ref p, .str "in"]) nr
  refine q _ _ (s1.trans s2) (.tup (.inl (.inl upd_same)) (.cons (.str _) (.cons (.str t) (.cons (.tup (.inl (.inl (s2 _ _ upd_same))) (.cons (.str _) .nil)) (.cons (.str _) .nil)))))
abbrev s_is_plain_part : Stmt := topS 24
theorem sc_is_plain_part : FnScope ["part"] ["part"] (defScope s_is_plain_part) := ⟨rfl, rfl, rfl, by decide +kernel, rfl, by decide +kernel, by decide +kernel⟩
/-- a test of an expression -/
def sp_tx (K : PySem.W.Frag) (f : PyData → Bool) : Sp := fun vs H Q _ => ∃ (v : V) (x : PyData), vs = [v] ∧ Dp K H v x ∧ Xp x ∧ ∀ H', Same H H' → Q (.bl (f x)) H'
theorem ok_is_plain_part {f fr aA : Addr} {fd fdr : FuncData} {k : Nat} (F : Fun K "is_plain_part" "is_plain_part" s_is_plain_part f fd) (Gr : FnOk P w K mg base CX0 k fr fdr ["table"] (sp_rows_of K)) (gr : mg "rows_of" = some (.ref fr)) (Kr : PySem.W.keepIn K (.ref fr) = true) (br : Binds K fdr ["table"] [])
    (mAGG : mg "AGGREGATES" = some (.ref aA)) (T : KTx K aA aggW) : FnOk P w K mg base CX0 (k + 1) f fd ["part"] (sp_tx K plainP) := by
  have nd := sc_is_plain_part.nd
  refine F.ok sc_is_plain_part (fun vs H Q E h => ?_) (fun cdv A outer s H vs Q E hr h => ?_)
  · obtain ⟨v, x, rfl, _⟩ := h
    rfl
  obtain ⟨v, x, rfl, hd, hx, q⟩ := h
  refine ⟨_, (pss_cons (ps_if (pt_cmpR op_in_seq (pe_ix ix_tup (pv 0) pe_int (fun _ _ => rfl)) (pe_glob rfl mAGG (v := .ref aA) rfl) (by rfl))
      (pss_one (ps_ret (pe_and (pe_cmpR (op_eqT0 hr.units0) (pe_ix ix_tup (pv 0) pe_int (fun _ _ => rfl)) (pe_tup pa_nil) (nomark _)) (pe_one (pe_cmpR (op_eqD hr.units) (pe_ix ix_tup (pv 0) pe_int (fun _ _ => rfl)) (pe_call Gr hr (by rfl) gr Kr br .nil pass0 (pa_cons (pe_ix ix_tup (pv 0) pe_int (fun _ _ => rfl)) pa_nil)) (nomark _))))))
      pss_nil)
      (pss_one (ps_ret (pe_cmpR op_ne (pe_ix ix_tup (pv 0) pe_int (fun _ _ => rfl)) pe_str (nomark _))))), ?_⟩
  obtain ⟨wd, r, rfl⟩ := isX_head hx.x
  have hfl := isX_flat hx.x
  cases hd with
  | tup hS hA =>
  cases hA with
  | cons hw hA =>
  cases hw
  rename_i a vs
  refine ⟨.ref a, rfl, a, _, 0, .str wd, rfl, rfl, hS, at0, aA, _, rfl, .inr (T H), rfl, flat_strsW aggW, _, rfl, ?_⟩
  show if inV (.str wd) (aggW.map V.str) = true then _ else _
  rw [in_strs]
  refine ite2 (fun e1 => ?_) (fun e1 => ?_)
  · have e1 : wd ∈ aggW := by simpa using e1
    obtain ⟨t, xs, y, r', rfl, hk⟩ := agg_form hx.x e1
    have hy := hx.kids y hk
    have hst : PyData.strOk t = true := by
      have h1 := hx.sh
      rw [shB] at h1
      exact (shB_sh (shBs_mem h1 (.str t) (List.mem_cons_of_mem _ List.mem_cons_self)) t rfl).2
    cases hA with
    | @cons v1 vs1 d1 ds1 g1 hA =>
    cases g1
    cases hA with
    | @cons v2 vs2 d2 ds2 g2 hA =>
    cases hA with
    | @cons v3 vs3 d3 ds3 g3 hA =>
    have hq : ∀ H', Same H H' → Q (.bl (xs.isEmpty && PyData.eqv y (rowX t))) H' := fun H' s' => by
      have := q H' s'
      rw [← plain_agg (r := r') e1]
      exact this
    refine ⟨.ref a, rfl, a, _, 2, v2, rfl, rfl, hS, at2, Nat.zero_le _, fun p np => ?_⟩
    have sp := same_upd (o := .tup []) np
    cases g2 with
    | @tup b us _ hb hbs =>
    have lb := dpAll_len hbs
    have eem : us.isEmpty = xs.isEmpty := by
      cases us <;> cases xs <;> first | rfl | cases lb
    refine ⟨b, p, us, rfl, rfl, (KeepT.of sp).seqt hb, .inl (.inl upd_same), _, rfl, ?_⟩
    rw [eem]
    cases he : xs.isEmpty with
    | false =>
      rw [he, Bool.false_and] at hq
      exact iteF (hq _ sp)
    | true =>
      rw [he, Bool.true_and] at hq
      refine iteT ⟨.ref a, rfl, a, _, 3, v3, rfl, rfl, (KeepT.of sp).seqt hS, at3, .ref a, rfl, a, _, 1, .str t, rfl, rfl, (KeepT.of sp).seqt hS, at1, t, rfl, fun H' u s' hu => ?_⟩
      exact ⟨y, rowX t, dp_keep (KeepT.of (sp.trans s')) _ _ (isX_flat hy.x) g3, hu, hy.shaped, row_shaped hst, hq H' (sp.trans s')⟩
  · have e1 : wd ∉ aggW := fun z => e1 (by simpa using z)
    have := q H fun _ _ e => e
    rw [plain_no e1] at this
    refine ⟨.ref a, rfl, a, _, 0, .str wd, rfl, rfl, hS, at0, rfl, ?_⟩
    rw [show decide (V.str wd = V.str "let") = decide (wd = "let") from decide_eq_decide.mpr ⟨fun e => V.str.inj e, fun e => by rw [e]⟩]
    exact this
/-- truth values are being made into the list at D, f of each part -/
def BInv (f : PyData → Bool) (H1 : Hp) (D : Addr) (xs : List PyData) (i : Nat) (H : Hp) : Prop := H D = some (.lst (((xs.take i).map f).map V.bl)) ∧ Same H1 H
theorem BInv.start {f : PyData → Bool} {H1 : Hp} {D : Addr} {xs : List PyData} (nD : H1 D = none) : BInv f H1 D xs 0 (upd H1 D (.lst [])) := ⟨upd_same, same_upd nD⟩
theorem BInv.step {f : PyData → Bool} {H1 H H' : Hp} {D : Addr} {xs : List PyData} {i : Nat} {x : PyData} (B : BInv f H1 D xs i H) (nD : H1 D = none) (s : Same H H') (h : xs[i]? = some x) (hl : xs.length ≤ 4000000) :
    ∃ acc, H' D = some (.lst acc) ∧ acc.length < sizeLine ∧ BInv f H1 D xs (i + 1) (upd H' D (.lst (acc ++ [.bl (f x)]))) := by
  obtain ⟨hD, kk⟩ := B
  refine ⟨_, s _ _ hD, ?_, ?_, fun b o e => ?_⟩
  · rw [List.length_map, List.length_map, List.length_take, sizeLine_eq]
    omega
  · rw [upd_same, take_at h, List.map_append, List.map_append]
    rfl
  · rw [upd_ne (ne_of_none e nD)]
    exact s _ _ (kk _ _ e)
abbrev N_test : List Str := ["expression", "part"]
abbrev s_is_plain : Stmt := topS 23
theorem sc_is_plain : FnScope N_test ["expression"] (defScope s_is_plain) := ⟨rfl, rfl, rfl, by decide +kernel, rfl, by decide +kernel, by decide +kernel⟩
theorem all_map (f : PyData → Bool) (l : List PyData) : (l.map f).all id = l.all f := by
  rw [List.all_map]
  rfl
theorem ok_is_plain {f fc fp : Addr} {fd fdc fdp : FuncData} {k : Nat} (F : Fun K "is_plain" "is_plain" s_is_plain f fd) (Gc : FnOk P w K mg base CX0 k fc fdc ["expression"] (sp_ap K)) (gc : mg "all_parts" = some (.ref fc)) (Kc : PySem.W.keepIn K (.ref fc) = true) (bc : Binds K fdc ["expression"] [])
    (Gp : FnOk P w K mg base CX0 k fp fdp ["part"] (sp_tx K plainP)) (gp : mg "is_plain_part" = some (.ref fp)) (Kp : PySem.W.keepIn K (.ref fp) = true) (bp : Binds K fdp ["part"] []) (mall : mg "all" = none) : FnOk P w K mg base CX0 (k + 1) f fd ["expression"] (sp_tx K (allX plainP)) := by
  have nd := sc_is_plain.nd
  refine F.ok sc_is_plain (fun vs H Q E h => ?_) (fun cdv A outer s H vs Q E hr h => ?_)
  · obtain ⟨v, x, rfl, _⟩ := h
    rfl
  obtain ⟨v, x, rfl, hd, hx, q⟩ := h
  refine ⟨_, (pss_one (ps_ret (pe_callB (cr_all rfl) (by rfl) mall boot_all (pa_cons (pe_lc (own := [("part", 1)]) rfl nd (pi_list (pe_call Gc hr (by rfl) gc Kc bc .nil pass0 (pa_cons (pv 0) pa_nil))) (blkOk_by (N := N_test) (sc := defScope s_is_plain) (by decide +kernel)) (fun _ _ _ _ _ => (pg_name (i := 1) nd rfl (Or.inl rfl))) (fun _ _ _ _ _ => pts_nil)
      (te := tCall (sp_tx K plainP) [] E0 (tCons (tVar 1) tNil)) (fun _ _ _ _ _ => (pe_call Gp hr (by rfl) gp Kp bp .nil pass0 (pa_cons (pv 1) pa_nil)))) pa_nil)))), ?_⟩
  refine ⟨v, rfl, v, x, rfl, hd, hx.x, hx.sz, fun H1 p us xs s1 np hp hu hE hq hl => ⟨p, rfl, ⟨us, .inl (.inl hp)⟩, fun D nD => ?_⟩⟩
  have hX := xp_parts hq hx
  have lu := dpAll_len hu
  have hz := hx.sz
  refine walk_body (xs := us) (BInv plainP H1 D xs) (BInv.start nD) ?_ ?_ ?_
  · rintro i H' _ B
    exact .inl (.inl (B.2 _ _ hp))
  · rintro i y H' hy B
    obtain ⟨d, hdi, hyd⟩ := dpAll_at hu hy
    have ex := hX d (List.mem_of_getElem? hdi)
    exact ⟨rfl, yes_then ⟨y, rfl, y, d, rfl, dp_keep (KeepT.of B.2) _ _ (isX_flat ex.x) hyd, ex, fun H2 s2 => B.step nD s2 hdi (by omega)⟩⟩
  · rintro H' ⟨hD, kk⟩
    rw [lu, List.take_length] at hD
    refine ⟨D, _, rfl, .inl (.inl hD), ?_⟩
    rw [all_map, hq]
    exact q H' (s1.trans kk)
abbrev s_is_simple : Stmt := topS 26
theorem sc_is_simple : FnScope N_test ["expression"] (defScope s_is_simple) := ⟨rfl, rfl, rfl, by decide +kernel, rfl, by decide +kernel, by decide +kernel⟩
theorem ok_is_simple {f fc aA : Addr} {fd fdc : FuncData} {k : Nat} (F : Fun K "is_simple" "is_simple" s_is_simple f fd) (Gc : FnOk P w K mg base CX0 k fc fdc ["expression"] (sp_ap K)) (gc : mg "all_parts" = some (.ref fc)) (Kc : PySem.W.keepIn K (.ref fc) = true) (bc : Binds K fdc ["expression"] [])
    (mAGG : mg "AGGREGATES" = some (.ref aA)) (T : KTx K aA aggW) (mall : mg "all" = none) : FnOk P w K mg base CX0 (k + 1) f fd ["expression"] (sp_tx K (allX simpleP)) := by
  have nd := sc_is_simple.nd
  refine F.ok sc_is_simple (fun vs H Q E h => ?_) (fun cdv A outer s H vs Q E hr h => ?_)
  · obtain ⟨v, x, rfl, _⟩ := h
    rfl
  obtain ⟨v, x, rfl, hd, hx, q⟩ := h
  refine ⟨_, (pss_one (ps_ret (pe_callB (cr_all rfl) (by rfl) mall boot_all (pa_cons (pe_lc (own := [("part", 1)]) rfl nd (pi_list (pe_call Gc hr (by rfl) gc Kc bc .nil pass0 (pa_cons (pv 0) pa_nil))) (blkOk_by (N := N_test) (sc := defScope s_is_simple) (by decide +kernel)) (fun _ _ _ _ _ => (pg_name (i := 1) nd rfl (Or.inl rfl))) (fun _ _ _ _ _ => pts_nil)
      (te := tOp (rIn K true) (tOp (rIxT K) (tVar 1) (tC (.int 0))) (tC (.ref aA))) (fun _ _ _ _ _ => (pe_cmpR op_notIn_seq (pe_ix ix_tup (pv 1) pe_int (fun _ _ => rfl)) (pe_glob rfl mAGG (v := .ref aA) rfl) (by rfl)))) pa_nil)))), ?_⟩
  refine ⟨v, rfl, v, x, rfl, hd, hx.x, hx.sz, fun H1 p us xs s1 np hp hu hE hq hl => ⟨p, rfl, ⟨us, .inl (.inl hp)⟩, fun D nD => ?_⟩⟩
  have hX := xp_parts hq hx
  have lu := dpAll_len hu
  have hz := hx.sz
  refine walk_body (xs := us) (BInv simpleP H1 D xs) (BInv.start nD) ?_ ?_ ?_
  · rintro i H' _ B
    exact .inl (.inl (B.2 _ _ hp))
  · rintro i y H' hy B
    obtain ⟨d, hdi, hyd⟩ := dpAll_at hu hy
    have ex := hX d (List.mem_of_getElem? hdi)
    have hyd2 := dp_keep (KeepT.of B.2) _ _ (isX_flat ex.x) hyd
    obtain ⟨wd, r, rfl⟩ := isX_head ex.x
    cases hyd2 with
    | tup hS hA =>
    cases hA with
    | cons hw hA =>
    cases hw
    rename_i a vs
    refine ⟨rfl, yes_then ⟨.ref a, rfl, a, _, 0, .str wd, rfl, rfl, hS, at0, aA, _, rfl, .inr (T H'), rfl, flat_strsW aggW, ?_⟩⟩
    obtain ⟨acc, g1, g2, g3⟩ := B.step nD (fun _ _ e => e) hdi (by omega)
    refine ⟨acc, g1, g2, ?_⟩
    show BInv simpleP H1 D xs (i + 1) (upd H' D (.lst (acc ++ [.bl (!inV (.str wd) (aggW.map V.str))])))
    rw [in_strs]
    exact g3
  · rintro H' ⟨hD, kk⟩
    rw [lu, List.take_length] at hD
    refine ⟨D, _, rfl, .inl (.inl hD), ?_⟩
    rw [all_map, hq]
    exact q H' (s1.trans kk)
end
end L17

/-! Sets of texts that can be walked: what one more element does to the object, for any kind of key. -/
namespace TX
open PySem PySem.Spec PyProof.Rows L2
section
variable {P : Program} {w : World} {A : Around} {E : Value → Shared → Prop} {s : Shared} {a : Addr}
/-- the object at a is the same set with these entries, and its table is as good as before -/
structure Grown (h0 h : Heap) (a : Addr) (o : Obj) (t : SetTable) (l : List (Int × Value)) : Prop where
  same : Heap.SameBut a h0 h
  at' : ∃ es ep t', h.get? a = some { o with data := .set es ep t' } ∧ es.toList.Perm l ∧ t'.fits es.size = true ∧ (Ris t.place.toList → Ris t'.place.toList) ∧ t'.led = t.led
theorem got {h : Heap} {o : Obj} {es es' : Array (Int × Value)} {ep : Nat} {t t' : SetTable} (ho : h.get? a = some o) (hd : o.data = .set es ep t) :
    (h.update a (Obj.putSet es' t')).get? a = some { o with data := .set es' (ep + 1) t' } := store_at ho hd
/-- laid down, and laid anew where the table is too full -/
theorem tail {g : Bool → Sem Unit} (hg : ∀ (b : Bool) (s₁ : Shared) (Q' : Unit → Shared → Prop), Q' () s₁ → wpAny (model P w) A (g b) Q' E s₁) {o : Obj} {es es1 : Array (Int × Value)} {ep : Nat} {t t0 t2 : SetTable} (ho : s.heap.get? a = some o) (hd : o.data = .set es ep t)
    {l : List (Int × Value)} (pm : es1.toList.Perm l) (small : es1.size < scanBound) (fit : t2.fits es1.size = true) (ris : Ris t0.place.toList → Ris t2.place.toList) (led : t2.led = t0.led) {d : Bool} {R : Option Bool → Shared → Prop}
    (done : ∀ h', Grown s.heap h' a o t0 l → R (some true) { s with heap := h' }) :
    wpAny (model P w) A (do
        storeSet a es1 t2
        if (!d && t2.tooFull) = true then do
            g (relayAll t2 es1 (SetTable.grown es1.size)).2.2
            storeSet a (relayAll t2 es1 (SetTable.grown es1.size)).1 (relayAll t2 es1 (SetTable.grown es1.size)).2.1
            pure (some true)
          else pure (some true)) R E s := by
  have h1 := got (es' := es1) (t' := t2) ho hd
  have b1 := Heap.SameBut.update s.heap a (Obj.putSet es1 t2)
  apply wpAny_bind
  refine wpAny_storeSet_of ho hd ?_ (fits_of_scanBound small)
  by_cases full : (!d && t2.tooFull) = true
  · rw [if_pos full]
    have p2 := relayAll_perm t2 es1 (SetTable.grown es1.size)
    have small2 : (relayAll t2 es1 (SetTable.grown es1.size)).1.size < scanBound := by
      have := p2.length_eq
      rw [Array.length_toList, Array.length_toList] at this
      omega
    apply wpAny_bind
    refine hg _ _ _ ?_
    apply wpAny_bind
    refine wpAny_storeSet_of h1 rfl ?_ (fits_of_scanBound small2)
    exact wpAny_pure (done _ ⟨b1.trans (Heap.SameBut.update _ a _), _, _, _, (got (o := { o with data := .set es1 (ep + 1) t2 }) h1 rfl : _), p2.trans pm, relayAll_fits t2 es1 _, fun _ => relayAll_ris t2 es1 _, (relayAll_led t2 es1 _).trans led⟩)
  · rw [if_neg full]
    exact wpAny_pure (done _ ⟨b1, es1, _, t2, h1, pm, fit, ris, led⟩)

/-- one more element, or none where it is in -/
theorem add {K : Type} [DecidableEq K] {knd : PySem.KeyKind P w K} {o : Obj} {es : Array (Int × Value)} {ep : Nat} {t : SetTable} {k : K} {v : Value} {Q : Bool → Shared → Prop} (ho : s.heap.get? a = some o) (hd : o.data = .set es ep t) (hel : ElemsOf knd es.toList)
    (small : es.size + 1 < scanBound) (hf : t.fits es.size = true) (hk : knd.is k v = true) (hsc : v.scannable = true) (old : (∃ e ∈ es.toList, knd.is k e.2 = true) → Q false s)
    (new : (∀ e ∈ es.toList, knd.is k e.2 = false) → ∀ h', Grown s.heap h' a o t ((knd.hash k, v) :: es.toList) → Q true { s with heap := h' }) : wpAny (model P w) A (setAddHashed a v (knd.hash k)) Q E s := by
  unfold setAddHashed setAddHashedIn
  apply wpAny_holding
  apply wpAny_bind
  refine wpAny_setState_of ho hd hf ?_
  dsimp only
  rw [byScan_of hsc (by omega) hel]
  simp only [↓reduceIte]
  unfold setAddByScan
  apply wpAny_bind
  apply wpAny_bind
  apply wpAny_rule
  apply wpAny_bind
  refine wpAny_setScan_of hk ho hd hf hel ?_
  cases hfi : List.findIdx? (fun e => knd.is k e.2) es.toList with
  | some j =>
    dsimp only
    obtain ⟨hj, pj, _⟩ := List.findIdx?_eq_some_iff_getElem.mp hfi
    exact wpAny_pure (wpAny_pure (old ⟨_, List.getElem_mem hj, pj⟩))
  | none =>
    dsimp only
    have out : ∀ e ∈ es.toList, knd.is k e.2 = false := fun e he => by
      have := List.findIdx?_eq_none_iff.mp hfi e he
      simpa using this
    have pm : (layNew t es (knd.hash k) v).1.toList.Perm ((knd.hash k, v) :: es.toList) := by
      have := layNew_perm t es (knd.hash k) v
      rw [Array.toList_push] at this
      exact this.trans (List.perm_append_singleton _ _)
    have small1 : (layNew t es (knd.hash k) v).1.size < scanBound := by
      have := pm.length_eq
      rw [Array.length_toList, List.length_cons, Array.length_toList] at this
      omega
    have fit := layNew_fits t es (knd.hash k) v
    have ris := layNew_ris t es (knd.hash k) v
    have led := layNew_led t es (knd.hash k) v
    have wg : ∀ (b : Bool) {s₁ : Shared} {Q' : Unit → Shared → Prop}, Q' () s₁ → wpAny (model P w) A (match b with | true => rule "set.scan.the-table-gave-way" | false => pure ()) Q' E s₁ := fun b s₁ Q' q => by
      cases b
      · exact wpAny_pure q
      · exact wpAny_rule q
    generalize layNew t es (knd.hash k) v = Z at pm small1 fit ris led ⊢
    obtain ⟨es1, t1, dummy, gave⟩ := Z
    dsimp only at pm small1 fit ris led ⊢
    apply wpAny_bind
    refine wg _ ?_
    have gave' : ∀ (b : Bool) (s₁ : Shared) (Q' : Unit → Shared → Prop), Q' () s₁ → wpAny (model P w) A (match b with | true => rule "set.scan.the-table-gave-way" | false => pure ()) Q' E s₁ := fun b s₁ Q' q => wg b q
    by_cases pl : t1.plain = true
    · rw [if_pos pl]
      apply wpAny_bind
      rw [hashByValue_scannable 8 hsc]
      apply wpAny_pure
      cases plainKind v with
      | true =>
        simp only [if_true]
        refine tail gave' ho hd pm small1 fit ris led ?_
        intro h' G
        exact wpAny_pure (new out h' G)
      | false =>
        simp only [Bool.false_eq_true, if_false]
        refine tail gave' ho hd pm small1 (SetTable.fits_plain_off fit) ris led ?_
        intro h' G
        exact wpAny_pure (new out h' G)
    · rw [if_neg pl]
      apply wpAny_bind
      apply wpAny_pure
      simp only [↓reduceIte]
      refine tail gave' ho hd pm small1 fit ris led ?_
      intro h' G
      exact wpAny_pure (new out h' G)
end
end TX

/-! Sets of texts: new, one more, sorted. -/
namespace TX
open PySem PySem.Spec PyProof.Rows L2
/-- these entries are the texts l -/
structure Els (w : World) (es : List (Int × Value)) (l : List Str) : Prop where
  each : ∀ e ∈ es, ∃ x u, e.2 = Value.str x u ∧ e.1 = hashStr w x
  perm : (es.map fun e => PyProof.Rows.strOf e.2).Perm l
/-- the set of the texts l at a; it can be walked -/
def SetS (w : World) (h : Heap) (a : Addr) (l : List Str) : Prop :=
  ∃ o es ep t, h.get? a = some o ∧ o.ExactSet ∧ o.data = .set es ep t ∧ Els w es.toList l ∧ l.Nodup ∧ es.size < scanBound ∧ t.fits es.size = true ∧ Ris t.place.toList ∧ (w.params.followText "set-order" = true ∨ t.led = true)
theorem SetS.keep {w : World} {h h' : Heap} {a : Addr} {l : List Str} (R : SetS w h a l) (k : ∀ o, h.get? a = some o → h'.get? a = some o) : SetS w h' a l := by
  obtain ⟨o, es, ep, t, ho, r⟩ := R
  exact ⟨o, es, ep, t, k o ho, r⟩
theorem isStr {P : Program} {w : World} (x : Str) (u : Tok) : (PySem.strKind P w).is x (.str x u) = true := by
  show Value.isStrOf x (.str x u) = true
  simp [Value.isStrOf]
theorem Els.kind {P : Program} {w : World} {es : List (Int × Value)} {l : List Str} (G : Els w es l) : ElemsOf (PySem.strKind P w) es := by
  intro e he
  obtain ⟨x, u, e2, e1⟩ := G.each e he
  exact ⟨⟨x, by rw [e2]; exact isStr x u, e1⟩, by rw [e2]; rfl⟩
theorem Els.mem {P : Program} {w : World} {es : List (Int × Value)} {l : List Str} (G : Els w es l) (x : Str) : (∃ e ∈ es, (PySem.strKind P w).is x e.2 = true) ↔ x ∈ l := by
  rw [← G.perm.mem_iff, List.mem_map]
  constructor
  · rintro ⟨e, he, q⟩
    obtain ⟨y, u, e2, _⟩ := G.each e he
    refine ⟨e, he, ?_⟩
    rw [e2] at q ⊢
    exact (PySem.strKind P w).inj (.str y u) y x (isStr y u) q
  · rintro ⟨e, he, q⟩
    obtain ⟨y, u, e2, _⟩ := G.each e he
    refine ⟨e, he, ?_⟩
    rw [e2] at q ⊢
    rw [← q]
    exact isStr y u
theorem Els.more {P : Program} {w : World} {es es' : List (Int × Value)} {l : List Str} {x : Str} {u : Tok} (G : Els w es l) (p : es'.Perm (((PySem.strKind P w).hash x, Value.str x u) :: es)) : Els w es' (x :: l) := by
  constructor
  · intro e he
    rcases List.mem_cons.mp (p.mem_iff.mp he) with rfl | he
    · exact ⟨x, u, rfl, rfl⟩
    · exact G.each e he
  · exact (p.map _).trans (G.perm.cons x)
/-- x put in -/
def put (x : Str) (l : List Str) : List Str := if x ∈ l then l else x :: l
theorem mem_put {x y : Str} {l : List Str} : y ∈ put x l ↔ y = x ∨ y ∈ l := by
  unfold put
  by_cases h : x ∈ l
  · rw [if_pos h]
    exact ⟨.inr, fun z => z.elim (fun e => e ▸ h) id⟩
  · rw [if_neg h, List.mem_cons]
theorem put_nodup {x : Str} {l : List Str} (h : l.Nodup) : (put x l).Nodup := by
  unfold put
  by_cases q : x ∈ l
  · rw [if_pos q]
    exact h
  · rw [if_neg q]
    exact List.nodup_cons.mpr ⟨q, h⟩
theorem put_length {x : Str} {l : List Str} : (put x l).length ≤ l.length + 1 := by
  unfold put
  by_cases q : x ∈ l
  · rw [if_pos q]
    omega
  · rw [if_neg q, List.length_cons]
    exact Nat.le_refl _
section
variable {P : Program} {w : World} {A : Around} {E : Value → Shared → Prop} {s : Shared} {a : Addr} {l : List Str}
theorem SetS.typeIs (R : SetS w s.heap a l) : s.TypeIs (.ref a) "set" := by
  obtain ⟨o, es, ep, t, ho, hx, _⟩ := R
  exact ⟨o, ho, hx.1⟩
theorem call_add {x : Str} {u : Tok} {Q : Value → Shared → Prop} (R : SetS w s.heap a l) (small : l.length + 1 < scanBound) (hQ : ∀ h', Heap.SameBut a s.heap h' → SetS w h' a (put x l) → Q .none { s with heap := h', toks := s.toks + 1 }) :
    wpAny (model P w) A (call (.builtin "set.add") [.ref a, .str x u]) Q E s := by
  refine wpAny_call_entry F.slot_set_add R.typeIs F.entry_set_add ?_ (F.args_set_add_2 _ _)
  obtain ⟨o, es, ep, t, ho, hx, hd, G, nd, hb, hf, hr, hl⟩ := R
  unfold Builtin.«set.add» Builtin.Frozenset.oneOther
  simp only [List.isEmpty_nil, bind_assoc]
  unfold Builtin.Frozenset.addrOf setAdd
  apply wpAny_bind
  apply wpAny_pure
  try dsimp only
  apply wpAny_bind
  apply wpAny_pure
  try dsimp only
  apply wpAny_bind
  apply wpAny_holding
  apply wpAny_bind
  refine (PySem.strKind P w).pyHash (isStr x u) ?_
  have sz : es.size = l.length := by
    have := G.perm.length_eq
    rw [List.length_map, Array.length_toList] at this
    exact this
  refine add (s := { s with toks := s.toks + 1 }) (knd := PySem.strKind P w) (k := x) (v := .str x u) ho hd G.kind (by omega) hf (isStr x u) rfl ?_ ?_
  · intro hin
    show wpAny _ _ (ret Value.none) _ _ _
    refine wpAny_pure ⟨_, rfl, hQ s.heap (Heap.SameBut.refl a s.heap) ?_⟩
    unfold put
    rw [if_pos ((G.mem x).1 hin)]
    exact ⟨o, es, ep, t, ho, hx, hd, G, nd, hb, hf, hr, hl⟩
  · intro out h' N
    show wpAny _ _ (ret Value.none) _ _ _
    refine wpAny_pure ⟨_, rfl, hQ h' N.same ?_⟩
    have hn : x ∉ l := fun z => by
      obtain ⟨e, he, q⟩ := (G.mem (P := P) x).2 z
      rw [out e he] at q
      cases q
    unfold put
    rw [if_neg hn]
    obtain ⟨es1, ep1, t1, h1, p1, f1, r1, l1⟩ := N.at'
    have sz1 : es1.size = es.size + 1 := by
      have := p1.length_eq
      rw [Array.length_toList, List.length_cons, Array.length_toList] at this
      exact this
    exact ⟨_, es1, ep1, t1, h1, hx, rfl, G.more (P := P) p1, List.nodup_cons.mpr ⟨hn, nd⟩, by omega, f1, r1 hr, hl.imp id fun z => l1.trans z⟩
theorem fresh {h : Heap} (w : World) : SetS w (h.push { cls := .type "set", dict := none, data := .set #[] 0 (.fresh 0 0 (!w.params.followText "set-order")) }) h.objs.size [] := by
  refine ⟨_, #[], 0, _, Heap.get?_push_size _ rfl, ⟨rfl, rfl, rfl⟩, rfl, ⟨fun e he => by simp at he, .nil⟩, .nil, by decide, by rfl, .nil, ?_⟩
  show _ ∨ (!w.params.followText "set-order") = true
  cases w.params.followText "set-order"
  · exact .inr rfl
  · exact .inl rfl
/-- sorted(it) -/
theorem call_sorted {Q : Value → Shared → Prop} (R : SetS w s.heap a l) (hh : A.handled = none) (h64 : l.length < 64)
    (hQ : ∀ s' p (out : Array Value) (c : Nat) (ys : List Str), (∀ b o, s.heap.get? b = some o → s'.heap.get? b = some o) → s'.gens = s.gens → s'.os = s.os → s.heap.objs.size ≤ p → s'.heap.get? p = some (seqObj "list" out c) → StrsAre out.toList ys → ys.Perm l → sortedS ys = true → Q (.ref p) s') :
    wpAny (model P w) A (call (.builtin "sorted") [.ref a]) Q E s := by
  obtain ⟨o, es, ep, t, ho, hx, hd, G, nd, hb, hf, hr, hl⟩ := R
  refine Calls.call_function_entry kind_sorted plain_sorted entry_sorted (args_sorted1 _) ?_
  unfold Builtin.«sorted»
  apply wpAny_bind (m := checkCount "sorted" 1 1 _)
  apply wpAny_pure
  apply wpAny_bind
  refine collect_set (A := A.in1) hh ⟨o, ho, hx.1, hd⟩ hf hb hr hl fun s1 vs k1 hz g1 o1 pm => ?_
  have hS : StrsAre vs (vs.map PyProof.Rows.strOf) := strsAre_map vs fun v hv => by
    obtain ⟨e, he, rfl⟩ := List.mem_map.mp (pm.mem_iff.mp hv)
    obtain ⟨x, u, e2, _⟩ := G.each e he
    exact ⟨x, u, e2⟩
  have pl : (vs.map PyProof.Rows.strOf).Perm l := by
    have q := pm.map PyProof.Rows.strOf
    rw [List.map_map] at q
    exact q.trans G.perm
  have hv : vs.length = l.length := by
    have := pl.length_eq
    rw [List.length_map] at this
    exact this
  apply wpAny_bind
  refine wpAny_newList ?_ (by rw [hv, sizeLine_eq]; omega)
  have hL : (s1.heap.push (seqObj "list" vs.toArray 0)).get? s1.heap.objs.size = some (seqObj "list" vs.toArray 0) := Heap.get?_push_size _ rfl
  apply wpAny_bind
  apply wpAny_holding
  refine wpAny_call_entry slot_list_sort ⟨_, hL, rfl⟩ entry_list_sort (list_sort_treeK strKind_oneLt hL hS.keysOf (fun v₁ v₂ rest e => keyKind_strs (by rw [← e]; exact hS)) (by rw [hv]; exact h64) fun st' hp hs => ⟨_, rfl, ?_⟩) (args_list_sort _)
  obtain ⟨ys, y1, y2, y3⟩ := sorted_out_str hS hp hs
  obtain ⟨c, hc⟩ := sortedHeap_at (vs := vs) (out := (arrOf st').map (·.2)) hL
  refine wpAny_pure ⟨_, rfl, hQ _ s1.heap.objs.size _ c ys (fun b u e => ?_) g1 o1 hz hc y1 (y2.trans pl) y3⟩
  have q := k1 b u e
  have lt := Heap.lt_size q
  show (sortedHeap (s1.heap.push (seqObj "list" vs.toArray 0)) s1.heap.objs.size vs _).get? b = some u
  rw [sortedHeap_old (Nat.ne_of_lt lt) (by rw [size_push']; exact Nat.lt_succ_of_lt lt)]
  exact Heap.get?_push_of_some _ q
end
end TX

/-! Sets of texts as things of the hand layer: a comprehension, sorted. -/
namespace TX
open PySem PySem.Spec PyProof.Rows L2
/-- the set of the texts l at a -/
def SetSO (w : World) (a : Addr) (l : List Str) : HO := .ext fun h => SetS w h a l
theorem so_new {w : World} {P : Program} {H : Hp} {h : Heap} {a : Addr} {l : List Str} (R : SetS w h a l) : ObjOk P w H h a (SetSO w a l) := by
  have ⟨o, _, _, _, ho, _⟩ := R
  exact ⟨R, ⟨o, ho⟩, fun h1 h2 p k => SetS.keep p k⟩
section
variable {X : Cx} {pins : List (Addr × Obj)} {σ : L2.St} {H : Hp} {s : Shared} {a : Addr} {l : List Str}
theorem so_get (I : Inv X pins σ H s) (ha : H a = some (SetSO X.w a l)) : SetS X.w s.heap a l := (I.hok a _ ha).1
theorem so_add {E : Value → Shared → Prop} {x : Str} {u : Tok} {Q : Value → Shared → Prop} (I : Inv X pins σ H s) (ha : H a = some (SetSO X.w a l)) (small : l.length + 1 < scanBound)
    (h : ∀ s', Inv X pins σ (upd H a (SetSO X.w a (put x l))) s' → Q .none s') : wpAny (model X.prog X.w) X.A (call (.builtin "set.add") [.ref a, .str x u]) Q E s := by
  refine call_add (so_get I ha) small fun h' sb new => ?_
  have there : ∃ o, h'.get? a = some o := by
    have ⟨o, _, _, _, ho, _⟩ := new
    exact ⟨o, ho⟩
  exact h _ (I.write (e := a) (t' := s.toks + 1) (by rw [ha]; trivial) (.inl rfl) (fun b o hb ho => (sb.2 b hb).trans ho) there (so_new new))
/-- sorted(a set of texts), fewer than 64 -/
def rSortedSS (w : World) : List V → Hp → VK → Prop := fun vs H Q => ∃ (a : Addr) (l : List Str), vs = [V.ref a] ∧ H a = some (SetSO w a l) ∧ l.length < 64 ∧ ∀ (ys : List Str) (p : Addr), ys.Perm l → sortedS ys = true → H p = none → Q (.ref p) (upd H p (.lst (ys.map V.str)))
theorem cr_sortedSS (hc : X.calm = true) : CallR X (.builtin "sorted") (rSortedSS X.w) := by
  intro pins s σ H vs us Q I r h
  obtain ⟨a, l, rfl, ha, h64, q⟩ := h
  rw [Vals.ref1 r]
  refine call_sorted (so_get I ha) (I.ok.hd hc) h64 fun s' p out c ys k g o hp hg hi hy hs => ?_
  have hlen : (ys.map V.str).length ≤ sizeLine := by
    rw [List.length_map, hy.length_eq, sizeLine_eq]
    omega
  have hn : H p = none := I.hok.fresh hp
  have J : Inv X pins σ (upd H p (.lst (ys.map V.str))) { s with heap := s'.heap, gens := s'.gens, drawn := s'.drawn, toks := s'.toks } :=
    I.call (ch := []) (Un.laid k hp hn) (I.hok.laid k hp ⟨hlen, out.toList, c, vals_of_strs hi, hg⟩) (by rw [g]; exact I.bare) (fun _ z => nomatch z)
  have e : s' = { s with heap := s'.heap, gens := s'.gens, drawn := s'.drawn, toks := s'.toks } := by
    cases s'
    cases s
    cases o
    rfl
  rw [e]
  exact ⟨.ref p, _, J, rfl, q ys p hy hs hn⟩
end
end TX

/-! {elt for target in iter if ..}, elt a text. -/
namespace TX
open PySem PySem.Spec PyProof.Rows L2 PpSet
/-- the element goes into the set at D -/
def Into (w : World) (D : Addr) (Nx : Hp → Prop) : VK := fun y H => ∃ (z : Str) (l : List Str), y = .str z ∧ H D = some (SetSO w D l) ∧ l.length + 1 < scanBound ∧ Nx (upd H D (SetSO w D (put z l)))
/-- one turn: target, tests, element -/
def Turn (w : World) (g : TG) (tt : TT) (te : TE) (vs : List Nat) (σ : L2.St) (D : Addr) (Nx : Hp → Prop) (x : V) (H : Hp) : Prop :=
  g x (wipe σ vs) H fun σ2 H2 => wipe σ2 vs = wipe σ vs ∧ tt σ2 H2 fun b H3 => if b = true then te σ2 H3 (Into w D Nx) else Nx H3
/-- the set comprehension's reading: W i m what holds before turn i, m falls -/
def tScS (w : World) (wi : TI) (g : TG) (tt : TT) (te : TE) (vs : List Nat) : TE := fun σ H Q => wi σ H fun J H1 => ∀ D, H1 D = none → ∃ W : Nat → Nat → Hp → Prop, (∃ m, W 0 m (upd H1 D (SetSO w D []))) ∧ ∀ i m H, W i m H →
  (J.stop i H ∧ Q (.ref D) H) ∨ (J.go i H ∧ ∃ Nx : Hp → Prop, (∀ H', Nx H' → ∃ m', m' < m ∧ W (i + 1) m' H') ∧ ∀ x H', J.yld i H x H' → Turn w g tt te vs σ D Nx x H')
section
variable {X : Cx}
theorem pe_scS {elt tg iter : Expr} {ifs : List Expr} {scope : Scope} {own : List (PySem.Str × Nat)} {pos : Pos} {wi : TI} {g : TG} {tt : TT} {te : TE} (hc : X.calm = true) (hN : X.N.Nodup) (hi : PI X tg iter wi) (ok : BlkOk X.N X.env.scope scope own)
    (hg : ∀ (s : Shared) (H : Hp) (C : Addr) (cl : List (PySem.Str × Addr)) (fp : List Addr), PG (X.blk s H scope (compEnvC scope cl C X.env) fp) tg g) (ht : ∀ (s : Shared) (H : Hp) (C : Addr) (cl : List (PySem.Str × Addr)) (fp : List Addr), PTs (X.blk s H scope (compEnvC scope cl C X.env) fp) ifs tt)
    (he : ∀ (s : Shared) (H : Hp) (C : Addr) (cl : List (PySem.Str × Addr)) (fp : List Addr), PE (X.blk s H scope (compEnvC scope cl C X.env) fp) elt te) (hs : ∀ x, foldedSetIterable iter X.env x = pure x := by intro _; rfl) :
    PE X (.SetComp elt [⟨tg, iter, ifs, 0⟩] scope pos) (tScS X.w wi g tt te (own.map (·.2))) := by
  refine ⟨fun pins s σ H Q I h => ?_⟩
  rw [eval_SetComp]
  have free : ∀ y ∈ scope.names, y.2 = .free → ∃ c, X.env.cells.lookup y.1 = some c := fun y hy e => (ok.free y hy e).elim (fun k => I.ok.has _ (.inl k)) (fun k => I.ok.has _ (.inr k))
  refine wpAny_comprehension_free rfl hs (closure_ok free) ok.kind (fun y hy e => by rw [ok.uniq y hy, e]) (thn (hi.run pins s σ H _ I h) fun xv s1 hx => thn hx fun itv s2 h2 => ?_)
  obtain ⟨it, fp, tn, J, H2, e, I2, T, st2, f2, q⟩ := h2
  subst e
  refine newSet_ok (newEnv_comp ?_)
  -- the new set is tracked
  obtain ⟨D, hD⟩ : ∃ D, s2.heap.objs.size = D := ⟨_, rfl⟩
  rw [hD]
  obtain ⟨W, ⟨m0, w0⟩, turn⟩ := q D (I2.hok.fresh (Nat.le_of_eq hD))
  obtain ⟨s3, hs3⟩ : ∃ s3 : Shared, ({ s2 with heap := s2.heap.push { cls := .type "set", dict := none, data := .set #[] 0 (.fresh 0 0 (!X.w.params.followText "set-order")) } } : Shared) = s3 := ⟨_, rfl⟩
  have h3 : s3.heap = s2.heap.push { cls := .type "set", dict := none, data := .set #[] 0 (.fresh 0 0 (!X.w.params.followText "set-order")) } := by rw [← hs3]
  obtain ⟨H3, hH3⟩ : ∃ H3, upd H2 D (SetSO X.w D []) = H3 := ⟨_, rfl⟩
  have I3 : Inv X pins σ H3 s3 := by
    rw [← hs3, ← hH3]
    refine I2.laid (t' := s2.toks) (fun b o e => Heap.get?_push_of_some _ e) (Nat.le_of_eq hD) ?_
    rw [← hD]
    exact so_new (fresh X.w)
  rw [hs3]
  rw [hH3] at w0
  -- what the iterator stands upon is not tracked
  have foot : ∀ b ∈ fp, FpOk X pins H3 b ∧ b < s3.heap.objs.size := fun b hb => by
    obtain ⟨o, e, _⟩ := T.obj _ _ st2 b hb
    have lt := Heap.lt_size e
    refine ⟨⟨?_, (f2 b hb).2⟩, ?_⟩
    · rw [← hH3, upd_ne (by rw [← hD]; exact Nat.ne_of_lt lt)]
      exact (f2 b hb).1
    · rw [h3, Heap.size_push]
      exact Nat.lt_succ_of_lt lt
  have st3 : tn 0 s3.heap := T.keep _ _ _ st2 fun b _ o e => by
    rw [h3]
    exact Heap.get?_push_of_some _ e
  have I4 := block_start I3 ok hN foot
  have pg := hg s3 H3 s3.heap.objs.size (cellsFrom (s3.heap.objs.size + 1) scope.names (cloFrom X.env.cells scope.names [])) fp
  have pt := ht s3 H3 s3.heap.objs.size (cellsFrom (s3.heap.objs.size + 1) scope.names (cloFrom X.env.cells scope.names [])) fp
  have pe := he s3 H3 s3.heap.objs.size (cellsFrom (s3.heap.objs.size + 1) scope.names (cloFrom X.env.cells scope.names [])) fp
  show codeAny _ _ (.compStart (.SetComp elt [⟨tg, iter, ifs, 0⟩] scope pos) 0 (.ref it) (.ref D) (compEnvC scope (cellsFrom (s3.heap.objs.size + 1) scope.names (cloFrom X.env.cells scope.names [])) s3.heap.objs.size X.env)) _ { s3 with heap := pushCells (s3.heap.push { cls := .type "dict", data := .dict #[] }) scope.names }
  have bare : ∀ b ∈ fp, H3 b = none := fun b hb => (foot b hb).1.1
  generalize hce : compEnvC scope (cellsFrom (s3.heap.objs.size + 1) scope.names (cloFrom X.env.cells scope.names [])) s3.heap.objs.size X.env = ce at I4 pg pt pe ⊢
  have cL : ce.locals = s3.heap.objs.size := by
    subst hce
    rfl
  generalize hs4 : ({ s3 with heap := pushCells (s3.heap.push { cls := .type "dict", data := .dict #[] }) scope.names } : Shared) = s4 at I4 ⊢
  have st4 : tn 0 s4.heap := T.keep _ _ _ st3 fun b _ o e => by
    rw [← hs4]
    exact pushCells_keeps _ _ _ _ (Heap.get?_push_of_some _ e)
  -- in the block as well
  have stat : ∀ {σ' : L2.St} {H' : Hp} {s' : Shared}, Inv (X.blk s3 H3 scope ce fp) [] σ' H' s' → (∀ b ∈ fp, H' b = none) → ∀ b ∈ fp, FpOk (X.blk s3 H3 scope ce fp) [] H' b := fun {σ' H' s'} I' hn b hb =>
    ⟨hn b hb, (I'.ok.exf b hb).1, I'.ok.exfs b hb, .inl hb, fun x c e => (I'.ok.exf b hb).2 x c e, fun p hp => absurd (show p ∈ ([] : List (Addr × Obj)) ++ [] from hp) (by simp)⟩
  refine (fun (loop : codeAny (model X.prog X.w) X.A (.compLoop (.SetComp elt [⟨tg, iter, ifs, 0⟩] scope pos) 0 (.ref it) (.ref D) ce) _ s4) => codeAny_compStart_set loop (T.self X.A 0 _ _ _ st4 loop)) ?_
  refine compLoopS_any (fun n s' => ∃ i H', Inv (X.blk s3 H3 scope ce fp) [] (wipe σ (own.map (·.2))) H' s' ∧ tn i s'.heap ∧ (∀ b ∈ fp, H' b = none) ∧ W i n H') ?_ m0 ⟨0, H3, I4, st4, bare, w0⟩
  rintro n s5 ⟨i, H5, I5, st5, n5, w5⟩
  rcases turn i n H5 w5 with ⟨stop, fin⟩ | ⟨go, Nx, hNx, step⟩
  · refine thnF (T.done (X.blk s3 H3 scope ce fp) rfl rfl rfl hc i [] s5 _ H5 (fun _ _ => False) I5 (stat I5 n5) st5 stop) fun r s6 ⟨hr, I6⟩ => ?_
    subst hr
    have I7 : Inv X pins σ H5 s6 := I3.call' (ch := fp) I6.os I6.base I6.hok I6.bare fun b hb => ⟨(foot b hb).1.2.2.2.1, (foot b hb).1.2.1, (foot b hb).1.2.2.2.2.1, (foot b hb).1.2.2.2.2.2⟩
    have gone : H5 s3.heap.objs.size = none := by
      have z : H5 ce.locals = none := I6.free
      rw [cL] at z
      exact z
    obtain ⟨m, hn, _⟩ := I6.loc
    have hn : s6.heap.Ns ce.locals m := hn
    rw [cL] at hn
    refine ⟨m, hn, fun h'' sb => ?_⟩
    obtain ⟨f0, f1, f2', f3, f4, f5⟩ := I3.fpOk (Nat.le_refl _) gone
    exact ⟨.ref D, H5, I7.turned (t' := s6.toks) (fun b o hb e => (sb.2 b hb).trans e) f0 f1 f3 f4 f5, rfl, fin⟩
  · refine thnF (T.item (X.blk s3 H3 scope ce fp) rfl rfl rfl hc i [] s5 _ H5 (fun _ _ => False) I5 (stat I5 n5) st5 go) fun r s6 ⟨u, hr, h6⟩ => ?_
    subst hr
    refine thnF h6 fun _ s7 ⟨x, H7, I7, r7, y7, st7, n7⟩ => ?_
    have I7' := I7.pinned (stat I7 n7) (T.obj _ _ st7)
    refine thnF (pg.run _ s7 _ H7 x u _ I7' r7 (step x H7 y7)) fun _ s8 ⟨σ8, H8, I8, hw8, q8⟩ => ?_
    refine thnF (pt.run _ s8 σ8 H8 _ I8 q8) fun b s9 ⟨H9, I9, q9⟩ => ?_
    have next : ∀ {s' : Shared} {H' : Hp}, Inv (X.blk s3 H3 scope ce fp) ([] ++ pinsAt fp s7.heap) σ8 H' s' → Nx H' → ∃ m, m < n ∧ ∃ i H', Inv (X.blk s3 H3 scope ce fp) [] (wipe σ (own.map (·.2))) H' s' ∧ tn i s'.heap ∧ (∀ b ∈ fp, H' b = none) ∧ W i m H' := fun {s' H'} I' nx => by
      obtain ⟨m', hm, w'⟩ := hNx H' nx
      have pinned : ∀ b ∈ fp, ∀ o, s7.heap.get? b = some o → s'.heap.get? b = some o ∧ H' b = none := fun b hb o e => by
        have z := I'.pin (b, o) (List.mem_append_right _ (List.mem_append_right _ (mem_pinsAt hb e)))
        exact ⟨z.1, z.2.1⟩
      have len : (wipe σ (own.map (·.2))).length = σ8.length := by rw [← hw8, wipe_length]
      refine ⟨m', hm, i + 1, H', (I'.unpinned (pins := [])).weak len (fun j v e => ?_), T.keep _ _ _ st7 fun b hb o e => (pinned b hb o e).1, fun b hb => ?_, w'⟩
      · rw [← hw8] at e
        exact (wipe_some e).1
      · obtain ⟨o, e, _⟩ := T.obj _ _ st7 b hb
        exact (pinned b hb o e).2
    cases b with
    | false =>
      simp only [Bool.false_eq_true, if_false] at q9 ⊢
      exact next I9 q9
    | true =>
      simp only [if_true] at q9 ⊢
      refine thnF (pe.run _ s9 σ8 H9 _ I9 q9) fun z s10 ⟨yv, H10, I10, r10, zt, l0, ey, hD10, hz10, nx⟩ => ?_
      subst ey
      obtain ⟨tk, rfl⟩ : ∃ tk, z = Value.str zt tk := r10
      exact so_add (X := X.blk s3 H3 scope ce fp) I10 hD10 hz10 fun s11 I11 => next I11 nx
end
end TX

namespace L17
open PySem PySem.Spec PyProof.Rows L2 GR AD RZ WX ZE TX
/-! ### free keys -/
abbrev W1 : List Str := ["free"]
def kidsF : PyData → List PyData
  | .tuple (.str w :: r) => (match look w with | some fs => pick W1 fs r | none => [])
  | _ => []
def isKey : PyData → Bool
  | .tuple (.str w :: _) => decide (w = "key")
  | _ => false
theorem pick_sub : ∀ (fs : List Str) (ds : List PyData), (pick W1 fs ds).Sublist (pick W2 fs ds)
  | [], _ => by simp only [pick]; exact List.Sublist.refl _
  | _ :: _, [] => by simp only [pick]; exact List.Sublist.refl _
  | f :: fs, d :: ds => by
    have ih := pick_sub fs ds
    rw [pick, pick]
    refine List.Sublist.append ?_ ih
    by_cases e : f = "extra"
    · rw [if_pos e, if_pos e]
      exact List.Sublist.refl _
    · rw [if_neg e, if_neg e]
      by_cases e2 : f ∈ W1
      · rw [if_pos e2, if_pos (by simp only [W1, W2, List.mem_cons, List.not_mem_nil, or_false] at e2 ⊢; exact .inl e2)]
        exact List.Sublist.refl _
      · rw [if_neg e2]
        exact List.nil_sublist _
theorem kidsF_sub (x : PyData) : (kidsF x).Sublist (kidsE x) := by
  unfold kidsF
  split
  · rename_i w r
    show (match look w with | some fs => pick W1 fs r | none => []).Sublist (match look w with | some fs => pick W2 fs r | none => [])
    cases look w with
    | none => exact List.Sublist.refl _
    | some fs => exact pick_sub fs r
  · exact List.nil_sublist _
theorem szs_sub {a b : List PyData} (h : a.Sublist b) : szs a ≤ szs b := by
  induction h with
  | slnil => exact Nat.le_refl _
  | cons x _ ih => rw [szs]; omega
  | cons_cons x _ ih => rw [szs, szs]; omega
theorem kidsF_sz (d : PyData) : szs (kidsF d) < sz d := Nat.lt_of_le_of_lt (szs_sub (kidsF_sub d)) (kidsE_sz d)
def keyE : Nat → PyData → Bool
  | 0, _ => false
  | n + 1, d => isKey d || (kidsF d).any (keyE n)
theorem any_cong {α : Type} {f g : α → Bool} : ∀ {l : List α}, (∀ x, x ∈ l → f x = g x) → l.any f = l.any g
  | [], _ => rfl
  | x :: l, h => by rw [List.any_cons, List.any_cons, h x List.mem_cons_self, any_cong fun y hy => h y (List.mem_cons_of_mem _ hy)]
theorem keyE_same : ∀ {n m : Nat} {d : PyData}, sz d ≤ n → sz d ≤ m → keyE n d = keyE m d
  | 0, _, d, h, _ => by have := sz_pos d; omega
  | _ + 1, 0, d, _, h => by have := sz_pos d; omega
  | n + 1, m + 1, d, h1, h2 => by
    have hk := kidsF_sz d
    rw [keyE, keyE]
    congr 1
    exact any_cong fun y hy => by
      have := sz_mem hy
      exact keyE_same (by omega) (by omega)
def keyX (d : PyData) : Bool := keyE (sz d) d
theorem keyX_step (d : PyData) : keyX d = (isKey d || (kidsF d).any keyX) := by
  have hp := sz_pos d
  have hk := kidsF_sz d
  unfold keyX
  obtain ⟨n, hn⟩ : ∃ n, sz d = n + 1 := ⟨sz d - 1, by omega⟩
  rw [hn, keyE]
  congr 1
  exact any_cong fun y hy => by
    have := sz_mem hy
    exact keyE_same (by omega) (Nat.le_refl _)
theorem dpAll_split {K : PySem.W.Frag} {H : Hp} : ∀ {a b : List V} {ds : List PyData}, DpAll K H (a ++ b) ds → ∃ d1 d2, ds = d1 ++ d2 ∧ DpAll K H a d1 ∧ DpAll K H b d2
  | [], b, ds, h => ⟨[], ds, rfl, .nil, h⟩
  | v :: a, b, _, .cons h t => by
    obtain ⟨d1, d2, rfl, h1, h2⟩ := dpAll_split t
    exact ⟨_ :: d1, d2, rfl, .cons h h1, h2⟩
theorem dpAll_last {K : PySem.W.Frag} {H : Hp} {us : List V} {xs : List PyData} (h : DpAll K H us xs) (hne : us ≠ []) : ∃ y d xs', xs = xs' ++ [d] ∧ us[us.length - 1]? = some y ∧ DpAll K H us.dropLast xs' ∧ Dp K H y d := by
  have e := List.dropLast_concat_getLast hne
  rw [← e] at h
  obtain ⟨d1, d2, rfl, g1, g2⟩ := dpAll_split h
  cases g2 with
  | cons g3 g4 =>
  cases g4
  refine ⟨us.getLast hne, _, d1, rfl, ?_, g1, g3⟩
  rw [← List.getLast?_eq_getElem?, List.getLast?_eq_getLast hne]
section
variable {P : Program} {w : World} {K : PySem.W.Frag} {mg : Str → Option Value} {base : Heap}
abbrev s_contained_free : Stmt := topS 18
theorem sc_contained_free : FnScope ["expression"] ["expression"] (defScope s_contained_free) := ⟨rfl, rfl, rfl, by decide +kernel, rfl, by decide +kernel, by decide +kernel⟩
def sp_cf (K : PySem.W.Frag) : Sp := fun vs H Q _ => ∃ (v : V) (x : PyData), vs = [v] ∧ Dp K H v x ∧ Xp x ∧ ∀ H' p us, Same H H' → H p = none → H' p = some (.lst us) → DpAll K H' us (kidsF x) → Q (.ref p) H'
theorem ok_contained_free {f fc : Addr} {fd fdc : FuncData} {k : Nat} (F : Fun K "contained_free" "contained_free" s_contained_free f fd) (Gc : FnOk P w K mg base CX0 k fc fdc ["expression", "wanted"] (sp_contained_of K)) (gc : mg "contained_of" = some (.ref fc)) (Kc : PySem.W.keepIn K (.ref fc) = true) (bc : Binds K fdc ["expression", "wanted"] []) :
    FnOk P w K mg base CX0 (k + 1) f fd ["expression"] (sp_cf K) := by
  have nd := sc_contained_free.nd
  refine F.ok sc_contained_free (fun vs H Q E h => ?_) (fun cdv A outer s H vs Q E hr h => ?_)
  · obtain ⟨v, x, rfl, _⟩ := h
    rfl
  obtain ⟨v, x, rfl, hd, hx, q⟩ := h
  refine ⟨_, (pss_one (ps_ret (pe_call Gc hr (by rfl) gc Kc bc .nil pass0 (pa_cons (pv 0) (pa_cons (pe_tup (pa_cons pe_str pa_nil)) pa_nil))))), ?_⟩
  have hfl := isX_flat hx.x
  have hz := hx.sz
  have hkz := kidsF_sz x
  have hkl := szs_len (kidsF x)
  have hkx : ∀ y, y ∈ kidsF x → isX y = true := fun y hy => isX_kids hx.x y ((kidsF_sub x).subset hy)
  obtain ⟨_, _, wd, fs, rest, rfl, lk, hfit, _⟩ := kids_sz x (isX_form hx.x)
  have hk : kidsF (.tuple (.str wd :: rest)) = pick W1 fs rest := by
    show (match look wd with | some fs => pick W1 fs rest | none => []) = _
    rw [lk]
  cases hd with
  | tup hS hA =>
  rename_i a vs
  refine ⟨.ref a, rfl, Nat.le_trans (show 1 ≤ 2 by decide) le2, fun t nt => ?_⟩
  have st := same_upd (o := .tup [.str "free"]) nt
  refine ⟨a, t, wd, fs, W1, rest, F0, rfl, dd_of _ _ hfl (dp_keep (KeepT.of st) _ _ hfl (.tup hS hA)), look_some lk, fits_of hfit, ?_, .inl (.inl upd_same), fun H' p us s1 np hp hu => ?_⟩
  · rw [← hk]
    omega
  · rw [← hk] at hu
    exact q H' p us (st.trans s1) (st.free np) hp (dp_ofs _ _ (isXs_flat hkx) hu)
abbrev s_has_free_key : Stmt := topS 25
theorem sc_has_free_key : FnScope ["expression", "todo", "part"] ["expression"] (defScope s_has_free_key) := ⟨rfl, rfl, rfl, by decide +kernel, rfl, by decide +kernel, by decide +kernel⟩
/-- what is still to do: the list at td -/
def FInv (K : PySem.W.Frag) (x : PyData) (v : V) (td : Addr) (H0 : Hp) (m : Nat) (σ : L2.St) (H : Hp) : Prop :=
  ∃ (z : Option V) (us : List V) (xs : List PyData), σ = [some v, some (.ref td), z] ∧ H td = some (.lst us) ∧ DpAll K H us xs ∧ (∀ y, y ∈ xs → Xp y) ∧ m = szs xs ∧ m ≤ 4000000 ∧ keyX x = xs.any keyX ∧ (∀ b o, b ≠ td → H0 b = some o → H b = some o)
theorem ok_has_free_key {f fc : Addr} {fd fdc : FuncData} {k : Nat} (F : Fun K "has_free_key" "has_free_key" s_has_free_key f fd) (Gc : FnOk P w K mg base CX0 k fc fdc ["expression"] (sp_cf K)) (gc : mg "contained_free" = some (.ref fc)) (Kc : PySem.W.keepIn K (.ref fc) = true) (bc : Binds K fdc ["expression"] []) :
    FnOk P w K mg base CX0 (k + 1) f fd ["expression"] (sp_tx K keyX) := by
  have nd := sc_has_free_key.nd
  refine F.ok sc_has_free_key (fun vs H Q E h => ?_) (fun cdv A outer s H vs Q E hr h => ?_)
  · obtain ⟨v, x, rfl, _⟩ := h
    rfl
  obtain ⟨v, x, rfl, hd, hx, q⟩ := h
  refine ⟨_, (pss_cons (ps_set (i := 1) nd rfl (.inl rfl) (pe_lst (pa_cons (pv 0) pa_nil)))
      (pss_cons (ps_while PassesOwn.never (pt_truth (pv 1) (fun _ => rfl))
      (pss_cons (ps_set (i := 2) nd rfl (.inl rfl) (pe_bm0 PySem.F.plainAttrs_list PySem.F.slot_list_pop PySem.F.type_list_pop mt_pop (pv 1)))
        (pss_cons (ps_if (pt_cmpR op_eq (pe_ix ix_tup (pv 2) pe_int (fun _ _ => rfl)) pe_str (nomark _))
        (pss_one (ps_ret pe_bl))
        pss_nil)
        (pss_one (ps_expr (pe_bm PySem.F.plainAttrs_list PySem.F.slot_list_extend PySem.F.type_list_extend mt_extend (pv 1) (pa_cons (pe_call Gc hr (by rfl) gc Kc bc .nil pass0 (pa_cons (pv 2) pa_nil)) pa_nil)))))))
      (pss_one (ps_ret pe_bl)))), ?_⟩
  refine ⟨v, rfl, small_le (show 1 ≤ 1000 by decide), fun td ntd => ?_⟩
  have sl0 := same_upd (o := .lst [v]) ntd
  have hsz : szs [x] ≤ 4000000 := by
    have := hx.sz
    rw [szs, szs]
    omega
  refine ⟨FInv K x v td H, ⟨szs [x], none, [v], [x], rfl, upd_same, .cons (dp_keep (KeepT.of sl0) _ _ (isX_flat hx.x) hd) .nil, ?_, rfl, hsz, ?_, fun b o _ e => sl0 _ _ e⟩, ?_⟩
  · intro y hy
    rw [List.mem_singleton.mp hy]
    exact hx
  · rw [List.any_cons, List.any_nil, Bool.or_false]
  · rintro m σ H' ⟨z, us, xs, rfl, hu, hA, hE, rfl, hm, hf, kk⟩
    have lu := dpAll_len hA
    have fin : ∀ H2, (∀ b o, b ≠ td → H' b = some o → H2 b = some o) → Same H H2 := fun H2 s2 b o e => s2 _ _ (ne_of_none e ntd) (kk _ _ (ne_of_none e ntd) e)
    refine ⟨.ref td, rfl, !us.isEmpty, .inl ⟨us, .inl (.inl hu), rfl⟩, ?_⟩
    cases hus : us with
    | nil =>
      subst hus
      cases hA
      rw [List.any_nil] at hf
      refine iteF ?_
      have := q H' (fin H' fun b o _ e => e)
      rw [hf] at this
      exact this
    | cons u0 ur =>
      have hne : us ≠ [] := by
        rw [hus]
        exact List.cons_ne_nil _ _
      rw [← hus]
      have full : (!us.isEmpty) = true := by
        rw [hus]
        rfl
      rw [full]
      obtain ⟨y, d, xs', rfl, hy, hA', hyd⟩ := dpAll_last hA hne
      have ed := hE d (List.mem_append_right _ (List.mem_singleton.mpr rfl))
      have hE' : ∀ y, y ∈ xs' → Xp y := fun y hy => hE y (List.mem_append_left _ hy)
      have fx' : flatDs xs' = true := isXs_flat fun y hy => (hE' y hy).x
      have hse : szs (xs' ++ [d]) = szs xs' + sz d := by rw [szs_append, szs, szs]; omega
      rw [hse] at hm
      have hkz := kidsF_sz d
      have hkl := szs_len (kidsF d)
      have hxl := szs_len xs'
      have hkp : ∀ y, y ∈ kidsF d → Xp y := fun y hy => ed.kids y ((kidsF_sub d).subset hy)
      rw [List.any_append, List.any_cons, List.any_nil, Bool.or_false, keyX_step d] at hf
      refine iteT ⟨fun σ' H'' => ∃ m', m' < szs (xs' ++ [d]) ∧ FInv K x v td H m' σ' H'', fun σ' H'' h => h, ?_⟩
      refine ⟨.ref td, rfl, .inl ⟨rfl, _, .inl (.inl hu)⟩, td, us, y, rfl, rfl, hu, hy, ?_⟩
      have k1 : KeepT H' (upd H' td (.lst us.dropLast)) := KeepT.lst hu
      have hu1 : upd H' td (.lst us.dropLast) td = some (.lst us.dropLast) := upd_same
      have keep1 : ∀ b o, b ≠ td → H' b = some o → upd H' td (.lst us.dropLast) b = some o := fun b o hb e => by
        rw [upd_ne hb]
        exact e
      have hA1 := dp_keepAll k1 _ _ fx' hA'
      have hyd1 := dp_keep k1 _ _ (isX_flat ed.x) hyd
      revert k1 hu1 keep1 hA1 hyd1
      generalize upd H' td (.lst us.dropLast) = H1
      intro k1 hu1 keep1 hA1 hyd1
      obtain ⟨wd, r, rfl⟩ := isX_head ed.x
      have hyd2 := hyd1
      cases hyd2 with
      | tup hS hB =>
      cases hB with
      | cons hw hB =>
      cases hw
      rename_i a vs
      have hik : isKey (.tuple (.str wd :: r)) = decide (wd = "key") := rfl
      rw [hik] at hf
      refine ⟨.ref a, rfl, a, _, 0, .str wd, rfl, rfl, hS, at0, rfl, _, rfl, ite2 (fun e1 => ?_) (fun e1 => ?_)⟩
      · have e1 : wd = "key" := by simpa using e1
        have := q H1 (fin H1 keep1)
        rw [hf, decide_eq_true e1, Bool.true_or, Bool.or_true] at this
        exact this
      · have e1 : wd ≠ "key" := fun z => e1 (by simpa using z)
        rw [decide_eq_false e1, Bool.false_or, ← List.any_append] at hf
        refine ⟨.ref td, rfl, .inl ⟨rfl, _, .inl (.inl hu1)⟩, .ref a, rfl, .ref a, _, rfl, hyd1, ed, fun H2 p us2 s2 np hp hu2 => ?_⟩
        have htd2 := s2 _ _ hu1
        have l1 := dpAll_len hA1
        have l2 := dpAll_len hu2
        have k2 : KeepT H2 (upd H2 td (.lst (us.dropLast ++ us2))) := KeepT.lst htd2
        refine ⟨td, p, us.dropLast, us2, rfl, rfl, htd2, hp, ?_, szs (xs' ++ kidsF (.tuple (.str wd :: r))), ?_, some (.ref a), us.dropLast ++ us2, xs' ++ kidsF (.tuple (.str wd :: r)), rfl, upd_same, ?_, ?_, rfl, ?_, hf, fun b o hb e => ?_⟩
        · rw [l1, l2, sizeLine_eq]
          omega
        · rw [szs_append, hse]
          omega
        · exact dpAll_append (dp_keepAll ((KeepT.of s2).trans k2) _ _ fx' hA1) (dp_keepAll k2 _ _ (isXs_flat fun y hy => (hkp y hy).x) hu2)
        · intro y hy
          rcases List.mem_append.mp hy with hy | hy
          · exact hE' y hy
          · exact hkp y hy
        · rw [szs_append]
          omega
        · rw [upd_ne hb]
          exact s2 _ _ (keep1 _ _ hb (kk _ _ hb e))
/-! ### variables -/
def varName : PyData → Option Str
  | .tuple (.str w :: .str z :: _) => if w = "var" then some z else none
  | _ => none
/-- what is true of each variable -/
def varQ (q : Str → Bool) (d : PyData) : Bool := match varName d with
  | some z => q z
  | none => true
theorem varName_no {w : Str} {r : List PyData} (h : w ≠ "var") : varName (.tuple (.str w :: r)) = none := by
  cases r with
  | nil => rfl
  | cons a r => cases a <;> first | rfl | exact if_neg h
theorem isX_var {r : List PyData} (h : isX (.tuple (.str "var" :: r)) = true) : ∃ z, r = [.str z] ∧ isN (.str z) = true := by
  have hf := isX_form h
  rw [form_some (show look "var" = some (["name"] : List Str) by decide)] at hf
  match r, hf with
  | [a], hf =>
    have hf' : (fitsD "name" a && true) = true := hf
    rw [Bool.and_true] at hf'
    have h1 : isN a = true := hf'
    cases a with
    | str z => exact ⟨z, rfl, h1⟩
    | _ => cases h1
  | [], hf => cases hf
  | _ :: _ :: _, hf => simp [fitsAll] at hf
theorem nodup_le : ∀ {l m : List Str}, l.Nodup → (∀ z, z ∈ l → z ∈ m) → l.length ≤ m.length
  | [], _, _, _ => Nat.zero_le _
  | a :: l, m, h, s => by
    obtain ⟨h1, h2⟩ := List.nodup_cons.mp h
    have ha := s a List.mem_cons_self
    have := nodup_le (m := m.erase a) h2 fun z hz => by
      have hne : z ≠ a := fun e => h1 (e ▸ hz)
      exact (List.mem_erase_of_ne hne).mpr (s z (List.mem_cons_of_mem _ hz))
    rw [List.length_erase_of_mem ha] at this
    have pos : 0 < m.length := List.length_pos_of_mem ha
    rw [List.length_cons]
    omega
theorem all_varQ (q : Str → Bool) : ∀ l : List PyData, l.all (varQ q) = (l.filterMap varName).all q
  | [] => rfl
  | x :: l => by
    rw [List.all_cons, List.filterMap_cons, all_varQ q l]
    unfold varQ
    cases varName x <;> rfl
abbrev s_variables_of : Stmt := topS 27
abbrev N_vars : List Str := ["expression", "part"]
theorem sc_variables_of : FnScope N_vars ["expression"] (defScope s_variables_of) := ⟨rfl, rfl, rfl, by decide +kernel, rfl, by decide +kernel, by decide +kernel⟩
def sp_vs (K : PySem.W.Frag) : Sp := fun vs H Q _ => ∃ (v : V) (x : PyData) (S : List Str), vs = [v] ∧ Dp K H v x ∧ Xp x ∧ S.length ≤ 60 ∧ allX (varQ fun z => decide (z ∈ S)) x = true ∧
  ∀ (H' : Hp) (p : Addr) (ys : List Str), Same H H' → H p = none → H' p = some (.tup (ys.map V.str)) → ys.length ≤ 60 → (∀ q, ys.all q = allX (varQ q) x) → Q (.ref p) H'
theorem ok_variables_of {f fc : Addr} {fd fdc : FuncData} {k : Nat} (F : Fun K "variables_of" "variables_of" s_variables_of f fd) (Gc : FnOk P w K mg base CX0 k fc fdc ["expression"] (sp_ap K)) (gc : mg "all_parts" = some (.ref fc)) (Kc : PySem.W.keepIn K (.ref fc) = true) (bc : Binds K fdc ["expression"] [])
    (msorted : mg "sorted" = none) (mtuple : mg "tuple" = none) : FnOk P w K mg base CX0 (k + 1) f fd ["expression"] (sp_vs K) := by
  have nd := sc_variables_of.nd
  refine F.ok sc_variables_of (fun vs H Q E h => ?_) (fun cdv A outer s H vs Q E hr h => ?_)
  · obtain ⟨v, x, S, rfl, _⟩ := h
    rfl
  obtain ⟨v, x, S, rfl, hd, hxp, hS60, hSx, q⟩ := h
  refine ⟨_, (pss_one (ps_ret (pe_callTy call_tuple_of (by rfl) mtuple boot_tuple (pa_cons (pe_callB (cr_sortedSS rfl) (by rfl) msorted boot_sorted (pa_cons (pe_scS (own := [("part", 1)]) rfl nd (pi_list (pe_call Gc hr (by rfl) gc Kc bc .nil pass0 (pa_cons (pv 0) pa_nil))) (blkOk_by (N := N_vars) (sc := defScope s_variables_of) (by decide +kernel))
      (fun _ _ _ _ _ => (pg_name (i := 1) nd rfl (Or.inl rfl)))
      (tt := tTest (tOp rEq (tOp (rIxT K) (tVar 1) (tC (.int 0))) (tC (.str "var")))) (fun _ _ _ _ _ => pts_one (pt_cmpR op_eq (pe_ix ix_tup (pv 1) pe_int (fun _ _ => rfl)) pe_str (nomark _)))
      (te := tOp (rIxT K) (tVar 1) (tC (.int 1))) (fun _ _ _ _ _ => (pe_ix ix_tup (pv 1) pe_int (fun _ _ => rfl)))) pa_nil)) pa_nil)))), ?_⟩
  refine ⟨v, rfl, v, x, rfl, hd, hxp.x, hxp.sz, fun H1 p us xs s1 np hp hu hE hq hl => ⟨p, rfl, ⟨us, .inl (.inl hp)⟩, fun D nD => ?_⟩⟩
  have lu := dpAll_len hu
  have hvz : ∀ z, z ∈ xs.filterMap varName → z ∈ S := fun z hz => by
    have h1 := (hq (varQ fun z => decide (z ∈ S))).trans hSx
    rw [all_varQ, List.all_eq_true] at h1
    exact of_decide_eq_true (h1 z hz)
  refine walk_body (xs := us) (fun i H' => ∃ l, H' D = some (SetSO w D l) ∧ l.Nodup ∧ (∀ z, z ∈ l ↔ z ∈ (xs.take i).filterMap varName) ∧ Same H1 H') ?_ ?_ ?_ ?_
  · refine ⟨[], upd_same, .nil, fun z => ?_, same_upd nD⟩
    rw [List.take_zero]
    exact Iff.rfl
  · rintro i H' _ ⟨l, hl, hn, hm, kk⟩
    exact .inl (.inl (kk _ _ hp))
  · rintro i y H' hy ⟨l, hl, hn, hm, kk⟩
    obtain ⟨d, hdi, hyd⟩ := dpAll_at hu hy
    have ex := hE d (List.mem_of_getElem? hdi)
    have hyd2 := dp_keep (KeepT.of kk) _ _ (isX_flat ex) hyd
    have vt : (xs.take (i + 1)).filterMap varName = (xs.take i).filterMap varName ++ (varName d).toList := by
      rw [take_at hdi, List.filterMap_append, List.filterMap_cons]
      cases varName d <;> rfl
    obtain ⟨wd, rest, rfl⟩ := isX_head ex
    cases hyd2 with
    | tup hS hA =>
    cases hA with
    | cons hw hA =>
    cases hw
    rename_i a vs
    refine ⟨rfl, .ref a, rfl, a, _, 0, .str wd, rfl, rfl, hS, at0, rfl, _, rfl, ite2 (fun e1 => ?_) (fun e1 => ?_)⟩
    · have e1 : wd = "var" := by simpa using e1
      subst e1
      obtain ⟨z, rfl, hzz⟩ := isX_var ex
      cases hA with
      | cons hw hA =>
      cases hw
      refine ⟨.ref a, rfl, a, _, 1, .str z, rfl, rfl, hS, at1, z, l, rfl, hl, ?_, put z l, upd_same, put_nodup hn, fun z' => ?_, fun b o e => ?_⟩
      · have := nodup_le (m := S) hn fun z' hz' => hvz z' (by
          have h1 := (hm z').mp hz'
          obtain ⟨y, hy, e⟩ := List.mem_filterMap.mp h1
          exact List.mem_filterMap.mpr ⟨y, List.mem_of_mem_take hy, e⟩)
        show _ < 4096
        omega
      · rw [mem_put, vt, List.mem_append, hm z']
        have : (varName (.tuple [.str "var", .str z])).toList = [z] := by
          unfold varName
          simp
        rw [this, List.mem_singleton]
        exact Or.comm
      · rw [upd_ne (ne_of_none e nD)]
        exact kk _ _ e
    · have e1 : wd ≠ "var" := fun z => e1 (by simpa using z)
      refine ⟨l, hl, hn, fun z => ?_, kk⟩
      rw [vt, varName_no e1, hm z]
      simp
  · rintro H' ⟨l, hl, hn, hm, kk⟩
    rw [lu, List.take_length] at hm
    have h6 := nodup_le (m := S) hn fun z' hz' => hvz z' ((hm z').mp hz')
    refine ⟨D, l, rfl, hl, by omega, fun ys r hperm hsrt nr => ?_⟩
    have sr := same_upd (o := .lst (ys.map V.str)) nr
    refine ⟨r, ys.map V.str, rfl, .inl ⟨.inl (.inl upd_same), fun t nt => ?_⟩⟩
    have st := same_upd (o := .tup (ys.map V.str)) nt
    refine q _ t ys (s1.trans (kk.trans (sr.trans st))) ((s1.trans (kk.trans sr)).free nt) upd_same (by rw [hperm.length_eq]; omega) fun p => ?_
    rw [← hq (varQ p), all_varQ, Bool.eq_iff_iff, List.all_eq_true, List.all_eq_true]
    exact ⟨fun g z hz => g z (hperm.mem_iff.mpr ((hm z).mpr hz)), fun g z hz => g z ((hm z).mp (hperm.mem_iff.mp hz))⟩
end
end L17

/-! Words that the hand layer lacks: a dict made and walked at once, a dict that takes another's entries. -/
namespace L17
open PySem PySem.Spec PyProof.Rows L2 GR AD RZ WX ZE TX
/-- what an expression gives is locked from here on -/
def tFrz (t : TE) : TE := fun σ H Q => t σ H fun v H1 => ∃ (d : Addr) (u : HO), v = .ref d ∧ H1 d = some u ∧ Mut (some u) ∧ ∀ od, Q (.ref d) (upd H1 d (.frz od u))
def mergeD (kvs more : List (Key × V)) : List (Key × V) := more.foldl (fun acc kv => putK acc kv.1 kv.2) kvs
theorem kv_merge : ∀ {more : List (Key × V)} {ms : List (Key × Value)} {kvs : List (Key × V)} {vs : List (Key × Value)}, KV kvs vs → KV more ms → KV (mergeD kvs more) (merged vs ms)
  | [], _, kvs, vs, h, g => by
    cases g
    exact h
  | kv :: more, _, kvs, vs, h, g => by
    cases g with
    | @cons p q ps qs g1 g2 =>
    have e : q.1 = kv.1 := g1.1.symm
    have := kv_merge (KV.put h kv.1 g1.2) g2
    rw [← e] at this
    unfold mergeD merged
    rw [List.foldl_cons, List.foldl_cons, ← e]
    exact this
theorem mergeK_le : ∀ {more kvs : List (Key × V)}, (mergeD kvs more).length ≤ kvs.length + more.length
  | [], kvs => Nat.le_refl _
  | kv :: more, kvs => by
    have := mergeK_le (more := more) (kvs := putK kvs kv.1 kv.2)
    have h2 := length_putK kvs kv.1 kv.2
    unfold mergeD at this ⊢
    rw [List.foldl_cons, List.length_cons]
    omega
def rDUpd : V → List V → Hp → VK → Prop := fun x vs H Q => ∃ (d e : Addr) (kvs more : List (Key × V)), x = .ref d ∧ vs = [.ref e] ∧ d ≠ e ∧ H d = some (.dK kvs) ∧ H e = some (.dK more) ∧ kvs.length + more.length ≤ sizeLine ∧ Q .non (upd H d (.dK (mergeD kvs more)))
section
variable {X : L2.Cx}
theorem pe_frz {e : Expr} {t : TE} (h : PE X e t) : PE X e (tFrz t) := by
  refine ⟨fun pins s σ H Q I hw => ?_⟩
  refine thn (h.run pins s σ _ _ I hw) fun v s1 ⟨x, H1, I1, r, d, u, ex, hd, mu, q⟩ => ?_
  subst ex
  obtain ⟨od, I2⟩ := I1.lock hd mu
  exact ⟨.ref d, _, I2, r, q od⟩
theorem mt_dupd : MtR X "dict.update" rDUpd := by
  intro pins s σ H x vs v us Q I rx rv h
  obtain ⟨d, e, kvs, more, rfl, rfl, hne, hd, he, hz, q⟩ := h
  cases rx
  obtain ⟨u, rfl, ru⟩ := rv.one
  cases ru
  obtain ⟨z1, hd1, vs1, rel1, dd1⟩ := dk_rd I.hok (.inl hd)
  obtain ⟨z2, hd2, vs2, rel2, dd2⟩ := dk_rd I.hok (.inl he)
  have l1 := rel1.length
  have l2 := rel2.length
  refine call_meetsIn PySem.F.slot_dict_update dd1.typeIs PySem.F.entry_dict_update (PySem.F.args_dict_update_2 _ _) (meets_dict_update (mixKind X.prog X.w) d e hne hd2)
    ⟨vs1, vs2, dd1, dd2, by omega, fun h' dd' _ hs => ⟨.non, _, ?_, rfl, q⟩⟩
  have hx : ∃ q, h'.get? d = some q := let ⟨q, _, _, hq, _⟩ := dd'; ⟨q, hq⟩
  have hle := mergeK_le (kvs := kvs) (more := more)
  exact d_write I (by rw [hd]; exact True.intro) hs hx (dk_new (by omega) hd1 (kv_merge rel1 rel2) dd')
end
end L17

namespace L17
open PySem PySem.Spec PyProof.Rows L2 GR AD RZ WX ZE TX
/-! ### statements, by their form -/
abbrev tableS : List (Str × List Str) := [("let", ["name", "keyless"]), ("need", ["keyless"]), ("put", ["name", "keyless", "name", "keyless"]), ("each", ["name", "row", "name", "row"]), ("tell", ["keyless"])]
def lookS (w : Str) : Option (List Str) := (tableS.find? fun p => decide (p.1 = w)).map (·.2)
def fitsS (f : Str) (d : PyData) : Bool := if f = "name" then isN d else isX d && (allX plainP d && (if f = "row" then allX simpleP d else !keyX d))
def fitsAllS : List Str → List PyData → Bool
  | [], [] => true
  | f :: fs, d :: ds => fitsS f d && fitsAllS fs ds
  | _, _ => false
def isSt : PyData → Bool
  | .tuple (.str w :: r) => (match lookS w with | some fs => fitsAllS fs r | none => false)
  | _ => false
/-- what may be asked about: a thing that is, or is not, an expression -/
structure Yp (d : PyData) : Prop where
  sh : shB d = true
  dep : d.depth < 40
  sz : sz d ≤ 4000000
theorem Yp.xp {d : PyData} (h : Yp d) (x : isX d = true) : Xp d := ⟨x, h.sh, h.dep, h.sz⟩
/-- the tableS of kinds, as it is written -/
structure TabS (K : PySem.W.Frag) (w : World) (fA : Addr) (es : Array DictEntry) (n : Nat) : Prop where
  at' : K.lookup fA = some ⟨.type "dict", none, .dict es n, #[]⟩
  keys : PySem.W.KeysLit w.params es.toList
  low : (fA == sysModules) = false
  yes : ∀ wd fs, (wd, fs) ∈ tableS → ∃ p, findBy Value.isStrOf es wd = some (.ref p) ∧ KTx K p fs
  no : ∀ wd, lookS wd = none → findBy Value.isStrOf es wd = none
theorem lookS_some {w : Str} {fs : List Str} (h : lookS w = some fs) : (w, fs) ∈ tableS := by
  unfold lookS at h
  obtain ⟨p, hp, rfl⟩ := Option.map_eq_some_iff.mp h
  have h1 := List.find?_some hp
  have h2 := List.mem_of_find?_eq_some hp
  rw [decide_eq_true_eq] at h1
  rw [← h1]
  exact h2
theorem formS_some {z : Str} {r : List PyData} {fs : List Str} (h : lookS z = some fs) : isSt (.tuple (.str z :: r)) = fitsAllS fs r := by
  show (match lookS z with | some fs => fitsAllS fs r | none => false) = _
  rw [h]
theorem formS_none {z : Str} {r : List PyData} (h : lookS z = none) : isSt (.tuple (.str z :: r)) = false := by
  show (match lookS z with | some fs => fitsAllS fs r | none => false) = _
  rw [h]
theorem fitsAllS_len : ∀ {fs : List Str} {ds : List PyData}, fs.length ≠ ds.length → fitsAllS fs ds = false
  | [], [], h => absurd rfl h
  | [], _ :: _, _ => rfl
  | _ :: _, [], _ => rfl
  | f :: fs, d :: ds, h => by
    show (fitsS f d && fitsAllS fs ds) = false
    rw [fitsAllS_len (fs := fs) (ds := ds) (fun e => h (by rw [List.length_cons, List.length_cons, e])), Bool.and_false]
/-- the answers so far -/
def fitsUpS (fs : List Str) (ds : List PyData) (i : Nat) : List Bool := ((fs.zip ds).take i).map fun p => fitsS p.1 p.2
theorem fitsAllS_zip : ∀ {fs : List Str} {ds : List PyData}, fs.length = ds.length → fitsAllS fs ds = ((fs.zip ds).map fun p => fitsS p.1 p.2).all id
  | [], [], _ => rfl
  | f :: fs, d :: ds, h => by
    show (fitsS f d && fitsAllS fs ds) = _
    rw [fitsAllS_zip (fs := fs) (ds := ds) (by simpa using h), List.zip_cons_cons, List.map_cons, List.all_cons]
    rfl
theorem tableS_len : ∀ p, p ∈ tableS → p.2.length ≤ 6 := by decide
section
variable {P : Program} {w : World} {K : PySem.W.Frag} {mg : Str → Option Value} {base : Heap}
abbrev s_fits2 : Stmt := topS 32
theorem sc_fits2 : FnScope ["kind", "part"] ["kind", "part"] (defScope s_fits2) := ⟨rfl, rfl, rfl, by decide +kernel, rfl, by decide +kernel, by decide +kernel⟩
def sp_fitsS (K : PySem.W.Frag) : Sp := fun vs H Q _ => ∃ (z : Str) (v : V) (d : PyData) (ok : Addr → Prop), vs = [.str z, v] ∧ Dd K ok H v d ∧ Yp d ∧ ∀ H', Same H H' → Q (.bl (fitsS z d)) H'
theorem ok_fits2 {f fn fx fp fi fk : Addr} {fd dn dx dp di dk : FuncData} {k : Nat} (F : Fun K "fits" "fits" s_fits2 f fd)
    (Gn : FnOk P w K mg base CX0 k fn dn ["thing"] (sp_isS K isN)) (gn : mg "is_name" = some (.ref fn)) (Kn : PySem.W.keepIn K (.ref fn) = true) (bn : Binds K dn ["thing"] [])
    (Gx : FnOk P w K mg base CX0 k fx dx ["thing"] (sp_isx K)) (gx : mg "is_expression" = some (.ref fx)) (Kx : PySem.W.keepIn K (.ref fx) = true) (bx : Binds K dx ["thing"] [])
    (Gp : FnOk P w K mg base CX0 k fp dp ["expression"] (sp_tx K (allX plainP))) (gp : mg "is_plain" = some (.ref fp)) (Kp : PySem.W.keepIn K (.ref fp) = true) (bp : Binds K dp ["expression"] [])
    (Gi : FnOk P w K mg base CX0 k fi di ["expression"] (sp_tx K (allX simpleP))) (gi : mg "is_simple" = some (.ref fi)) (Ki : PySem.W.keepIn K (.ref fi) = true) (bi : Binds K di ["expression"] [])
    (Gk : FnOk P w K mg base CX0 k fk dk ["expression"] (sp_tx K keyX)) (gk : mg "has_free_key" = some (.ref fk)) (Kk : PySem.W.keepIn K (.ref fk) = true) (bk : Binds K dk ["expression"] []) :
    FnOk P w K mg base CX0 (k + 1) f fd ["kind", "part"] (sp_fitsS K) := by
  have nd := sc_fits2.nd
  refine F.ok sc_fits2 (fun vs H Q E h => ?_) (fun cdv A outer s H vs Q E hr h => ?_)
  · obtain ⟨z, v, d, ok, rfl, _⟩ := h
    rfl
  obtain ⟨z, v, d, ok, rfl, hd, hy, q⟩ := h
  refine ⟨_, (pss_cons (ps_if (pt_cmpR op_eq (pv 0) pe_str (nomark _)) (pss_one (ps_ret (pe_call Gn hr (by rfl) gn Kn bn .nil pass0 (pa_cons (pv 1) pa_nil)))) pss_nil)
      (pss_cons (ps_if (PW.pt (pw_or (pt_not (pt_val (pe_call Gx hr (by rfl) gx Kx bx .nil pass0 (pa_cons (pv 1) pa_nil)))) (pw_or1 (pt_not (pt_val (pe_call Gp hr (by rfl) gp Kp bp .nil pass0 (pa_cons (pv 1) pa_nil))))))) (pss_one (ps_ret pe_bl)) pss_nil)
      (pss_cons (ps_if (pt_cmpR op_eq (pv 0) pe_str (nomark _)) (pss_one (ps_ret (pe_call Gi hr (by rfl) gi Ki bi .nil pass0 (pa_cons (pv 1) pa_nil)))) pss_nil)
      (pss_one (ps_ret (pe_not (pe_call Gk hr (by rfl) gk Kk bk .nil pass0 (pa_cons (pv 1) pa_nil)))))))), ?_⟩
  unfold fitsS at q
  refine ⟨.str z, rfl, rfl, _, rfl, ite2 (fun e1 => ?_) (fun e1 => ?_)⟩
  · have e1 : z = "name" := by simpa using e1
    simp only [if_pos e1] at q
    exact ⟨v, rfl, v, d, ok, rfl, hd, shB_sh hy.sh, q⟩
  have e1 : z ≠ "name" := fun x => e1 (by simpa using x)
  simp only [if_neg e1] at q
  refine ⟨v, rfl, v, d, ok, rfl, hd, hy.sh, hy.sz, fun H1 s1 => ⟨_, rfl, ?_⟩⟩
  cases hx : isX d with
  | false =>
    simp only [hx, Bool.false_and] at q
    exact iteT (iteT (q H1 s1))
  | true =>
  simp only [hx, Bool.true_and] at q
  have xp := hy.xp hx
  have hdp := dp_of d v (isX_flat hx) hd
  refine iteF ⟨v, rfl, v, d, rfl, dp_keep (KeepT.of s1) _ _ (isX_flat hx) hdp, xp, fun H2 s2 => ⟨_, rfl, ?_⟩⟩
  have s12 := s1.trans s2
  cases hp : allX plainP d with
  | false =>
    simp only [hp, Bool.false_and] at q
    exact iteT (q H2 s12)
  | true =>
  simp only [hp, Bool.true_and] at q
  refine iteF ⟨.str z, rfl, rfl, _, rfl, ite2 (fun e2 => ?_) (fun e2 => ?_)⟩
  · have e2 : z = "row" := by simpa using e2
    simp only [if_pos e2] at q
    exact ⟨v, rfl, v, d, rfl, dp_keep (KeepT.of s12) _ _ (isX_flat hx) hdp, xp, fun H3 s3 => q H3 (s12.trans s3)⟩
  · have e2 : z ≠ "row" := fun x => e2 (by simpa using x)
    simp only [if_neg e2] at q
    exact ⟨v, rfl, v, d, rfl, dp_keep (KeepT.of s12) _ _ (isX_flat hx) hdp, xp, fun H3 s3 => ⟨_, rfl, q H3 (s12.trans s3)⟩⟩
end
section
variable {P : Program} {w : World} {K : PySem.W.Frag} {mg : Str → Option Value} {base : Heap}
abbrev s_is_statement : Stmt := topS 31
abbrev N_ist : List Str := ["thing", "kinds", "kind", "part"]
theorem sc_is_statement : FnScope N_ist ["thing"] (defScope s_is_statement) := ⟨rfl, rfl, rfl, by decide +kernel, rfl, by decide +kernel, by decide +kernel⟩
def sp_ist (K : PySem.W.Frag) : Sp := fun vs H Q _ => ∃ (v : V) (d : PyData) (ok : Addr → Prop), vs = [v] ∧ Dd K ok H v d ∧ (∀ ds, d = .tuple ds → ∀ y, y ∈ ds → Yp y) ∧ ∀ H', Same H H' → Q (.bl (isSt d)) H'
theorem ok_is_statement {f fw ff fA : Addr} {fd dw df : FuncData} {k : Nat} {es : Array DictEntry} {n : Nat} (F : Fun K "is_statement" "is_statement" s_is_statement f fd) (Gw : FnOk P w K mg base CX0 k fw dw ["thing"] (sp_word K)) (gw : mg "word_of" = some (.ref fw)) (Kw : PySem.W.keepIn K (.ref fw) = true) (bw : Binds K dw ["thing"] [])
    (Gf : FnOk P w K mg base CX0 k ff df ["kind", "part"] (sp_fitsS K)) (gf : mg "fits_statements" = some (.ref ff)) (Kf : PySem.W.keepIn K (.ref ff) = true) (bf : Binds K df ["kind", "part"] [])
    (mFIELDS : mg "FIELDS_statements" = some (.ref fA)) (T : TabS K w fA es n) (mlen : mg "len" = none) (mzip : mg "zip" = none) (mall : mg "all" = none) : FnOk P w K mg base CX0 (k + 1) f fd ["thing"] (sp_ist K) := by
  have nd := sc_is_statement.nd
  refine F.ok sc_is_statement (fun vs H Q E h => ?_) (fun cdv A outer s H vs Q E hr h => ?_)
  · obtain ⟨v, d, ok, rfl, _⟩ := h
    rfl
  obtain ⟨v, d, ok, rfl, hd, hsh, q⟩ := h
  refine ⟨_, (pss_cons (ps_set (i := 1) nd rfl (.inl rfl) (FG.pe_kget (pe_glob rfl mFIELDS (v := .ref fA) rfl) (pe_call Gw hr (by rfl) gw Kw bw .nil pass0 (pa_cons (pv 0) pa_nil)) ⟨by rfl, by rfl, by rfl, by rfl⟩))
      (pss_cons (ps_if (PW.pt (pw_or (pt_cmpR op_isN (pv 1) pe_non (nomark _)) (pw_or1 (pt_cmpR op_ne (pe_callB call_len_seq (by rfl) mlen PySem.boot_len (pa_cons (pv 0) pa_nil)) (pe_op op_add pe_int (pe_callB call_len_seq (by rfl) mlen PySem.boot_len (pa_cons (pv 1) pa_nil))) (nomark _)))))
        (pss_one (ps_ret pe_bl))
        pss_nil)
      (pss_one (ps_ret (pe_callB (cr_all rfl) (by rfl) mall boot_all (pa_cons (pe_lc (own := [("kind", 2), ("part", 3)]) (g := gTup K 2 (gCons (gName 2) (gCons (gName 3) gNil))) (tt := tYes) (te := tCall (sp_fitsS K) [] E0 (tCons (tVar 2) (tCons (tVar 3) tNil))) rfl nd
          (pi_zipA (by rfl) mzip (pa_cons (pv 1) (pa_cons (pe_slice L2.sl_tup (pv 0) (po_some pe_int) po_none) pa_nil))) (blkOk_by (N := N_ist) (sc := defScope s_is_statement) (by decide +kernel))
          (fun _ _ _ _ _ => (pg_tup rfl (pgs_cons (pg_name (i := 2) (x := "kind") nd rfl (Or.inl rfl)) (pgs_cons (pg_name (i := 3) (x := "part") nd rfl (Or.inl rfl)) pgs_nil))))
          (fun _ _ _ _ _ => pts_nil) (fun _ _ _ _ _ => (pe_call Gf hr (by rfl) gf Kf bf .nil pass0 (pa_cons (pv 2) (pa_cons (pv 3) pa_nil))))) pa_nil)))))), ?_⟩
  refine ⟨fA, es, n, rfl, T.at', T.keys, T.low, v, rfl, v, d, ok, rfl, hd, ?_⟩
  cases hd with
  | tup hs ha =>
    rename_i a xs ds
    cases ha with
    | nil => exact ⟨.non, .inl ⟨rfl, rfl⟩, .non, rfl, rfl, _, rfl, iteT (iteT (q H fun _ _ e => e))⟩
    | cons h1 r1 =>
      rename_i v1 vs1 d1 ds1
      cases h1 with
      | str z =>
        cases hlk : lookS z with
        | none =>
          refine ⟨.non, .inr ⟨z, rfl, .inr ⟨T.no z hlk, rfl⟩⟩, .non, rfl, rfl, _, rfl, iteT (iteT ?_)⟩
          have := q H fun _ _ e => e
          rw [formS_none hlk] at this
          exact this
        | some fs =>
          have hq : ∀ H', Same H H' → Q (.bl (fitsAllS fs ds1)) H' := fun H' s => by
            have := q H' s
            rw [formS_some hlk] at this
            exact this
          obtain ⟨p, hp1, hp2⟩ := T.yes z fs (lookS_some hlk)
          have hlen := r1.len
          have hf6 : fs.length ≤ 6 := tableS_len _ (lookS_some hlk)
          refine ⟨.ref p, .inr ⟨z, rfl, .inl ⟨.ref p, hp1, rfl⟩⟩, .ref p, rfl, rfl, _, rfl, ?_⟩
          rw [decide_eq_false (fun z => nomatch z)]
          refine iteF ⟨.ref a, rfl, a, _, rfl, .inr hs, .ref p, rfl, p, _, rfl, .inr (hp2 H), 1, _, rfl, rfl, rfl, _, rfl, ?_⟩
          by_cases c : fs.length = ds1.length
          case neg =>
            rw [fitsAllS_len c] at hq
            rw [show (!decide (V.int (((V.str z :: vs1).length : Nat) : Int) = V.int (1 + (((fs.map V.str).length : Nat) : Int)))) = true from by
              rw [decide_eq_false (fun e => c (by injection e with e; rw [List.length_cons, List.length_map] at e; omega))]; rfl]
            exact iteT (hq H fun _ _ e => e)
          rw [show (!decide (V.int (((V.str z :: vs1).length : Nat) : Int) = V.int (1 + (((fs.map V.str).length : Nat) : Int)))) = false from by
            rw [decide_eq_true (by congr 1; rw [List.length_cons, List.length_map]; omega)]; rfl]
          refine iteF ⟨.ref p, rfl, .ref a, rfl, 1, rfl, a, _, rfl, hs, ?_, fun c1 nc => ?_⟩
          · rw [List.length_cons]
            rintro ⟨e, _⟩
            have : HT.sIx (vs1.length + 1) 0 (some 1) = min 1 (vs1.length + 1) := HT.sIx_nat _ _ 1
            rw [this] at e
            omega
          have hcut : cutV (.str z :: vs1) (some 1) none = vs1 := by
            unfold cutV
            rw [HT.sIx_none, show HT.sIx (V.str z :: vs1).length 0 (some 1) = min 1 (V.str z :: vs1).length from HT.sIx_nat _ _ 1, List.length_cons, show min 1 (vs1.length + 1) = 1 by omega, List.drop_succ_cons, List.drop_zero, show vs1.length + 1 - 1 = vs1.length by omega, List.take_length]
          rw [hcut]
          have sc := same_upd (o := .tup vs1) nc
          have hc1 : upd H c1 (.tup vs1) c1 = some (.tup vs1) := upd_same
          revert sc hc1
          generalize upd H c1 (.tup vs1) = H1
          intro sc hc1
          refine ⟨p, c1, fs.map V.str, vs1, rfl, .inr ⟨hp2 H1, .inl (.inl hc1), fun D nD => ?_⟩⟩
          refine lc_it (walk_zipT (xs := fs.map V.str) (ys := vs1) (n := fs.length) (by rw [List.length_map]) (by omega)) (fun i H' => H' D = some (.lst ((fitsUpS fs ds1 i).map V.bl)) ∧ ∀ b o, b ≠ D → H1 b = some o → H' b = some o) ?_ ?_ ?_ ?_
          · exact ⟨upd_same, fun b o nb e => by rw [upd_ne nb]; exact e⟩
          · rintro i H' _ ⟨_, kp⟩
            exact ⟨hp2 H', .inl (.inl (kp _ _ (ne_of_none hc1 nD) hc1))⟩
          · rintro i x H2 H' hi ⟨hD, kp⟩ ⟨T1, x1, y1, rfl, hT, rfl, hx1, hy1⟩
            replace hx1 : (fs.map V.str)[i]? = some x1 := hx1
            replace hy1 : vs1[i]? = some y1 := hy1
            rw [List.getElem?_map] at hx1
            obtain ⟨fi, hfi, rfl⟩ := Option.map_eq_some_iff.mp hx1
            have sT := same_upd (o := .tup [.str fi, y1]) hT
            have s12 : Same H1 H2 := fun b o e => kp b o (ne_of_none e nD) e
            have s02 := sc.trans (s12.trans sT)
            obtain ⟨di, hdi, hyd⟩ := dd_at (r1.keep (KeepO.of s02)) hy1
            have hDT := sT _ _ hD
            refine ⟨_, _, rfl, .inl (.inl upd_same), rfl, _, _, rfl, _, _, rfl, rfl, rfl, yes_then ⟨.str fi, rfl, y1, rfl, fi, y1, di, ok, rfl, hyd, hsh _ rfl di (List.mem_cons_of_mem _ (List.mem_of_getElem? hdi)), fun H3 s3 => ⟨_, s3 _ _ hDT, small1000 ?_, ?_, fun b o nb e => ?_⟩⟩⟩
            · unfold fitsUpS
              rw [List.length_map, List.length_map, List.length_take]
              omega
            · have hz : (fs.zip ds1)[i]? = some (fi, di) := List.getElem?_zip_eq_some.mpr ⟨hfi, hdi⟩
              unfold fitsUpS
              rw [take_at hz, List.map_append, List.map_append]
              exact upd_same
            · rw [upd_ne nb]
              exact s3 _ _ (sT _ _ (kp b o nb e))
          · rintro H2 ⟨hD, kp⟩
            have s12 : Same H1 H2 := fun b o e => kp b o (ne_of_none e nD) e
            have hzl : fs.length = (fs.zip ds1).length := by
              rw [List.length_zip]
              omega
            unfold fitsUpS at hD
            rw [hzl, List.take_length] at hD
            refine ⟨D, (fs.zip ds1).map fun p => fitsS p.1 p.2, rfl, .inl (.inl hD), ?_⟩
            rw [← fitsAllS_zip c]
            exact hq H2 (sc.trans s12)
      | _ => exact ⟨.non, .inl ⟨rfl, rfl⟩, .non, rfl, rfl, _, rfl, iteT (iteT (q H fun _ _ e => e))⟩
  | _ => exact ⟨.non, .inl ⟨rfl, rfl⟩, .non, rfl, rfl, _, rfl, iteT (iteT (q H fun _ _ e => e))⟩
end
end L17

namespace L17
open PySem PySem.Spec PyProof.Rows L2 GR AD RZ WX ZE TX
theorem isSt_inv {d : PyData} (h : isSt d = true) : ∃ w fs r, d = .tuple (.str w :: r) ∧ lookS w = some fs ∧ fitsAllS fs r = true := by
  unfold isSt at h
  split at h
  · rename_i w r
    split at h
    · rename_i fs hl
      exact ⟨w, fs, r, rfl, hl, h⟩
    · cases h
  · cases h
/-- what a statement names with let -/
def letsL : PyData → List Str
  | .tuple (.str w :: .str z :: _) => if w = "let" then [z] else []
  | _ => []
/-- its expressions -/
def exprs : List Str → List PyData → List PyData
  | f :: fs, d :: ds => (if f = "name" then [] else [d]) ++ exprs fs ds
  | _, _ => []
def kidsS : PyData → List PyData
  | .tuple (.str w :: r) => (match lookS w with | some fs => exprs fs r | none => [])
  | _ => []
theorem kidsS_some {w : Str} {fs : List Str} {r : List PyData} (h : lookS w = some fs) : kidsS (.tuple (.str w :: r)) = exprs fs r := by
  show (match lookS w with | some fs => exprs fs r | none => []) = _
  rw [h]
theorem fitsAllS_eq {fs : List Str} {ds : List PyData} (h : fitsAllS fs ds = true) : fs.length = ds.length := by
  by_cases c : fs.length = ds.length
  · exact c
  · rw [fitsAllS_len c] at h
    cases h
theorem fitsAllS_at : ∀ {fs : List Str} {ds : List PyData}, fitsAllS fs ds = true → ∀ {i : Nat} {f : Str} {d : PyData}, fs[i]? = some f → ds[i]? = some d → fitsS f d = true
  | [], _, _, i, f, d, h1, _ => by simp at h1
  | _ :: _, [], h, _, _, _, _, _ => by cases h
  | x :: fs, y :: ds, h, i, f, d, h1, h2 => by
    have h' : (fitsS x y && fitsAllS fs ds) = true := h
    rw [Bool.and_eq_true] at h'
    cases i with
    | zero =>
      cases h1
      cases h2
      exact h'.1
    | succ i => exact fitsAllS_at h'.2 (by simpa using h1) (by simpa using h2)
theorem exprs_isX : ∀ {fs : List Str} {ds : List PyData}, fitsAllS fs ds = true → ∀ x, x ∈ exprs fs ds → isX x = true ∧ allX plainP x = true ∧ x ∈ ds
  | [], _, _, x, h => by simp only [exprs, List.not_mem_nil] at h
  | _ :: _, [], h, _, _ => by cases h
  | f :: fs, y :: ds, h, x, hx => by
    have h' : (fitsS f y && fitsAllS fs ds) = true := h
    rw [Bool.and_eq_true] at h'
    rw [exprs] at hx
    rcases List.mem_append.mp hx with hx | hx
    · by_cases e : f = "name"
      · rw [if_pos e] at hx
        exact (nomatch hx)
      · rw [if_neg e, List.mem_singleton] at hx
        subst hx
        have h1 := h'.1
        unfold fitsS at h1
        rw [if_neg e, Bool.and_eq_true, Bool.and_eq_true] at h1
        exact ⟨h1.1, h1.2.1, List.mem_cons_self⟩
    · obtain ⟨a, b, c⟩ := exprs_isX h'.2 x hx
      exact ⟨a, b, List.mem_cons_of_mem _ c⟩
theorem exprs_take : ∀ {fs : List Str} {ds : List PyData} {i : Nat} {f : Str} {d : PyData}, fs[i]? = some f → ds[i]? = some d → exprs (fs.take (i + 1)) (ds.take (i + 1)) = exprs (fs.take i) (ds.take i) ++ (if f = "name" then [] else [d])
  | [], _, i, f, d, h, _ => by simp at h
  | _ :: _, [], i, f, d, _, h => by simp at h
  | x :: fs, y :: ds, 0, f, d, h1, h2 => by
    cases h1
    cases h2
    simp [exprs]
  | x :: fs, y :: ds, i + 1, f, d, h1, h2 => by
    have ih := exprs_take (fs := fs) (ds := ds) (i := i) (by simpa using h1) (by simpa using h2)
    rw [List.take_succ_cons, List.take_succ_cons, List.take_succ_cons, List.take_succ_cons, exprs, exprs, ih, List.append_assoc]
theorem exprs_len : ∀ {fs : List Str} {ds : List PyData}, (exprs fs ds).length ≤ fs.length
  | [], ds => by simp [exprs]
  | f :: fs, [] => by simp [exprs]
  | f :: fs, d :: ds => by
    have := exprs_len (fs := fs) (ds := ds)
    rw [exprs, List.length_append, List.length_cons]
    split <;> simp <;> omega
/-- a statement that may be asked about -/
structure Sp' (d : PyData) : Prop where
  st : isSt d = true
  ys : ∀ ds, d = .tuple ds → ∀ y, y ∈ ds → Yp y
theorem Sp'.kids {d : PyData} (h : Sp' d) : ∀ y, y ∈ kidsS d → Xp y := fun y hy => by
  obtain ⟨w, fs, r, rfl, lk, hf⟩ := isSt_inv h.st
  rw [kidsS_some lk] at hy
  obtain ⟨a, _, c⟩ := exprs_isX hf y hy
  exact (h.ys _ rfl y (List.mem_cons_of_mem _ c)).xp a
theorem let_inv {w : Str} {fs : List Str} {r : List PyData} (lk : lookS w = some fs) (hf : fitsAllS fs r = true) (e : w = "let") : ∃ z x, r = [.str z, x] := by
  subst e
  have : fs = (["name", "keyless"] : List Str) := Option.some.inj (lk.symm.trans (show lookS "let" = some (["name", "keyless"] : List Str) by decide))
  subst this
  match r, hf with
  | [a, b], hf =>
    have h' : (fitsS "name" a && (fitsS "keyless" b && true)) = true := hf
    rw [Bool.and_eq_true] at h'
    have h1 : isN a = true := by
      have := h'.1
      unfold fitsS at this
      rw [if_pos rfl] at this
      exact this
    cases a with
    | str z => exact ⟨z, b, rfl⟩
    | _ => cases h1
  | [], hf => cases hf
  | [_], hf => simp [fitsAllS] at hf
  | _ :: _ :: _ :: _, hf => simp [fitsAllS] at hf
theorem letsL_no {w : Str} {r : List PyData} (h : w ≠ "let") : letsL (.tuple (.str w :: r)) = [] := by
  cases r with
  | nil => rfl
  | cons a r => cases a <;> first | rfl | exact if_neg h
theorem same_upd2 {H : Hp} {p : Addr} {o1 o2 : HO} (n : H p = none) : Same H (upd (upd H p o1) p o2) := fun b o e => by
  rw [upd_ne (ne_of_none e n), upd_ne (ne_of_none e n)]
  exact e
section
variable {P : Program} {w : World} {K : PySem.W.Frag} {mg : Str → Option Value} {base : Heap}
abbrev s_names_let : Stmt := topS 35
theorem sc_names_let : FnScope ["statement"] ["statement"] (defScope s_names_let) := ⟨rfl, rfl, rfl, by decide +kernel, rfl, by decide +kernel, by decide +kernel⟩
abbrev letK (d : PyData) : List (Key × V) := (letsL d).map fun z => ((.inr z : Key), V.bl true)
/-- d[0] is a text of the tuple -/
def sp_nl (K : PySem.W.Frag) : Sp := fun vs H Q _ => ∃ (v : V) (d : PyData) (ok : Addr → Prop), vs = [v] ∧ Dd K ok H v d ∧ isSt d = true ∧ ∀ H' p, Same H H' → H p = none → H' p = some (.dK (letK d)) → Q (.ref p) H'
theorem ok_names_let {f : Addr} {fd : FuncData} {k : Nat} (F : Fun K "names_let" "names_let" s_names_let f fd) : FnOk P w K mg base CX0 (k + 1) f fd ["statement"] (sp_nl K) := by
  have nd := sc_names_let.nd
  refine F.ok sc_names_let (fun vs H Q E h => ?_) (fun cdv A outer s H vs Q E hr h => ?_)
  · obtain ⟨v, d, ok, rfl, _⟩ := h
    rfl
  obtain ⟨v, d, ok, rfl, hd, hs, q⟩ := h
  refine ⟨_, (pss_cons (ps_if (pt_cmpR op_eq (pe_ix ix_tup (pv 0) pe_int (fun _ _ => rfl)) pe_str (nomark _))
      (pss_one (ps_ret (pe_disp (pps_cons (pe_ix ix_tup (pv 0) pe_int (fun _ _ => rfl)) pe_bl pps_nil) (by decide) rfl (by simp) (by decide))))
      pss_nil)
      (pss_one (ps_ret pe_dnewK))), ?_⟩
  obtain ⟨wd, fs, r, rfl, lk, hf⟩ := isSt_inv hs
  cases hd with
  | tup hS hA =>
  cases hA with
  | cons hw hA =>
  cases hw
  rename_i a vs
  refine ⟨.ref a, rfl, a, _, 0, .str wd, rfl, rfl, hS, at0, rfl, _, rfl, ite2 (fun e1 => ?_) (fun e1 => ?_)⟩
  · have e1 : wd = "let" := by simpa using e1
    obtain ⟨z, x, rfl⟩ := let_inv lk hf e1
    cases hA with
    | cons hw hA =>
    cases hw
    have hl : letK (.tuple (.str wd :: [.str z, x])) = [(.inr z, .bl true)] := by
      show ((if wd = "let" then [z] else []).map _) = _
      rw [if_pos e1]
      rfl
    rw [hl] at q
    exact fun p np => ⟨.ref a, rfl, a, _, 1, .str z, rfl, rfl, (KeepT.of (same_upd np)).seqt hS, at1, upd_same, [(.inr z, .bl true)], rfl, Nat.le_of_ble_eq_true rfl, q _ p (same_upd2 np) np upd_same⟩
  · have e1 : wd ≠ "let" := fun z => e1 (by simpa using z)
    have hl : letK (.tuple (.str wd :: r)) = [] := by
      show (letsL (.tuple (.str wd :: r))).map _ = _
      rw [letsL_no e1]
      rfl
    rw [hl] at q
    exact fun p np => q _ p (same_upd np) np upd_same
end
end L17

namespace L17
open PySem PySem.Spec PyProof.Rows L2 GR AD RZ WX ZE TX
/-- any walk over a tuple: what a turn does, told by body with what is to hold behind it -/
theorem walk_bodyT {K : PySem.W.Frag} {a : Addr} {xs : List V} {body : V → Hp → (Hp → Prop) → Prop} {H0 : Hp} {Qd : Hp → Prop} (Pv : Nat → Hp → Prop) (h0 : Pv 0 H0) (hl : ∀ i H, i ≤ xs.length → Pv i H → SqT K H a xs)
    (hs : ∀ i x H, xs[i]? = some x → Pv i H → body x H (Pv (i + 1))) (hd : ∀ H, Pv xs.length H → Qd H) :
    ∃ W : Nat → Nat → Hp → Prop, (∃ m, W 0 m H0) ∧ ∀ i m H, W i m H →
      ((Itt K a).stop i H ∧ Qd H) ∨ ((Itt K a).go i H ∧ ∃ Nx : Hp → Prop, (∀ H', Nx H' → ∃ m', m' < m ∧ W (i + 1) m' H') ∧ ∀ x H', (Itt K a).yld i H x H' → body x H' Nx) := by
  have w := walk_tup (K := K) (a := a) (xs := xs)
  refine ⟨fun i m H => m = xs.length - i ∧ i ≤ xs.length ∧ Pv i H, ⟨xs.length, rfl, Nat.zero_le _, h0⟩, ?_⟩
  rintro i m H ⟨rfl, hi, p⟩
  have q := hl i H hi p
  by_cases hlt : i < xs.length
  · refine .inr ⟨w.goes i H hlt q, Pv (i + 1), fun H' p' => ⟨xs.length - (i + 1), by omega, rfl, hlt, p'⟩, fun x H' y => ?_⟩
    obtain ⟨rfl, hx⟩ := w.yields i H x H' hlt q y
    exact hs i x _ hx p
  · obtain rfl : i = xs.length := by omega
    exact .inl ⟨w.stops H q, hd H p⟩
theorem fitsAllS_take : ∀ {fs : List Str} {ds : List PyData}, fitsAllS fs ds = true → ∀ i, fitsAllS (fs.take i) (ds.take i) = true
  | _, _, _, 0 => by rw [List.take_zero, List.take_zero]; rfl
  | [], [], _, i + 1 => rfl
  | [], _ :: _, h, _ + 1 => by cases h
  | _ :: _, [], h, _ + 1 => by cases h
  | f :: fs, d :: ds, h, i + 1 => by
    have h' : (fitsS f d && fitsAllS fs ds) = true := h
    rw [Bool.and_eq_true] at h'
    show (fitsS f d && fitsAllS (fs.take i) (ds.take i)) = true
    rw [h'.1, fitsAllS_take h'.2 i]
    rfl
def FldsS (K : PySem.W.Frag) (w : World) (fA : Addr) : Prop := ∀ wd fs, (wd, fs) ∈ tableS → ∃ p, KDct K w fA wd (.ref p) ∧ ∀ H, SqT K H p (fs.map V.str)
section
variable {P : Program} {w : World} {K : PySem.W.Frag} {mg : Str → Option Value} {base : Heap}
abbrev s_expressions_in : Stmt := topS 37
abbrev N_ein : List Str := ["statement", "kinds", "kind", "part"]
theorem sc_expressions_in : FnScope N_ein ["statement"] (defScope s_expressions_in) := ⟨rfl, rfl, rfl, by decide +kernel, rfl, by decide +kernel, by decide +kernel⟩
def sp_ein (K : PySem.W.Frag) : Sp := fun vs H Q _ => ∃ (v : V) (d : PyData) (ok : Addr → Prop), vs = [v] ∧ Dd K ok H v d ∧ Sp' d ∧ ∀ H' p us, Same H H' → H p = none → H' p = some (.lst us) → DpAll K H' us (kidsS d) → (kidsS d).length ≤ 6 → Q (.ref p) H'
theorem ok_expressions_in {f fA : Addr} {fd : FuncData} {k : Nat} (F : Fun K "expressions_in" "expressions_in" s_expressions_in f fd) (mFIELDS : mg "FIELDS_statements" = some (.ref fA)) (T : FldsS K w fA) (mzip : mg "zip" = none) : FnOk P w K mg base CX0 (k + 1) f fd ["statement"] (sp_ein K) := by
  have nd := sc_expressions_in.nd
  refine F.ok sc_expressions_in (fun vs H Q E h => ?_) (fun cdv A outer s H vs Q E hr h => ?_)
  · obtain ⟨v, d, ok, rfl, _⟩ := h
    rfl
  obtain ⟨v, d, ok, rfl, hd, hs, q⟩ := h
  refine ⟨_, (pss_cons (ps_set (i := 1) nd rfl (.inl rfl) (pe_ix ix_kdict (pe_glob rfl mFIELDS (v := .ref fA) rfl) (pe_ix ix_tup (pv 0) pe_int (fun _ _ => rfl)) (fun _ _ => rfl)))
      (pss_one (ps_ret (pe_lc (own := [("kind", 2), ("part", 3)]) (g := gTup K 2 (gCons (gName 2) (gCons (gName 3) gNil))) (tt := tTest (tOp rNe (tVar 2) (tC (.str "name")))) (te := tVar 3) rfl nd
        (pi_zipA (by rfl) mzip (pa_cons (pv 1) (pa_cons (pe_slice L2.sl_tup (pv 0) (po_some pe_int) po_none) pa_nil))) (blkOk_by (N := N_ein) (sc := defScope s_expressions_in) (by decide +kernel))
        (fun _ _ _ _ _ => (pg_tup rfl (pgs_cons (pg_name (i := 2) (x := "kind") nd rfl (Or.inl rfl)) (pgs_cons (pg_name (i := 3) (x := "part") nd rfl (Or.inl rfl)) pgs_nil))))
        (fun _ _ _ _ _ => pts_one (pt_cmpR op_ne (pv 2) pe_str (nomark _))) (fun _ _ _ _ _ => (pv 3)))))), ?_⟩
  obtain ⟨wd, fs, r, rfl, lk, hf⟩ := isSt_inv hs.st
  rw [kidsS_some lk] at q
  have hlen := fitsAllS_eq hf
  have hf6 : fs.length ≤ 6 := tableS_len _ (lookS_some lk)
  have hx6 := exprs_len (fs := fs) (ds := r)
  have hex := exprs_isX hf
  cases hd with
  | tup hS hA =>
  cases hA with
  | cons hw hA =>
  cases hw
  rename_i a vs
  obtain ⟨fp, hK, hF⟩ := T wd fs (lookS_some lk)
  have hl0 := hA.len
  refine ⟨.ref a, rfl, a, _, 0, .str wd, rfl, rfl, hS, at0, fA, wd, .ref fp, rfl, rfl, hK, ?_⟩
  refine ⟨.ref fp, rfl, .ref a, rfl, 1, rfl, a, _, rfl, hS, ?_, fun c nc => ?_⟩
  · rw [List.length_cons]
    rintro ⟨e, _⟩
    have : HT.sIx (vs.length + 1) 0 (some 1) = min 1 (vs.length + 1) := HT.sIx_nat _ _ 1
    rw [this] at e
    omega
  have hcut : cutV (.str wd :: vs) (some 1) none = vs := by
    unfold cutV
    rw [HT.sIx_none, show HT.sIx (V.str wd :: vs).length 0 (some 1) = min 1 (V.str wd :: vs).length from HT.sIx_nat _ _ 1, List.length_cons, show min 1 (vs.length + 1) = 1 by omega, List.drop_succ_cons, List.drop_zero, show vs.length + 1 - 1 = vs.length by omega, List.take_length]
  rw [hcut]
  have sc := same_upd (o := .tup vs) nc
  have hc1 : upd H c (.tup vs) c = some (.tup vs) := upd_same
  revert sc hc1
  generalize upd H c (.tup vs) = H1
  intro sc hc1
  refine ⟨fp, c, fs.map V.str, vs, rfl, .inr ⟨hF H1, .inl (.inl hc1), fun D nD => ?_⟩⟩
  have hA1 := hA.keep (KeepO.of sc)
  refine lc_it (walk_zipT (xs := fs.map V.str) (ys := vs) (n := fs.length) (by rw [List.length_map]) (by omega)) (fun i H' => ∃ us, H' D = some (.lst us) ∧ DpAll K H' us (exprs (fs.take i) (r.take i)) ∧ ∀ b o, b ≠ D → H1 b = some o → H' b = some o) ?_ ?_ ?_ ?_
  · refine ⟨[], upd_same, ?_, fun b o nb e => by rw [upd_ne nb]; exact e⟩
    simp only [List.take_zero, exprs]
    exact .nil
  · rintro i H' _ ⟨us, _, _, kp⟩
    exact ⟨hF H', .inl (.inl (kp _ _ (ne_of_none hc1 nD) hc1))⟩
  · rintro i x H2 H' hi ⟨us, hD, hU, kp⟩ ⟨T1, x1, y1, rfl, hT, rfl, hx1, hy1⟩
    replace hx1 : (fs.map V.str)[i]? = some x1 := hx1
    replace hy1 : vs[i]? = some y1 := hy1
    rw [List.getElem?_map] at hx1
    obtain ⟨fi, hfi, rfl⟩ := Option.map_eq_some_iff.mp hx1
    have sT := same_upd (o := .tup [.str fi, y1]) hT
    have s12 : Same H1 H2 := fun b o e => kp b o (ne_of_none e nD) e
    obtain ⟨di, hdi, hyd⟩ := dd_at (hA1.keep (KeepO.of (s12.trans sT))) hy1
    have hDT := sT _ _ hD
    have hxt := exprs_take hfi hdi
    have lu := dpAll_len hU
    have hle := exprs_len (fs := fs.take i) (ds := r.take i)
    have h2 : (fs.take i).length ≤ fs.length := by
      rw [List.length_take]
      omega
    have fl : flatDs (exprs (fs.take i) (r.take i)) = true := flatDs_of fun y hy => by
      have hfz := fitsAllS_take hf i
      exact isX_flat (exprs_isX hfz y hy).1
    have hU2 := dp_keepAll (KeepT.of sT) _ _ fl hU
    refine ⟨_, _, rfl, .inl (.inl upd_same), rfl, _, _, rfl, _, _, rfl, rfl, rfl, .str fi, rfl, rfl, _, rfl, ?_⟩
    rw [show decide (V.str fi = V.str "name") = decide (fi = "name") from decide_eq_decide.mpr ⟨fun e => V.str.inj e, fun e => by rw [e]⟩]
    by_cases e1 : fi = "name"
    · rw [decide_eq_true e1]
      refine iteF ⟨us, hDT, ?_, fun b o nb e => sT _ _ (kp b o nb e)⟩
      rw [hxt, if_pos e1, List.append_nil]
      exact hU2
    · rw [decide_eq_false e1]
      have hfi2 := fitsAllS_at hf hfi hdi
      unfold fitsS at hfi2
      rw [if_neg e1, Bool.and_eq_true] at hfi2
      have fd := isX_flat hfi2.1
      have k3 : KeepT (upd H2 T1 (.tup [.str fi, y1])) (upd (upd H2 T1 (.tup [.str fi, y1])) D (.lst (us ++ [y1]))) := KeepT.lst hDT
      refine iteT ⟨y1, rfl, us, hDT, small1000 (by omega), us ++ [y1], upd_same, ?_, fun b o nb e => ?_⟩
      · rw [hxt, if_neg e1]
        exact dpAll_append (dp_keepAll k3 _ _ fl hU2) (.cons (dp_keep k3 _ _ fd (dp_of di y1 fd hyd)) .nil)
      · rw [upd_ne nb]
        exact sT _ _ (kp b o nb e)
  · rintro H2 ⟨us, hD, hU, kp⟩
    rw [List.take_length, hlen, List.take_length] at hU
    exact q H2 D us (sc.trans fun b o e => kp b o (ne_of_none e nD) e) (sc.free nD) hD hU (by omega)
end
end L17

namespace L17
open PySem PySem.Spec PyProof.Rows L2 GR AD RZ WX ZE TX
section
variable {P : Program} {w : World} {K : PySem.W.Frag} {mg : Str → Option Value} {base : Heap}
abbrev s_names_used : Stmt := topS 36
abbrev N_nus : List Str := ["statement", "part", "name"]
theorem sc_names_used : FnScope N_nus ["statement"] (defScope s_names_used) := ⟨rfl, rfl, rfl, by decide +kernel, rfl, by decide +kernel, by decide +kernel⟩
/-- its variables are among S -/
def varsIn (S : List Str) (d : PyData) : Prop := ∀ x, x ∈ kidsS d → allX (varQ fun z => decide (z ∈ S)) x = true
def sp_nus (K : PySem.W.Frag) : Sp := fun vs H Q _ => ∃ (v : V) (d : PyData) (ok : Addr → Prop) (S : List Str), vs = [v] ∧ Dd K ok H v d ∧ Sp' d ∧ S.length ≤ 60 ∧ varsIn S d ∧
  ∀ (H' : Hp) (p : Addr) (zs : List Str), Same H H' → H p = none → H' p = some (.lst (zs.map V.str)) → zs.length ≤ 360 → (∀ q, zs.all q = (kidsS d).all (allX (varQ q))) → Q (.ref p) H'
theorem ok_names_used {f fe fv : Addr} {fd de dv : FuncData} {k : Nat} (F : Fun K "names_used" "names_used" s_names_used f fd) (Ge : FnOk P w K mg base CX0 k fe de ["statement"] (sp_ein K)) (ge : mg "expressions_in" = some (.ref fe)) (Ke : PySem.W.keepIn K (.ref fe) = true) (be : Binds K de ["statement"] [])
    (Gv : FnOk P w K mg base CX0 k fv dv ["expression"] (sp_vs K)) (gv : mg "variables_of" = some (.ref fv)) (Kv : PySem.W.keepIn K (.ref fv) = true) (bv : Binds K dv ["expression"] []) : FnOk P w K mg base CX0 (k + 1) f fd ["statement"] (sp_nus K) := by
  have nd := sc_names_used.nd
  refine F.ok sc_names_used (fun vs H Q E h => ?_) (fun cdv A outer s H vs Q E hr h => ?_)
  · obtain ⟨v, d, ok, S, rfl, _⟩ := h
    rfl
  obtain ⟨v, d, ok, S, rfl, hd, hs, hS60, hv, q⟩ := h
  refine ⟨_, (pss_one (ps_ret (pe_lc2 (own := [("part", 1), ("name", 2)]) (vs1 := [2]) (wi1 := iTup K (tCall (sp_vs K) [] E0 (tCons (tVar 1) tNil))) rfl nd (pi_list (pe_call Ge hr (by rfl) ge Ke be .nil pass0 (pa_cons (pv 0) pa_nil))) (blkOk_by (N := N_nus) (sc := defScope s_names_used) (by decide +kernel)) (by decide)
      (fun _ _ _ _ _ => (pg_name (i := 1) nd rfl (Or.inl rfl))) (fun _ _ _ _ _ => pts_nil)
      (fun _ _ _ _ _ => pi_tup (pe_call Gv hr (by rfl) gv Kv bv .nil pass0 (pa_cons (pv 1) pa_nil))) (fun _ _ _ _ _ => (pg_name (i := 2) nd rfl (Or.inl rfl))) (fun _ _ _ _ _ => pts_nil)
      (fun _ _ _ _ _ => (pv 2))))), ?_⟩
  refine ⟨v, rfl, v, d, ok, rfl, hd, hs, fun H1 a us s1 na ha hA hl6 => ?_⟩
  refine ⟨a, rfl, ⟨us, .inl (.inl ha)⟩, fun D nD => ?_⟩
  have hxl := dpAll_len hA
  refine walk_body (xs := us) (fun i H' => ∃ zs : List Str, H' D = some (.lst (zs.map V.str)) ∧ zs.length ≤ 60 * i ∧ (∀ q, zs.all q = ((kidsS d).take i).all (allX (varQ q))) ∧ Same H1 H') ?_ ?_ ?_ ?_
  · refine ⟨[], upd_same, Nat.zero_le _, fun q => ?_, same_upd nD⟩
    rw [List.take_zero]
    rfl
  · rintro i H' _ ⟨zs, hD, hz, hq, kk⟩
    exact .inl (.inl (kk _ _ ha))
  · rintro i y H' hy ⟨zs, hD, hz, hq, kk⟩
    obtain ⟨x, hx, hyx⟩ := dpAll_at hA hy
    have hmem := List.mem_of_getElem? hx
    have ex := hs.kids x hmem
    have hi6 : i < (kidsS d).length := (List.getElem?_eq_some_iff.mp hx).1
    refine ⟨rfl, yes_then ⟨y, rfl, y, x, S, rfl, dp_keep (KeepT.of kk) _ _ (isX_flat ex.x) hyx, ex, hS60, hv x hmem, fun H2 p ys s2 np hp hl60 hqs => ⟨p, rfl, ⟨ys.map V.str, .inl (.inl hp)⟩, ?_⟩⟩⟩
    have hD2 := s2 _ _ hD
    have npD : D ≠ p := ne_of_none hD np
    refine walk_bodyT (xs := ys.map V.str) (fun j H3 => H3 D = some (.lst ((zs ++ ys.take j).map V.str)) ∧ (∀ b o, b ≠ D → H2 b = some o → H3 b = some o)) ?_ ?_ ?_ ?_
    · rw [List.take_zero, List.append_nil]
      exact ⟨hD2, fun b o _ e => e⟩
    · rintro j H3 _ ⟨_, k3⟩
      exact .inl (.inl (k3 _ _ npD.symm hp))
    · rintro j u H3 hu ⟨hD3, k3⟩
      rw [List.getElem?_map] at hu
      obtain ⟨z, hzj, rfl⟩ := Option.map_eq_some_iff.mp hu
      refine ⟨rfl, yes_then ⟨.str z, rfl, _, hD3, small1000 ?_, ?_, fun b o hb e => ?_⟩⟩
      · rw [List.length_map, List.length_append, List.length_take]
        omega
      · rw [upd_same, take_at hzj, ← List.append_assoc, List.map_append (l₁ := zs ++ ys.take j)]
        rfl
      · rw [upd_ne hb]
        exact k3 b o hb e
    · rintro H3 ⟨hD3, k3⟩
      rw [List.length_map, List.take_length] at hD3
      refine ⟨zs ++ ys, hD3, ?_, fun q => ?_, fun b o e => k3 b o (ne_of_none e nD) (s2 _ _ (kk _ _ e))⟩
      · rw [List.length_append]
        omega
      · rw [List.all_append, hq, hqs, take_at hx, List.all_append, List.all_cons, List.all_nil, Bool.and_true]
  · rintro H' ⟨zs, hD, hz, hq, kk⟩
    rw [hxl, List.take_length] at hq
    exact q H' D zs (s1.trans kk) (s1.free nD) hD (by omega) hq
/-! ### what is known -/
/-- the dict at a holds the names kn -/
def KnAt (H : Hp) (a : Addr) (kn : List Str) : Prop := ∃ kvs, H a = some (.dK kvs) ∧ kvs.map (·.1) = kn.map (Sum.inr : Str → Key)
theorem valV_keys : ∀ {kvs : List (Key × V)} {k : Key}, (valV kvs k).isSome = true ↔ k ∈ kvs.map Prod.fst
  | [], k => by
    rw [valV_nil]
    simp
  | p :: kvs, k => by
    have ih := valV_keys (kvs := kvs) (k := k)
    by_cases e : p.1 = k
    · rw [valV_pos e]
      simp [e]
    · rw [valV_neg e, ih, List.map_cons, List.mem_cons]
      exact ⟨.inr, fun h => h.resolve_left fun x => e x.symm⟩
theorem KnAt.has {H : Hp} {a : Addr} {kn : List Str} (h : KnAt H a kn) (z : Str) : ∃ o, DGet H a (.str z) o ∧ o.isSome = decide (z ∈ kn) := by
  obtain ⟨kvs, h1, h2⟩ := h
  refine ⟨_, DGet.k (k := .inr z) h1, ?_⟩
  rw [Bool.eq_iff_iff, valV_keys, h2, decide_eq_true_eq, List.mem_map]
  exact ⟨fun ⟨x, hx, e⟩ => by cases e; exact hx, fun hz => ⟨z, hz, rfl⟩⟩
theorem KnAt.put {H : Hp} {a : Addr} {kn : List Str} {kvs : List (Key × V)} (h1 : H a = some (.dK kvs)) (h2 : kvs.map (·.1) = kn.map (Sum.inr : Str → Key)) {zs : List Str} (hz : zs.length ≤ 1) (hn : ∀ z, z ∈ zs → z ∉ kn) :
    (mergeD kvs (zs.map fun z => ((.inr z : Key), V.bl true))).map (·.1) = (kn ++ zs).map (Sum.inr : Str → Key) := by
  match zs, hz with
  | [], _ => rw [List.append_nil]; exact h2
  | [z], _ =>
    have hk : valV kvs (.inr z) = none := by
      cases c : valV kvs (.inr z) with
      | none => rfl
      | some x =>
        have h3 := (valV_keys (kvs := kvs) (k := .inr z)).mp (by rw [c]; rfl)
        rw [h2] at h3
        obtain ⟨y, hy, e⟩ := List.mem_map.mp h3
        cases e
        exact (hn z (List.mem_singleton.mpr rfl) hy).elim
    show (putK kvs (.inr z) (.bl true)).map (·.1) = _
    rw [putK_new _ hk, List.map_append, h2, List.map_append]
    rfl
theorem letsL_le (d : PyData) : (letsL d).length ≤ 1 := by
  unfold letsL
  split
  · split <;> simp
  · simp
end
end L17

namespace L17
open PySem PySem.Spec PyProof.Rows L2 GR AD RZ WX ZE TX
def mayF (d : PyData) (kn : List Str) : Bool := !(letsL d).any (fun z => decide (z ∈ kn)) && (kidsS d).all (allX (varQ fun z => decide (z ∈ kn)))
/-- a transaction, from its statements, behind the names kn -/
def goT : List Str → List PyData → Bool
  | _, [] => true
  | kn, d :: ds => isSt d && (mayF d kn && goT (kn ++ letsL d) ds)
section
variable {P : Program} {w : World} {K : PySem.W.Frag} {mg : Str → Option Value} {base : Heap}
abbrev s_may_follow : Stmt := topS 34
abbrev N_mf : List Str := ["statement", "known", "name"]
theorem sc_may_follow : FnScope N_mf ["statement", "known"] (defScope s_may_follow) := ⟨rfl, rfl, rfl, by decide +kernel, rfl, by decide +kernel, by decide +kernel⟩
def sp_mf (K : PySem.W.Frag) : Sp := fun vs H Q _ => ∃ (v : V) (d : PyData) (ok : Addr → Prop) (a : Addr) (kn S : List Str), vs = [v, .ref a] ∧ Dd K ok H v d ∧ Sp' d ∧ KnAt H a kn ∧ S.length ≤ 60 ∧ varsIn S d ∧ ∀ H', Same H H' → Q (.bl (mayF d kn)) H'
theorem KnAt.keep {H H' : Hp} {a : Addr} {kn : List Str} (h : KnAt H a kn) (s : Same H H') : KnAt H' a kn := by
  obtain ⟨kvs, h1, h2⟩ := h
  exact ⟨kvs, s _ _ h1, h2⟩
theorem ok_may_follow {f fl fu : Addr} {fd dl du : FuncData} {k : Nat} (F : Fun K "may_follow" "may_follow" s_may_follow f fd) (Gl : FnOk P w K mg base CX0 k fl dl ["statement"] (sp_nl K)) (gl : mg "names_let" = some (.ref fl)) (Kl : PySem.W.keepIn K (.ref fl) = true) (bl : Binds K dl ["statement"] [])
    (Gu : FnOk P w K mg base CX0 k fu du ["statement"] (sp_nus K)) (gu : mg "names_used" = some (.ref fu)) (Ku : PySem.W.keepIn K (.ref fu) = true) (bu : Binds K du ["statement"] []) (mall : mg "all" = none) (many : mg "any" = none) : FnOk P w K mg base CX0 (k + 1) f fd ["statement", "known"] (sp_mf K) := by
  have nd := sc_may_follow.nd
  refine F.ok sc_may_follow (fun vs H Q E h => ?_) (fun cdv A outer s H vs Q E hr h => ?_)
  · obtain ⟨v, d, ok, a, kn, S, rfl, _⟩ := h
    rfl
  obtain ⟨v, d, ok, a, kn, S, rfl, hd, hs, hk, hS60, hv, q⟩ := h
  have hu1 := hu_of hr
  refine ⟨_, (pss_cons (ps_if (pt_val (pe_callB (cr_any rfl) (by rfl) many boot_any (pa_cons (pe_lc (own := [("name", 2)]) (tt := tYes) (te := tDIn (tVar 2) (tVar 1)) rfl nd (pi_keys (pe_frz (pe_call Gl hr (by rfl) gl Kl bl .nil pass0 (pa_cons (pv 0) pa_nil)))) (blkOk_by (N := N_mf) (sc := defScope s_may_follow) (by decide +kernel)) (fun _ _ _ _ _ => (pg_name (i := 2) nd rfl (Or.inl rfl))) (fun _ _ _ _ _ => pts_nil) (fun _ _ _ _ _ => pe_cmp (pc_din hu1 (pv 2) (pv 1)))) pa_nil)))
      (pss_one (ps_ret pe_bl))
      pss_nil)
      (pss_one (ps_ret (pe_callB (cr_all rfl) (by rfl) mall boot_all (pa_cons (pe_lc (own := [("name", 2)]) (tt := tYes) (te := tDIn (tVar 2) (tVar 1)) rfl nd (pi_list (pe_call Gu hr (by rfl) gu Ku bu .nil pass0 (pa_cons (pv 0) pa_nil))) (blkOk_by (N := N_mf) (sc := defScope s_may_follow) (by decide +kernel)) (fun _ _ _ _ _ => (pg_name (i := 2) nd rfl (Or.inl rfl))) (fun _ _ _ _ _ => pts_nil) (fun _ _ _ _ _ => pe_cmp (pc_din hu1 (pv 2) (pv 1)))) pa_nil))))), ?_⟩
  refine ⟨v, rfl, v, d, ok, rfl, hd, hs.st, fun H1 p s1 np hp => ⟨p, _, rfl, hp, trivial, fun od => ⟨p, od, rfl, .inl ⟨letK d, upd_same, fun D nD => ?_⟩⟩⟩⟩
  have s2 : Same H (upd H1 p (.frz od (.dK (letK d)))) := fun b o e => by
    rw [upd_ne (ne_of_none e np)]
    exact s1 _ _ e
  have hp2 : upd H1 p (.frz od (.dK (letK d))) p = some (.frz od (.dK (letK d))) := upd_same
  revert s2 hp2 nD
  generalize upd H1 p (.frz od (.dK (letK d))) = H2
  intro nD s2 hp2
  have hll := letsL_le d
  refine lc_it walk_keys (fun i H' => H' D = some (.lst (((letsL d).take i).map fun z => V.bl (decide (z ∈ kn)))) ∧ Same H2 H') ?_ ?_ ?_ ?_
  · exact ⟨upd_same, same_upd nD⟩
  · rintro i H' _ ⟨_, kk⟩
    exact kk _ _ hp2
  · rintro i x H' H'' hi ⟨hD, kk⟩ ⟨rfl, ky, u, hku, rfl⟩
    rw [List.getElem?_map] at hku
    obtain ⟨z, hz, e⟩ := Option.map_eq_some_iff.mp hku
    cases e
    obtain ⟨o, g1, g2⟩ := (hk.keep (s2.trans kk)).has z
    refine ⟨rfl, yes_then ⟨.str z, rfl, .ref a, rfl, a, o, rfl, g1, _, hD, small1000 ?_, ?_, fun b o e => ?_⟩⟩
    · rw [List.length_map, List.length_take]
      omega
    · rw [upd_same, take_at hz, List.map_append, g2]
      rfl
    · rw [upd_ne (ne_of_none e nD)]
      exact kk _ _ e
  · rintro H3 ⟨hD, kk⟩
    rw [List.length_map, List.take_length] at hD
    refine ⟨D, (letsL d).map fun z => decide (z ∈ kn), rfl, .inl (.inl (by rw [hD, List.map_map]; rfl)), ?_⟩
    have s3 := s2.trans kk
    rw [List.any_map]
    refine ⟨_, rfl, ?_⟩
    show if ((letsL d).any fun z => decide (z ∈ kn)) = true then _ else _
    unfold mayF at q
    cases c : (letsL d).any fun z => decide (z ∈ kn) with
    | true =>
      rw [c] at q
      exact iteT (q H3 s3)
    | false =>
    rw [c] at q
    simp only [Bool.not_false, Bool.true_and] at q
    refine iteF ⟨v, rfl, v, d, ok, S, rfl, hd.keep (KeepO.of s3), hs, hS60, hv, fun H4 pn zs s4 npn hpn hzl hzq => ⟨pn, rfl, ⟨_, .inl (.inl hpn)⟩, fun D2 nD2 => ?_⟩⟩
    refine walk_body (xs := zs.map V.str) (fun i H' => H' D2 = some (.lst (((zs.take i).map fun z => decide (z ∈ kn)).map V.bl)) ∧ Same H4 H') ?_ ?_ ?_ ?_
    · exact ⟨upd_same, same_upd nD2⟩
    · rintro i H' _ ⟨_, k4⟩
      exact .inl (.inl (k4 _ _ hpn))
    · rintro i y H' hy ⟨hD2, k4⟩
      rw [List.getElem?_map] at hy
      obtain ⟨z, hz, rfl⟩ := Option.map_eq_some_iff.mp hy
      obtain ⟨o, g1, g2⟩ := (hk.keep (s3.trans (s4.trans k4))).has z
      refine ⟨rfl, yes_then ⟨.str z, rfl, .ref a, rfl, a, o, rfl, g1, _, hD2, small1000 ?_, ?_, fun b o e => ?_⟩⟩
      · rw [List.length_map, List.length_map, List.length_take]
        omega
      · rw [upd_same, take_at hz, List.map_append, List.map_append, g2]
        rfl
      · rw [upd_ne (ne_of_none e nD2)]
        exact k4 _ _ e
    · rintro H5 ⟨hD2, k4⟩
      rw [List.length_map, List.take_length] at hD2
      refine ⟨D2, _, rfl, .inl (.inl hD2), ?_⟩
      rw [List.all_map]
      have := q H5 (s3.trans (s4.trans k4))
      rw [← hzq] at this
      exact this
abbrev s_is_transaction : Stmt := topS 30
theorem sc_is_transaction : FnScope ["thing", "known", "statement"] ["thing"] (defScope s_is_transaction) := ⟨rfl, rfl, rfl, by decide +kernel, rfl, by decide +kernel, by decide +kernel⟩
theorem small1000' {n : Nat} (h : n ≤ 8000000) : n ≤ sizeLine := by
  rw [sizeLine_eq]
  omega
mutual
/-- a text of the data is among S -/
def txS (S : List Str) : PyData → Bool
  | .tuple ds => txSs S ds
  | .str z => decide (z ∈ S)
  | _ => true
def txSs (S : List Str) : List PyData → Bool
  | [] => true
  | d :: ds => txS S d && txSs S ds
end
theorem txSs_mem {S : List Str} : ∀ {ds : List PyData}, txSs S ds = true → ∀ d, d ∈ ds → txS S d = true
  | [], _, d, h => (nomatch h)
  | x :: ds, h, d, hd => by
    rw [txSs, Bool.and_eq_true] at h
    rcases List.mem_cons.mp hd with rfl | hd
    · exact h.1
    · exact txSs_mem h.2 d hd
theorem pick_tx (W : List Str) {S : List Str} : ∀ {fs : List Str} {ds : List PyData}, (∀ d, d ∈ ds → txS S d = true) → ∀ y, y ∈ pick W fs ds → txS S y = true
  | [], _, _, y, hy => by simp only [pick, List.not_mem_nil] at hy
  | f :: fs, [], _, y, hy => by simp only [pick, List.not_mem_nil] at hy
  | f :: fs, d :: ds, h, y, hy => by
    rw [pick] at hy
    have hd := h d List.mem_cons_self
    rcases List.mem_append.mp hy with hy | hy
    · split at hy
      · cases d with
        | tuple xs =>
          rw [txS] at hd
          exact txSs_mem hd y hy
        | _ => exact (nomatch hy)
      · split at hy
        · rw [List.mem_singleton.mp hy]
          exact hd
        · exact (nomatch hy)
    · exact pick_tx W (fun x hx => h x (List.mem_cons_of_mem _ hx)) y hy
theorem txS_vars {S : List Str} {d : PyData} (h : txS S d = true) : allX (varQ fun z => decide (z ∈ S)) d = true := by
  refine allX_of (P := fun y => txS S y = true) (fun y hy => ⟨?_, fun z hz => ?_⟩) (sz d) d (Nat.le_refl _) h
  · unfold varQ
    cases c : varName y with
    | none => rfl
    | some z =>
      unfold varName at c
      split at c
      · rename_i w z' r
        split at c
        · cases c
          rw [txS, txSs, txSs, Bool.and_eq_true, Bool.and_eq_true] at hy
          exact hy.2.1
        · cases c
      · cases c
  · unfold kidsE at hz
    split at hz
    · rename_i w r
      split at hz
      · rw [txS, txSs, Bool.and_eq_true] at hy
        exact pick_tx W2 (txSs_mem hy.2) z hz
      · exact (nomatch hz)
    · exact (nomatch hz)
theorem txS_in {S : List Str} {d : PyData} (h : txS S d = true) (hs : isSt d = true) : varsIn S d := fun x hx => by
  obtain ⟨w, fs, r, rfl, lk, hf⟩ := isSt_inv hs
  rw [kidsS_some lk] at hx
  rw [txS, txSs, Bool.and_eq_true] at h
  exact txS_vars (txSs_mem h.2 x (exprs_isX hf x hx).2.2)
/-- what may be asked whether it is a statement -/
structure Zp (S : List Str) (d : PyData) : Prop where
  tx : txS S d = true
  ys : ∀ ds, d = .tuple ds → ∀ y, y ∈ ds → Yp y
def sp_it (K : PySem.W.Frag) : Sp := fun vs H Q _ => ∃ (a : Addr) (us : List V) (ds : List PyData) (ok : Addr → Prop) (S : List Str), vs = [.ref a] ∧ SqT K H a us ∧ DdAll K ok H us ds ∧ (∀ d, d ∈ ds → Zp S d) ∧ S.length ≤ 60 ∧ ds.length ≤ 4000000 ∧ ∀ H', Same H H' → Q (.bl (goT [] ds)) H'
def TInv (K : PySem.W.Frag) (ok : Addr → Prop) (a kA : Addr) (H0 : Hp) (ds : List PyData) (i : Nat) (σ : L2.St) (H : Hp) : Prop :=
  ∃ (y : Option V) (kn : List Str), σ = [some (.ref a), some (.ref kA), y] ∧ KnAt H kA kn ∧ kn.length ≤ i ∧ goT [] ds = goT kn (ds.drop i) ∧ (∀ b o, b ≠ kA → H0 b = some o → H b = some o)
theorem ok_is_transaction {f fl fs fm : Addr} {fd dl dS dm : FuncData} {k : Nat} (F : Fun K "is_transaction" "is_transaction" s_is_transaction f fd) (Gl : FnOk P w K mg base CX0 k fl dl ["statement"] (sp_nl K)) (gl : mg "names_let" = some (.ref fl)) (Kl : PySem.W.keepIn K (.ref fl) = true) (bl : Binds K dl ["statement"] [])
    (Gs : FnOk P w K mg base CX0 k fs dS ["thing"] (sp_ist K)) (gs : mg "is_statement" = some (.ref fs)) (Ks : PySem.W.keepIn K (.ref fs) = true) (bs : Binds K dS ["thing"] [])
    (Gm : FnOk P w K mg base CX0 k fm dm ["statement", "known"] (sp_mf K)) (gm : mg "may_follow" = some (.ref fm)) (Km : PySem.W.keepIn K (.ref fm) = true) (bm : Binds K dm ["statement", "known"] []) (misi : mg "isinstance" = none) (mtuple : mg "tuple" = none) : FnOk P w K mg base CX0 (k + 1) f fd ["thing"] (sp_it K) := by
  have nd := sc_is_transaction.nd
  refine F.ok sc_is_transaction (fun vs H Q E h => ?_) (fun cdv A outer s H vs Q E hr h => ?_)
  · obtain ⟨a, us, ds, ok, S, rfl, _⟩ := h
    rfl
  obtain ⟨a, us, ds, ok, S, rfl, hS, hA, hZ, hS60, hl1000, q⟩ := h
  refine ⟨_, (pss_cons (ps_if (pt_not (pt_val (pe_callB call_isi (by rfl) misi boot_isinstance (pa_cons (pv 0) (pa_cons (pe_bltn (v := .ty "tuple") (by rfl) mtuple boot_tuple rfl) pa_nil)))))
      (pss_one (ps_ret pe_bl))
      pss_nil)
      (pss_cons (ps_set (i := 1) nd rfl (.inl rfl) pe_dnewK)
      (pss_cons (ps_for PassesOwn.never rfl (pi_tup (pv 0)) (pg_name (i := 2) nd rfl (Or.inl rfl))
      (pss_cons (ps_if (PW.pt (pw_or (pt_not (pt_val (pe_call Gs hr (by rfl) gs Ks bs .nil pass0 (pa_cons (pv 2) pa_nil)))) (pw_or1 (pt_not (pt_val (pe_call Gm hr (by rfl) gm Km bm .nil pass0 (pa_cons (pv 2) (pa_cons (pv 1) pa_nil))))))))
        (pss_one (ps_ret pe_bl))
        pss_nil)
        (pss_one (ps_expr (pe_bm PySem.F.plainAttrs_dict PySem.F.slot_dict_update PySem.F.type_dict_update mt_dupd (pv 1) (pa_cons (pe_call Gl hr (by rfl) gl Kl bl .nil pass0 (pa_cons (pv 2) pa_nil)) pa_nil))))))
      (pss_one (ps_ret pe_bl))))), ?_⟩
  have hd : Dd K ok H (.ref a) (.tuple ds) := .tup hS hA
  have lu := hA.len
  refine ⟨.ref a, rfl, .ref a, .ty "tuple", _, _, _, rfl, .ty "tuple", hd.ty, kit_t K _, _, rfl, iteF ?_⟩
  refine fun kA nk => ⟨.ref a, rfl, a, rfl, ⟨us, (KeepT.of (same_upd nk)).seqt hS⟩, ?_⟩
  have s0 := same_upd (o := .dK []) nk
  have hk0 : KnAt (upd H kA (.dK [])) kA [] := ⟨[], upd_same, rfl⟩
  revert s0 hk0
  generalize upd H kA (.dK []) = H1
  intro s0 hk0
  obtain ⟨kvs0, hk00, _⟩ := id hk0
  have keepO : ∀ {H' : Hp}, (∀ b o, b ≠ kA → H1 b = some o → H' b = some o) → KeepO (fun b => ok b ∧ b ≠ kA) H1 H' := fun kk =>
    ⟨fun b xs e => kk _ _ (ne_of e hk00 fun z => nomatch z) e, fun b o xs e => kk _ _ (ne_of e hk00 fun z => nomatch z) e, fun b o hb e => kk _ _ hb.2 e⟩
  have hAo := (hA.off nk).keep (KeepO.of s0)
  have hS1 := (KeepT.of s0).seqt hS
  refine for_it (walk_tup (xs := us)) (TInv K ok a kA H1 ds) ⟨none, [], rfl, hk0, Nat.le_refl _, rfl, fun b o _ e => e⟩ ?_ ?_ ?_
  · rintro i σ H' _ ⟨y, kn, rfl, _, _, _, kk⟩
    exact (keepO kk).seqt hS1
  · rintro i x σ H0' H' hi ⟨y, kn, rfl, hk, hkl, hg, kk⟩ ⟨rfl, hx⟩
    obtain ⟨d, hdi, hxd⟩ := dd_at hAo hx
    have hz := hZ d (List.mem_of_getElem? hdi)
    have hi2 : i < ds.length := (List.getElem?_eq_some_iff.mp hdi).1
    have hxd1 := hxd.keep (keepO kk)
    have fin : ∀ H2, Same H' H2 → Same H H2 := fun H2 s2 b o e => s2 _ _ (kk _ _ (ne_of_none e nk) (s0 _ _ e))
    rw [List.drop_eq_getElem_cons hi2, (List.getElem?_eq_some_iff.mp hdi).2, goT] at hg
    refine ⟨x, rfl, x, d, _, rfl, hxd1, hz.ys, fun H2 s2 => ⟨_, rfl, ?_⟩⟩
    cases c1 : isSt d with
    | false =>
      rw [c1, Bool.false_and] at hg
      have := q H2 (fin H2 s2)
      rw [hg] at this
      exact iteT (iteT this)
    | true =>
    rw [c1, Bool.true_and] at hg
    have hsp : Sp' d := ⟨c1, hz.ys⟩
    refine iteF ⟨x, rfl, .ref kA, rfl, x, d, _, kA, kn, S, rfl, hxd1.keep (KeepO.of s2), hsp, hk.keep s2, hS60, txS_in hz.tx c1, fun H3 s3 => ⟨_, rfl, ?_⟩⟩
    have s23 := s2.trans s3
    cases c2 : mayF d kn with
    | false =>
      rw [c2, Bool.false_and] at hg
      have := q H3 (fin H3 s23)
      rw [hg] at this
      exact iteT this
    | true =>
    rw [c2, Bool.true_and] at hg
    have hk3 := hk.keep s23
    have hty : tyV K "dict" (.ref kA) H3 := by
      obtain ⟨kvs, g1, _⟩ := hk3
      exact .inr (.inr (.inl ⟨rfl, .inl ⟨kvs, g1⟩⟩))
    refine iteF ⟨.ref kA, rfl, hty, x, rfl, x, d, _, rfl, hxd1.keep (KeepO.of s23), c1, fun H4 p s4 np hp => ?_⟩
    obtain ⟨kvs, g1, g2⟩ := hk3
    have g4 := s4 _ _ g1
    have hll := letsL_le d
    have hkv : kvs.length = kn.length := by
      have := congrArg List.length g2
      rwa [List.length_map, List.length_map] at this
    have hnot : ∀ z, z ∈ letsL d → z ∉ kn := by
      unfold mayF at c2
      rw [Bool.and_eq_true, Bool.not_eq_true'] at c2
      intro z hz2 hzk
      have := List.any_eq_false.mp c2.1 z hz2
      exact this (decide_eq_true hzk)
    refine ⟨kA, p, kvs, _, rfl, rfl, ne_of_none g1 np, g4, hp, ?_, some x, kn ++ letsL d, rfl, ⟨_, upd_same, KnAt.put g4 g2 hll hnot⟩, ?_, hg, fun b o hb e => ?_⟩
    · rw [List.length_map]
      exact small1000' (by omega)
    · rw [List.length_append]
      omega
    · rw [upd_ne hb]
      exact s4 _ _ (s23 _ _ (kk b o hb e))
  · rintro σ H' ⟨y, kn, rfl, hk, hkl, hg, kk⟩
    rw [lu, List.drop_length] at hg
    have := q H' fun b o e => kk _ _ (ne_of_none e nk) (s0 _ _ e)
    rw [hg] at this
    exact this
end
end L17

namespace L17
open PySem PySem.Spec PyProof.Rows L2 GR AD RZ WX ZE TX
theorem walk_zipM {K : PySem.W.Frag} {a b : Addr} {xs ys : List V} (hy : ys.length ≤ xs.length) : Walk (ItzT K a b) ys.length (fun H => SqT K H a xs ∧ SqT K H b ys) (YPair (fun i => xs[i]?) (fun i => ys[i]?)) := by
  refine ⟨fun i H hi q => ⟨xs, ys, xs[i]'(by omega), ys[i]'(by omega), q.1, q.2, List.getElem?_eq_getElem _, List.getElem?_eq_getElem _⟩, fun H q => ⟨xs, ys, q.1, q.2, .inr (Nat.le_refl _)⟩, fun i H v H' hi q y => ?_⟩
  obtain ⟨T, x, z, h1, h2, h3, h4, h5⟩ := y
  exact ⟨T, x, z, h1, h2, h3, h4 xs q.1, h5 ys q.2⟩
def iv : PyData → Int
  | .int i => i
  | _ => 0
def upB : List Int → Bool
  | a :: b :: r => decide (a ≤ b) && upB (b :: r)
  | _ => true
def marksB (ms : List PyData) : Bool := ms.all isI && (!ms.isEmpty && (decide ((ms.map iv).headD 0 = 0) && (decide ((ms.map iv).getLastD 0 ≤ 10000) && upB (ms.map iv))))
def marksD : PyData → Bool
  | .tuple ms => marksB ms
  | _ => false
theorem upB_zip : ∀ l : List Int, ((l.zip (l.drop 1)).map fun p => decide (p.1 ≤ p.2)).all id = upB l
  | [] => rfl
  | [a] => rfl
  | a :: b :: r => by
    have ih := upB_zip (b :: r)
    rw [List.drop_succ_cons, List.drop_zero] at ih ⊢
    rw [List.zip_cons_cons, List.map_cons, List.all_cons, ih]
    rfl
theorem ints_vs {K : PySem.W.Frag} {ok : Addr → Prop} {H : Hp} : ∀ {vs : List V} {ms : List PyData}, DdAll K ok H vs ms → ms.all isI = true → vs = (ms.map iv).map V.int
  | _, _, .nil, _ => rfl
  | _, _, .cons h t, hm => by
    rw [List.all_cons, Bool.and_eq_true] at hm
    cases h with
    | int i => rw [List.map_cons, List.map_cons, ← ints_vs t hm.2]; rfl
    | _ => cases hm.1
theorem cut1 (v : V) (vs : List V) : cutV (v :: vs) (some 1) none = vs := by
  unfold cutV
  rw [HT.sIx_none, show HT.sIx (v :: vs).length 0 (some 1) = min 1 (v :: vs).length from HT.sIx_nat _ _ 1, List.length_cons, show min 1 (vs.length + 1) = 1 by omega, List.drop_succ_cons, List.drop_zero, show vs.length + 1 - 1 = vs.length by omega, List.take_length]
section
variable {P : Program} {w : World} {K : PySem.W.Frag} {mg : Str → Option Value} {base : Heap}
abbrev s_are_marks : Stmt := topS 41
abbrev N_ams : List Str := ["thing", "one", "other", "mark"]
theorem sc_are_marks : FnScope N_ams ["thing"] (defScope s_are_marks) := ⟨rfl, rfl, rfl, by decide +kernel, rfl, by decide +kernel, by decide +kernel⟩
def shortD (d : PyData) : Prop := ∀ ds, d = .tuple ds → ds.length ≤ 4000000
def sp_sh (K : PySem.W.Frag) (f : PyData → Bool) : Sp := fun vs H Q _ => ∃ (v : V) (d : PyData) (ok : Addr → Prop), vs = [v] ∧ Dd K ok H v d ∧ shortD d ∧ ∀ H', Same H H' → Q (.bl (f d)) H'
theorem ok_are_marks {f fi : Addr} {fd di : FuncData} {k : Nat} {tl : Tok} (F : Fun K "are_marks" "are_marks" s_are_marks f fd) (Gi : FnOk P w K mg base CX0 k fi di ["thing"] (sp_is K isI)) (gi : mg "is_integer" = some (.ref fi)) (Ki : PySem.W.keepIn K (.ref fi) = true) (bi : Binds K di ["thing"] [])
    (mLP : mg "LAST_POSITION" = some (.int 10000 tl)) (misi : mg "isinstance" = none) (mtuple : mg "tuple" = none) (mall : mg "all" = none) (mzip : mg "zip" = none) : FnOk P w K mg base CX0 (k + 1) f fd ["thing"] (sp_sh K marksD) := by
  have nd := sc_are_marks.nd
  refine F.ok sc_are_marks (fun vs H Q E h => ?_) (fun cdv A outer s H vs Q E hr h => ?_)
  · obtain ⟨v, d, ok, rfl, _⟩ := h
    rfl
  obtain ⟨v, d, ok, rfl, hd, hsh, q⟩ := h
  refine ⟨_, (pss_cons (ps_if (PW.pt (pw_or (pt_not (pt_val (pe_callB call_isi (by rfl) misi boot_isinstance (pa_cons (pv 0) (pa_cons (pe_bltn (v := .ty "tuple") (by rfl) mtuple boot_tuple rfl) pa_nil))))) (pw_or1 (pt_not (pt_val (pe_callB (cr_all rfl) (by rfl) mall boot_all (pa_cons (pe_lc (own := [("mark", 3)]) (tt := tYes) (te := tCall (sp_is K isI) [] E0 (tCons (tVar 3) tNil)) rfl nd (pi_tup (pv 0)) (blkOk_by (N := N_ams) (sc := defScope s_are_marks) (by decide +kernel)) (fun _ _ _ _ _ => (pg_name (i := 3) nd rfl (Or.inl rfl))) (fun _ _ _ _ _ => pts_nil) (fun _ _ _ _ _ => (pe_call Gi hr (by rfl) gi Ki bi .nil pass0 (pa_cons (pv 3) pa_nil)))) pa_nil)))))))
      (pss_one (ps_ret pe_bl))
      pss_nil)
      (pss_cons (ps_if (PW.pt (pw_or (pt_not (pt_truth (pv 0) (fun _ => rfl))) (pw_or (pt_cmpR op_ne (pe_ix ix_tup (pv 0) pe_int (fun _ _ => rfl)) pe_int (nomark _)) (pw_or1 (pt_cmpR op_gt (pe_ix ix_tup (pv 0) (pe_un un_neg pe_int) (fun _ _ => rfl)) (pe_glob (v := .int 10000) rfl mLP ⟨_, rfl⟩) (nomark _))))))
      (pss_one (ps_ret pe_bl))
      pss_nil)
      (pss_one (ps_ret (pe_callB (cr_all rfl) (by rfl) mall boot_all (pa_cons (pe_lc (own := [("one", 1), ("other", 2)]) (g := gTup K 2 (gCons (gName 1) (gCons (gName 2) gNil))) (tt := tYes) (te := tOp (rI0 fun i j => .bl (decide (i ≤ j))) (tVar 1) (tVar 2)) rfl nd (pi_zipA (by rfl) mzip (pa_cons (pv 0) (pa_cons (pe_slice L2.sl_tup (pv 0) (po_some pe_int) po_none) pa_nil))) (blkOk_by (N := N_ams) (sc := defScope s_are_marks) (by decide +kernel)) (fun _ _ _ _ _ => (pg_tup rfl (pgs_cons (pg_name (i := 1) (x := "one") nd rfl (Or.inl rfl)) (pgs_cons (pg_name (i := 2) (x := "other") nd rfl (Or.inl rfl)) pgs_nil)))) (fun _ _ _ _ _ => pts_nil) (fun _ _ _ _ _ => (pe_cmpR op_le (pv 1) (pv 2) (nomark _)))) pa_nil)))))), ?_⟩
  refine ⟨v, rfl, v, .ty "tuple", _, _, _, rfl, .ty "tuple", hd.ty, kit_t K d, _, rfl, ?_⟩
  cases hd with
  | tup hS hA =>
    rename_i a vs ds
    have q1 : ∀ H', Same H H' → Q (.bl (marksB ds)) H' := q
    have hl := hsh ds rfl
    have lA := hA.len
    refine iteF ⟨.ref a, rfl, a, rfl, ⟨vs, hS⟩, fun D nD => ?_⟩
    refine walk_bodyT (xs := vs) (BInv isI H D ds) (BInv.start nD) ?_ ?_ ?_
    · rintro i H' _ B
      exact (KeepT.of B.2).seqt hS
    · rintro i y H' hy B
      obtain ⟨x, hx, hyx⟩ := dd_at (hA.keep (KeepO.of B.2)) hy
      exact ⟨rfl, yes_then ⟨y, rfl, y, x, ok, rfl, hyx, B.step nD (fun _ _ e => e) hx hl⟩⟩
    · rintro H1 ⟨hD, s1⟩
      rw [lA, List.take_length] at hD
      refine ⟨D, _, rfl, .inl (.inl hD), _, rfl, ?_⟩
      rw [all_map]
      unfold marksB at q1
      cases c : ds.all isI with
      | false =>
        rw [c] at q1
        exact iteT (q1 H1 s1)
      | true =>
      rw [c] at q1
      simp only [Bool.true_and] at q1
      have hvs := ints_vs hA c
      have hS1 := (KeepT.of s1).seqt hS
      have hA1 := hA.keep (KeepO.of s1)
      refine iteF ⟨.ref a, rfl, !vs.isEmpty, .inr (.inl ⟨vs, hS1, rfl⟩), ?_⟩
      cases ds with
      | nil =>
        cases hA
        exact iteT (q1 H1 s1)
      | cons d0 dr =>
      have hms : (d0 :: dr).map iv = iv d0 :: dr.map iv := rfl
      revert q1 hvs
      rw [hms]
      generalize iv d0 = m0
      generalize hmr : dr.map iv = mr
      intro q1 hvs
      have hlm : mr.length ≤ 4000000 := by
        rw [← hmr, List.length_map]
        rw [List.length_cons] at hl
        omega
      have hne : (m0 :: mr) ≠ [] := List.cons_ne_nil _ _
      obtain ⟨fr, la, hfl⟩ : ∃ fr la, m0 :: mr = fr ++ [la] := ⟨_, _, (List.dropLast_concat_getLast hne).symm⟩
      have hla : (m0 :: mr).getLastD 0 = la := by
        rw [hfl]
        simp
      rw [hla] at q1
      subst hvs
      simp only [List.isEmpty_cons, Bool.not_false, Bool.true_and, List.headD_cons] at q1
      refine iteF ⟨.ref a, rfl, a, _, 0, .int m0, rfl, rfl, hS1, at0, rfl, _, rfl, ?_⟩
      rw [show decide (V.int m0 = V.int 0) = decide (m0 = 0) from decide_eq_decide.mpr ⟨fun e => V.int.inj e, fun e => by rw [e]⟩]
      by_cases c1 : m0 = 0
      case neg =>
        simp only [c1, decide_false, Bool.false_and] at q1
        rw [decide_eq_false c1]
        exact iteT (iteT (q1 H1 s1))
      simp only [c1, decide_true, Bool.true_and] at q1
      rw [decide_eq_true c1]
      have hal : atI ((m0 :: mr).map V.int) (-1) = some (.int la) := by
        rw [hfl, List.map_append]
        exact atI_last _ _
      refine iteF ⟨.ref a, rfl, 1, rfl, a, _, -1, .int la, rfl, rfl, hS1, hal, la, 10000, rfl, rfl, _, rfl, ?_⟩
      by_cases c2 : la ≤ 10000
      case neg =>
        simp only [decide_eq_false c2, Bool.false_and] at q1
        rw [decide_eq_true (show 10000 < la by omega)]
        exact iteT (q1 H1 s1)
      simp only [decide_eq_true c2, Bool.true_and] at q1
      rw [decide_eq_false (show ¬ 10000 < la by omega)]
      refine iteF ⟨.ref a, rfl, .ref a, rfl, 1, rfl, a, _, rfl, hS1, ?_, fun c nc => ?_⟩
      · rw [List.length_map, List.length_cons]
        rintro ⟨e, _⟩
        have : HT.sIx (mr.length + 1) 0 (some 1) = min 1 (mr.length + 1) := HT.sIx_nat _ _ 1
        rw [this] at e
        omega
      have hcut : cutV ((m0 :: mr).map V.int) (some 1) none = mr.map V.int := cut1 _ _
      rw [hcut]
      have sc := same_upd (o := .tup (mr.map V.int)) nc
      have hc1 : upd H1 c (.tup (mr.map V.int)) c = some (.tup (mr.map V.int)) := upd_same
      have hS2 := (KeepT.of sc).seqt hS1
      have s12 := s1.trans sc
      revert s12 hc1 hS2
      generalize upd H1 c (.tup (mr.map V.int)) = H2
      intro hc1 hS2 s12
      refine ⟨a, c, _, _, rfl, .inr ⟨hS2, .inl (.inl hc1), fun D2 nD2 => ?_⟩⟩
      have hz0 : ((m0 :: mr).zip mr).length = mr.length := by
        rw [List.length_zip, List.length_cons]
        omega
      refine lc_it (walk_zipM (xs := (m0 :: mr).map V.int) (ys := mr.map V.int) (by rw [List.length_map, List.length_map, List.length_cons]; omega)) (fun i H' => H' D2 = some (.lst (((((m0 :: mr).zip mr).take i).map fun p => decide (p.1 ≤ p.2)).map V.bl)) ∧ Same H2 H') ?_ ?_ ?_ ?_
      · exact ⟨upd_same, same_upd nD2⟩
      · rintro i H' _ ⟨_, kp⟩
        exact ⟨(KeepT.of kp).seqt hS2, .inl (.inl (kp _ _ hc1))⟩
      · rintro i x H3 H' hi ⟨hD3, kp⟩ ⟨T1, x1, y1, rfl, hT, rfl, hx1, hy1⟩
        replace hx1 : ((m0 :: mr).map V.int)[i]? = some x1 := hx1
        replace hy1 : (mr.map V.int)[i]? = some y1 := hy1
        rw [List.getElem?_map] at hx1 hy1
        obtain ⟨xi, hxi, rfl⟩ := Option.map_eq_some_iff.mp hx1
        obtain ⟨yi, hyi, rfl⟩ := Option.map_eq_some_iff.mp hy1
        have sT := same_upd (o := .tup [.int xi, .int yi]) hT
        have hz : ((m0 :: mr).zip mr)[i]? = some (xi, yi) := List.getElem?_zip_eq_some.mpr ⟨hxi, hyi⟩
        refine ⟨_, _, rfl, .inl (.inl upd_same), rfl, _, _, rfl, _, _, rfl, rfl, rfl, yes_then ⟨.int xi, rfl, .int yi, rfl, xi, yi, rfl, rfl, _, sT _ _ hD3, ?_, ?_, fun b o e => ?_⟩⟩
        · rw [List.length_map, List.length_map, List.length_take, sizeLine_eq]
          omega
        · rw [upd_same, take_at hz, List.map_append, List.map_append]
          rfl
        · rw [upd_ne (ne_of_none e nD2)]
          exact sT _ _ (kp _ _ e)
      · rintro H3 ⟨hD3, kp⟩
        rw [List.length_map, ← hz0, List.take_length] at hD3
        refine ⟨D2, _, rfl, .inl (.inl hD3), ?_⟩
        have := upB_zip (m0 :: mr)
        rw [List.drop_succ_cons, List.drop_zero] at this
        rw [this]
        have q2 := q1 H3 (s12.trans kp)
        rw [← c1] at q2
        exact q2
  | _ => exact iteT (iteT (q H fun _ _ e => e))
end
end L17

namespace L17
open PySem PySem.Spec PyProof.Rows L2 GR AD RZ WX ZE TX
/-- a line: a place and what stands there -/
def lineB (least hi : Int) : PyData → Bool
  | .tuple [.int p, _] => decide (least ≤ p) && decide (p < hi)
  | _ => false
def lineP : PyData → Int
  | .tuple [.int p, _] => p
  | _ => 0
def lineX : PyData → PyData
  | .tuple [_, x] => x
  | _ => .none
def entsB (hi : Int) : Int → List PyData → Bool
  | _, [] => true
  | least, d :: r => lineB least hi d && entsB hi (lineP d + 1) r
def entsD (hi : Int) : PyData → Bool
  | .tuple es => entsB hi 0 es
  | _ => false
section
variable {P : Program} {w : World} {K : PySem.W.Frag} {mg : Str → Option Value} {base : Heap}
abbrev s_are_entries : Stmt := topS 42
abbrev N_aen : List Str := ["thing", "end", "least", "entry"]
theorem sc_are_entries : FnScope N_aen ["thing", "end"] (defScope s_are_entries) := ⟨rfl, rfl, rfl, by decide +kernel, rfl, by decide +kernel, by decide +kernel⟩
def sp_aen (K : PySem.W.Frag) : Sp := fun vs H Q _ => ∃ (v : V) (d : PyData) (ok : Addr → Prop) (hi : Int), vs = [v, .int hi] ∧ Dd K ok H v d ∧ shortD d ∧ (∀ ds, d = .tuple ds → ∀ y, y ∈ ds → shortD y) ∧ Q (.bl (entsD hi d)) H
theorem ok_are_entries {f fi : Addr} {fd di : FuncData} {k : Nat} (F : Fun K "are_entries" "are_entries" s_are_entries f fd) (Gi : FnOk P w K mg base CX0 k fi di ["thing"] (sp_is K isI)) (gi : mg "is_integer" = some (.ref fi)) (Ki : PySem.W.keepIn K (.ref fi) = true) (bi : Binds K di ["thing"] [])
    (misi : mg "isinstance" = none) (mtuple : mg "tuple" = none) (mlen : mg "len" = none) : FnOk P w K mg base CX0 (k + 1) f fd ["thing", "end"] (sp_aen K) := by
  have nd := sc_are_entries.nd
  refine F.ok sc_are_entries (fun vs H Q E h => ?_) (fun cdv A outer s H vs Q E hr h => ?_)
  · obtain ⟨v, d, ok, hi, rfl, _⟩ := h
    rfl
  obtain ⟨v, d, ok, hi, rfl, hd, hsh, hsh2, q⟩ := h
  refine ⟨_, (pss_cons (ps_if (pt_not (pt_val (pe_callB call_isi (by rfl) misi boot_isinstance (pa_cons (pv 0) (pa_cons (pe_bltn (v := .ty "tuple") (by rfl) mtuple boot_tuple rfl) pa_nil)))))
      (pss_one (ps_ret pe_bl))
      pss_nil)
      (pss_cons (ps_set (i := 2) nd rfl (.inl rfl) pe_int)
      (pss_cons (ps_for PassesOwn.never rfl (pi_tup (pv 0)) (pg_name (i := 3) nd rfl (Or.inl rfl))
      (pss_cons (ps_if (PW.pt (pw_or (pt_not (pt_val (pe_callB call_isi (by rfl) misi boot_isinstance (pa_cons (pv 3) (pa_cons (pe_bltn (v := .ty "tuple") (by rfl) mtuple boot_tuple rfl) pa_nil))))) (pw_or (pt_cmpR op_ne (pe_callB call_len_seq (by rfl) mlen PySem.boot_len (pa_cons (pv 3) pa_nil)) pe_int (nomark _)) (pw_or1 (pt_not (pt_val (pe_call Gi hr (by rfl) gi Ki bi .nil pass0 (pa_cons (pe_ix ix_tup (pv 3) pe_int (fun _ _ => rfl)) pa_nil))))))))
        (pss_one (ps_ret pe_bl))
        pss_nil)
        (pss_cons (ps_if (pt_not (pt_chain op_le op_lt (pv 2) (pe_ix ix_tup (pv 3) pe_int (fun _ _ => rfl)) (pv 1)))
        (pss_one (ps_ret pe_bl))
        pss_nil)
        (pss_one (ps_set (i := 2) nd rfl (.inl rfl) (pe_op op_add (pe_ix ix_tup (pv 3) pe_int (fun _ _ => rfl)) pe_int))))))
      (pss_one (ps_ret pe_bl))))), ?_⟩
  refine ⟨v, rfl, v, .ty "tuple", _, _, _, rfl, .ty "tuple", hd.ty, kit_t K d, _, rfl, ?_⟩
  cases hd with
  | tup hS hA =>
    rename_i a vs ds
    have lA := hA.len
    refine iteF ⟨.ref a, rfl, a, rfl, ⟨vs, hS⟩, ?_⟩
    refine for_it (walk_tup (xs := vs)) (fun i σ H' => ∃ (y : Option V) (least : Int), σ = [some (.ref a), some (.int hi), some (.int least), y] ∧ H' = H ∧ entsB hi 0 ds = entsB hi least (ds.drop i)) ⟨none, 0, rfl, rfl, rfl⟩ ?_ ?_ ?_
    · rintro i σ H' _ ⟨y, least, rfl, rfl, _⟩
      exact hS
    · rintro i x σ H0' H' hi2 ⟨y, least, rfl, rfl, hg⟩ ⟨rfl, hx⟩
      obtain ⟨e, hei, hxe⟩ := dd_at hA hx
      have hi3 : i < ds.length := (List.getElem?_eq_some_iff.mp hei).1
      have hse := hsh2 ds rfl e (List.mem_of_getElem? hei)
      rw [List.drop_eq_getElem_cons hi3, (List.getElem?_eq_some_iff.mp hei).2, entsB] at hg
      have qf : entsB hi 0 ds = false → Q (.bl false) H' := fun e => by
        have q2 : Q (.bl (entsB hi 0 ds)) H' := q
        rw [e] at q2
        exact q2
      refine ⟨x, rfl, x, .ty "tuple", _, _, _, rfl, .ty "tuple", hxe.ty, kit_t K e, _, rfl, ?_⟩
      cases hxe with
      | tup hS2 hB =>
        rename_i b us es
        have lB := hB.len
        have hle := hse es rfl
        refine iteF ⟨.ref b, rfl, b, us, rfl, .inr hS2, rfl, _, rfl, ?_⟩
        by_cases c : es.length = 2
        case neg =>
          have hw : lineB least hi (.tuple es) = false := by
            unfold lineB
            split
            · rename_i h
              cases h
              exact (c rfl).elim
            · rfl
          rw [hw, Bool.false_and] at hg
          rw [decide_eq_false (show ¬ V.int ((us.length : Nat) : Int) = V.int 2 from fun e => c (by injection e with e; omega))]
          exact iteT (iteT (qf hg))
        match es, c, hB with
        | [e0, e1], _, hB =>
        cases hB with
        | @cons v0 _ _ _ g0 hB =>
        cases hB with
        | @cons v1 _ _ _ g1 hB =>
        cases hB
        refine iteF ⟨.ref b, rfl, b, _, 0, v0, rfl, rfl, hS2, at0, v0, e0, ok, rfl, g0, _, rfl, ?_⟩
        cases g0 with
        | int p =>
          have hw : lineB least hi (.tuple [.int p, e1]) = (decide (least ≤ p) && decide (p < hi)) := rfl
          have hp : lineP (.tuple [.int p, e1]) = p := rfl
          rw [hw, hp] at hg
          refine iteF ⟨.int least, rfl, .ref b, rfl, b, _, 0, .int p, rfl, rfl, hS2, at0, least, p, rfl, rfl, _, rfl, ?_⟩
          by_cases c1 : least ≤ p
          case neg =>
            rw [decide_eq_false c1, Bool.false_and, Bool.false_and] at hg
            rw [decide_eq_false c1]
            exact iteF ⟨_, rfl, iteT (qf hg)⟩
          rw [decide_eq_true c1, Bool.true_and] at hg
          rw [decide_eq_true c1]
          refine iteT ⟨.int hi, rfl, p, hi, rfl, rfl, _, rfl, ?_⟩
          by_cases c2 : p < hi
          case neg =>
            rw [decide_eq_false c2, Bool.false_and] at hg
            rw [decide_eq_false c2]
            exact iteT (qf hg)
          rw [decide_eq_true c2, Bool.true_and] at hg
          rw [decide_eq_true c2]
          exact iteF ⟨.ref b, rfl, b, _, 0, .int p, rfl, rfl, hS2, at0, p, 1, rfl, rfl, _, _, rfl, rfl, hg⟩
        | _ => exact iteT (qf (by rw [hg]; rfl))
      | _ => exact iteT (iteT (qf (by rw [hg]; rfl)))
    · rintro σ H' ⟨y, least, rfl, rfl, hg⟩
      rw [lA, List.drop_length] at hg
      have q2 : Q (.bl (entsB hi 0 ds)) H' := q
      rw [hg] at q2
      exact q2
  | _ => exact iteT q
end
end L17

/-! t[::-1] of a tuple; list(t) not where the modules are. -/
namespace RVT
open PySem PySem.Spec PyProof.Rows L2 HT
theorem adjust_rev (n : Nat) : Builtin.Slice.sliceAdjust none none (-1) (n : Int) = ((n : Int) - 1, -1) := by
  unfold Builtin.Slice.sliceAdjust
  have h1 : ((-1 : Int) < 0) := by decide
  simp only [h1, if_true]
theorem places_rev (n : Nat) : Builtin.Slice.slicePlaces ((n : Int) - 1) (-1) (-1) = n := by
  unfold Builtin.Slice.slicePlaces
  have h1 : ¬ ((-1 : Int) > 0) := by decide
  simp only [h1, if_false]
  by_cases h : (n : Int) - 1 > -1
  · rw [if_pos h, show (- -1 : Int) = 1 by decide, Int.ediv_one]
    omega
  · rw [if_neg h]
    omega
theorem pick_rev (xs : Array Value) : ((List.range xs.size).filterMap fun (m : Nat) => xs[((xs.size : Int) - 1 + (m : Int) * (-1)).toNat]?).toArray = xs.toList.reverse.toArray := by
  have e : (List.range xs.size).filterMap (fun (m : Nat) => xs[((xs.size : Int) - 1 + (m : Int) * (-1)).toNat]?) = ((List.range xs.size).map fun k => xs.size - 1 - k).filterMap (xs[·]?) := by
    have g : ∀ l : List Nat, (∀ m, m ∈ l → m < xs.size) → l.filterMap (fun (m : Nat) => xs[((xs.size : Int) - 1 + (m : Int) * (-1)).toNat]?) = (l.map fun k => xs.size - 1 - k).filterMap (xs[·]?) := by
      intro l
      induction l with
      | nil => intro _; rfl
      | cons m l ih =>
        intro h
        have hm := h m List.mem_cons_self
        have e1 : ((xs.size : Int) - 1 + (m : Int) * (-1)).toNat = xs.size - 1 - m := by omega
        rw [List.map_cons, List.filterMap_cons, List.filterMap_cons, e1, ih fun y hy => h y (List.mem_cons_of_mem _ hy)]
    exact g _ fun m hm => List.mem_range.mp hm
  rw [e, PySem.W.krv_range, List.filterMap_reverse, PySem.W.krv_all]
section
variable {prog : Program} {w : World} {A : Around} {E : Value → Shared → Prop} {s : Shared}
theorem sliceApplied_rev {sl : Addr} {vl vu vs : Value} {n : Nat} {Q : Int × Int × Nat → Shared → Prop} (hs : s.heap.IsSliceOf sl vl vu vs) (pl : IsPart vl none) (pu : IsPart vu none) (ps : IsPart vs (some (-1)))
    (h : Q ((n : Int) - 1, -1, n) s) : wpAny (model prog w) A (Builtin.Slice.sliceApplied (.ref sl) (pure (n : Int))) Q E s := by
  obtain ⟨os, hos, hcs, hds⟩ := id hs
  unfold Builtin.Slice.sliceApplied Builtin.Slice.sliceFields
  refine wpAny_bind (wpAny_bind (wpAny_field hos hds (x := vl) rfl (wpAny_bind (wpAny_field hos hds (x := vu) rfl (wpAny_bind (wpAny_field hos hds (x := vs) rfl (wpAny_pure ?_)))))))
  refine wpAny_bind (slicePart_ ps ?_)
  show wpAny _ _ (if ((-1 : Int) == 0) = true then _ else _) _ _ s
  rw [if_neg (by decide)]
  refine wpAny_bind (slicePart_ pl (wpAny_bind (slicePart_ pu (wpAny_bind (wpAny_pure ?_)))))
  show wpAny _ _ (match Builtin.Slice.sliceAdjust none none (-1) (n : Int) with | (lo, hi) => pure (lo, (-1 : Int), Builtin.Slice.slicePlaces lo hi (-1))) _ _ s
  rw [adjust_rev]
  show wpAny _ _ (pure ((n : Int) - 1, (-1 : Int), Builtin.Slice.slicePlaces ((n : Int) - 1) (-1) (-1))) _ _ s
  rw [places_rev]
  exact wpAny_pure h
theorem getItem_tuple_rev {t sl : Addr} {items : Array Value} {vl vu vs : Value} {Q : Value → Shared → Prop} (ht : IsTup s.heap t items) (hs : s.heap.IsSliceOf sl vl vu vs) (pl : IsPart vl none) (pu : IsPart vu none) (ps : IsPart vs (some (-1)))
    (h : Q (.ref s.heap.objs.size) { s with heap := s.heap.push { cls := .type "tuple", data := .seq items.toList.reverse.toArray } })
    (hsz : items.size ≤ sizeLine) : wpAny (model prog w) A (getItem (.ref t) (.ref sl)) Q E s := by
  have htake : sizeOk (.seq items.toList.reverse.toArray) := by
    show items.toList.reverse.toArray.size ≤ sizeLine
    rw [List.size_toArray, List.length_reverse, Array.length_toList]
    exact hsz
  obtain ⟨os, hos, hcs, hds⟩ := id hs
  have hTs : s.TypeIs (.ref sl) "slice" := ⟨os, hos, hcs⟩
  unfold getItem
  try with_reducible refine wpAny_holding ?_
  first | refine wpAny_bind (wpAny_pure ?_) | skip
  refine wpAny_bind (wpAny_sequenceKey ht.typeIs (by decide) ?_)
  refine wpAny_bind (wpAny_callSpecial?_slot (name := Str.ofString "__getitem__") ht.typeIs PyProof.Rows.slot_tuple_getitem
    (wpAny_call_entry PyProof.Rows.slot_tuple_getitem ht.typeIs entry_tuple_getitem ?_ (args_tuple_getitem _ _)))
  show wpAny _ _ (Builtin.Tuple.tupleItemsOf (.ref t) >>= _) _ _ s
  refine wpAny_bind (tupleItemsOf_ ht ?_)
  refine wpAny_bind (wpAny_typeOf hTs ?_)
  rw [if_pos (by decide)]
  refine wpAny_bind (sliceApplied_rev hs pl pu ps ?_)
  have hno : ¬ ((((items.size : Int) - 1) == 0 && (-1 : Int) == 1 && items.size == items.size) = true) := by
    intro q
    rw [Bool.and_eq_true, Bool.and_eq_true] at q
    exact absurd q.1.2 (by decide)
  show wpAny _ _ (if (((items.size : Int) - 1) == 0 && (-1 : Int) == 1 && items.size == items.size) = true then _ else _) _ _ s
  rw [if_neg hno, pick_rev]
  first
    | exact wpAny_bind (m := Builtin.Tuple.tupleExact _) (wpAny_newObj_type (wpAny_pure ⟨_, rfl, wpAny_pure h⟩) htake)
    | exact wpAny_bind (m := Builtin.Tuple.tupleExact _) (wpAny_newObj_type (wpAny_bind (wpAny_pure (wpAny_pure ⟨_, rfl, wpAny_pure h⟩))) htake)
    | exact wpAny_bind (wpAny_bind (m := Builtin.Tuple.tupleExact _) (wpAny_newObj_type (wpAny_pure (wpAny_pure ⟨_, rfl, wpAny_pure h⟩)) htake))
    | exact wpAny_bind (wpAny_bind (m := Builtin.Tuple.tupleExact _) (wpAny_newObj_type (wpAny_pure ⟨_, rfl, wpAny_pure h⟩) htake))
end
section
variable {X : Cx}
def tRevT (K : PySem.W.Frag) (te : TE) : TE := fun σ H Q => te σ H fun x H1 => ∃ a xs, x = .ref a ∧ SqT K H1 a xs ∧ ∀ p, H1 p = none → Q (.ref p) (upd H1 p (.tup xs.reverse))
theorem pe_revT {e : Expr} {te : TE} {k : Nat} {p1 p2 p3 pos : Pos} (he : PE X e te) : PE X (.Subscript e (.Slice none none (some (.UnaryOp .USub (.Constant (.int 1) k p1) p2)) p3) pos) (tRevT X.K te) := by
  refine ⟨fun pins s σ H Q I h => ?_⟩
  refine Subscript_ (thn (he.run pins s σ H _ I h) fun v s1 ⟨x, H1, I1, r1, q1⟩ => ?_)
  obtain ⟨a, xs, ex, hx, q⟩ := q1
  subst ex
  cases r1
  have hst : PO X (some (.UnaryOp .USub (.Constant (.int 1) k p1) p2)) (tPart (tUn (rU fun i => .int (-i)) (tC (.int 1)))) := po_some (pe_un un_neg pe_int)
  refine wpAny_Slice (thn (po_none.run pins s1 σ H1 (fun o H2 => o = none ∧ H2 = H1) I1 ⟨rfl, rfl⟩) fun vl s2 ⟨l, H2, I2, pl, el, e2⟩ => ?_)
  subst el e2
  refine thn (po_none.run pins s2 σ H2 (fun o H3 => o = none ∧ H3 = H2) I2 ⟨rfl, rfl⟩) fun vu s3 ⟨u, H3, I3, pu, eu, e3⟩ => ?_
  subst eu e3
  refine thn (hst.run pins s3 σ H3 (fun o H4 => o = some (-1) ∧ H4 = H3) I3 ⟨1, rfl, -1, rfl, rfl, rfl⟩) fun vs s4 ⟨o, H4, I4, ps, eo, e4⟩ => ?_
  subst eo e4
  have I5 : Inv X pins σ H4 { s4 with heap := s4.heap.push { cls := .type "slice", data := .fields #[vl, vu, vs] } } := I4.kept (t' := s4.toks) fun b ob q => Heap.get?_push_of_some _ q
  obtain ⟨its, r, ht, hz⟩ := I5.tuple hx
  have hlen := r.length
  show wpAny (model X.prog X.w) X.A (subscriptTail e (.Slice none none (some (.UnaryOp .USub (.Constant (.int 1) k p1) p2)) p3) (.ref a) (.ref s4.heap.objs.size)) (EP X pins σ Q) X.xe { s4 with heap := s4.heap.push { cls := .type "slice", data := .fields #[vl, vu, vs] } }
  refine tail_any (ops := [.ref a, .ref s4.heap.objs.size]) ht.typeIs (PyProof.Rows.slot_tuple_getitem.lookup) ?_ (by with_unfolding_all rfl)
  refine getItem_tuple_rev ht (Heap.IsSliceOf.new _ vl vu vs) pl pu ps ?_ (by rw [List.size_toArray]; omega)
  refine ⟨.ref _, _, I5.laid (t' := s4.toks) (o := .tup xs.reverse) (fun b ob q => Heap.get?_push_of_some _ q) (Nat.le_refl _) ?_, rfl, q _ (I5.hok.fresh (Nat.le_refl _))⟩
  exact ⟨by rw [List.length_reverse]; exact hz, _, r.reverse, IsTup.new _ _⟩
/-- list(t), a new one -/
theorem call_listS : CallR X (.type "list") (fun xs H Q => ∃ p ys, xs = [.ref p] ∧ SqT X.K H p ys ∧ ∀ l, H l = none → l ≠ sysModules → Q (.ref l) (upd H l (.lst ys))) := by
  intro pins s σ H xs us Q I r h
  obtain ⟨p, ys, rfl, hq, q⟩ := h
  obtain ⟨u, rfl, rx⟩ := vals1 r
  cases rx
  have far : s.heap.objs.size ≠ sysModules := (Nat.ne_of_lt I.big).symm
  have fin : ∀ (its : List Value), Vals ys its → ys.length ≤ sizeLine → ∀ (h' : Heap) (c' : Nat), (∀ b o', s.heap.get? b = some o' → h'.get? b = some o') →
      h'.get? s.heap.objs.size = some { cls := .type "list", dict := none, data := .seq its.toArray c', slots := #[] } → EP X pins σ Q (.ref s.heap.objs.size) { s with heap := h' } := fun its r' hz h' c' kp e =>
    ⟨.ref s.heap.objs.size, _, I.laid (t' := s.toks) kp (Nat.le_refl _) (show ObjOk X.prog X.w _ h' _ (.lst ys) from ⟨hz, its, c', r', e⟩), rfl, q _ (I.hok.fresh (Nat.le_refl _)) far⟩
  obtain ⟨its, r', pl, hz⟩ := I.tuple hq
  have hlen := r'.length
  obtain ⟨o, ho, hc, n, hd⟩ := pl
  exact call_list_seq p (.inr rfl) ho hc hd (fun h' c' kp e => fin its r' hz h' c' kp e) (by simp only [List.size_toArray] <;> omega)
end
end RVT

namespace L17
open PySem PySem.Spec PyProof.Rows L2 GR AD RZ WX ZE TX RVT
/-! slices by a place within -/
theorem six_lo (n j : Nat) : HT.sIx n 0 (some (j : Int)) = min j n := HT.sIx_nat _ _ j
theorem six_hi (n j : Nat) : HT.sIx n n (some (j : Int)) = min j n := HT.sIx_nat _ _ j
theorem cut_to {xs : List V} {j : Nat} (h : j ≤ xs.length) : cutV xs none (some (j : Int)) = xs.take j := by
  unfold cutV
  rw [HT.sIx_none, six_hi, List.drop_zero, Nat.min_eq_left h, Nat.sub_zero]
theorem cut_from {xs : List V} {j : Nat} (h : j ≤ xs.length) : cutV xs (some (j : Int)) none = xs.drop j := by
  unfold cutV
  rw [HT.sIx_none, six_lo, Nat.min_eq_left h]
  exact List.take_of_length_le (by rw [List.length_drop]; omega)
theorem cut_both {xs : List V} {i j : Nat} (h : i ≤ xs.length) : cutV xs (some (i : Int)) (some (j : Int)) = (xs.drop i).take (j - i) := by
  unfold cutV
  rw [six_lo, six_hi, Nat.min_eq_left h]
  by_cases e : j ≤ xs.length
  · rw [Nat.min_eq_left e]
  · rw [Nat.min_eq_right (by omega), List.take_of_length_le (by rw [List.length_drop]; omega), List.take_of_length_le (by rw [List.length_drop]; omega)]
/-- t[..] of a tuple as a value: some tuple of these, all as it was -/
theorem slice_any {K : PySem.W.Frag} {H : Hp} {a : Addr} {xs : List V} {lo hi : Option Int} {Q : VK} (hx : SqT K H a xs) (h : ∀ H' p, Same H H' → SqT K H' p (cutV xs lo hi) → Q (.ref p) H') : rSlA K (.ref a) lo hi H Q := by
  refine ⟨a, xs, rfl, hx, fun hw => ?_, fun hw p np => h _ p (same_upd np) (.inl (.inl upd_same))⟩
  refine h H a (fun _ _ e => e) ?_
  have : cutV xs lo hi = xs := by
    unfold cutV
    rw [hw.1, hw.2, List.drop_zero, Nat.sub_zero, List.take_length]
  rw [this]
  exact hx
theorem slice_from {σ : L2.St} {K : PySem.W.Frag} {H : Hp} {a : Addr} {xs : List V} {lo : Option Int} {Q : VK} (hx : SqT K H a xs) (h : ∀ H' p, Same H H' → SqT K H' p (cutV xs lo none) → Q (.ref p) H') : tNoPart σ H fun u H3 => rSlA K (.ref a) lo u H3 Q := slice_any hx h
/-- t + u of tuples as a value -/
theorem cat_any {K : PySem.W.Frag} {H : Hp} {a b : Addr} {xs ys : List V} {Q : VK} (hx : SqT K H a xs) (hy : SqT K H b ys) (hl : xs.length + ys.length ≤ sizeLine) (h : ∀ H' p, Same H H' → SqT K H' p (xs ++ ys) → Q (.ref p) H') : rCatA K (.ref a) (.ref b) H Q := by
  refine ⟨a, b, xs, ys, rfl, rfl, hx, hy, hl, fun e => ?_, fun _ e => ?_, fun _ _ p np => h _ p (same_upd np) (.inl (.inl upd_same))⟩
  · subst e
    exact h H b (fun _ _ e => e) hy
  · subst e
    exact h H a (fun _ _ e => e) (by rw [List.append_nil]; exact hx)
theorem dd_take {K : PySem.W.Frag} {ok : Addr → Prop} {H : Hp} : ∀ {vs : List V} {ds : List PyData} (i : Nat), DdAll K ok H vs ds → DdAll K ok H (vs.take i) (ds.take i)
  | _, _, 0, _ => by rw [List.take_zero, List.take_zero]; exact .nil
  | _, _, i + 1, .nil => by rw [List.take_nil, List.take_nil]; exact .nil
  | _, _, i + 1, .cons a t => by rw [List.take_succ_cons, List.take_succ_cons]; exact .cons a (dd_take i t)
theorem dd_drop {K : PySem.W.Frag} {ok : Addr → Prop} {H : Hp} : ∀ {vs : List V} {ds : List PyData} (i : Nat), DdAll K ok H vs ds → DdAll K ok H (vs.drop i) (ds.drop i)
  | _, _, 0, h => h
  | _, _, i + 1, .nil => by rw [List.drop_nil, List.drop_nil]; exact .nil
  | _, _, i + 1, .cons a t => by rw [List.drop_succ_cons, List.drop_succ_cons]; exact dd_drop i t
theorem dd_rev {K : PySem.W.Frag} {ok : Addr → Prop} {H : Hp} : ∀ {vs : List V} {ds : List PyData}, DdAll K ok H vs ds → DdAll K ok H vs.reverse ds.reverse
  | _, _, .nil => .nil
  | _, _, .cons a t => by rw [List.reverse_cons, List.reverse_cons]; exact (dd_rev t).app (.cons a .nil)
end L17

namespace L17
open PySem PySem.Spec PyProof.Rows L2 GR AD RZ WX ZE TX RVT
/-- the first line from e on whose place is m or more -/
def adv (es : List PyData) (e : Nat) (m : Int) : Nat := e + ((es.drop e).takeWhile fun d => decide (lineP d < m)).length
theorem adv_le {es : List PyData} {e : Nat} {m : Int} (h : e ≤ es.length) : e ≤ adv es e m ∧ adv es e m ≤ es.length := by
  unfold adv
  have := (List.takeWhile_sublist (fun d => decide (lineP d < m)) (l := es.drop e)).length_le
  rw [List.length_drop] at this
  omega
theorem adv_go {es : List PyData} {e : Nat} {m : Int} {d : PyData} (h : es[e]? = some d) (hd : lineP d < m) : adv es e m = adv es (e + 1) m := by
  obtain ⟨hi, he⟩ := List.getElem?_eq_some_iff.mp h
  unfold adv
  rw [List.drop_eq_getElem_cons hi, he, List.takeWhile_cons, if_pos (decide_eq_true hd), List.length_cons]
  omega
theorem adv_stop {es : List PyData} {e : Nat} {m : Int} {d : PyData} (h : es[e]? = some d) (hd : ¬ lineP d < m) : adv es e m = e := by
  obtain ⟨hi, he⟩ := List.getElem?_eq_some_iff.mp h
  unfold adv
  rw [List.drop_eq_getElem_cons hi, he, List.takeWhile_cons, if_neg (by rw [decide_eq_false hd]; exact Bool.false_ne_true)]
  rfl
theorem adv_end {es : List PyData} {e : Nat} {m : Int} (h : es.length ≤ e) : adv es e m = e := by
  unfold adv
  rw [List.drop_eq_nil_of_le h]
  rfl
/-- the lines between the marks, told from the line e on -/
def scan (es : List PyData) : Nat → List Int → List (List PyData)
  | _, [] => []
  | e, m :: r => (es.drop e).take (adv es e m - e) :: scan es (adv es e m) r
theorem scan_len (es : List PyData) : ∀ (ms : List Int) (e : Nat), (scan es e ms).length = ms.length
  | [], e => rfl
  | m :: r, e => by
    rw [scan, List.length_cons, List.length_cons, scan_len es r]
def isLine : PyData → Prop := fun d => ∃ p x, d = .tuple [.int p, x]
section
variable {P : Program} {w : World} {K : PySem.W.Frag} {mg : Str → Option Value} {base : Heap}
abbrev s_parted : Stmt := topS 43
abbrev N_par : List Str := ["marks", "entries", "found", "end", "mark", "start"]
theorem sc_parted : FnScope N_par ["marks", "entries"] (defScope s_parted) := ⟨rfl, rfl, rfl, by decide +kernel, rfl, by decide +kernel, by decide +kernel⟩
def sp_par (K : PySem.W.Frag) : Sp := fun vs H Q _ => ∃ (am ae : Addr) (m0 : Int) (ms : List Int) (us : List V) (es : List PyData) (ok : Addr → Prop), vs = [.ref am, .ref ae] ∧ SqT K H am ((m0 :: ms).map V.int) ∧ SqT K H ae us ∧ DdAll K ok H us es ∧ (∀ e, e ∈ es → isLine e) ∧ ms.length ≤ 4000000 ∧ es.length ≤ 4000000 ∧
  ∀ (H' : Hp) (p : Addr) (rs : List V), Same H H' → H p = none → H' p = some (.lst rs) → DdAll K ok H' rs ((scan es 0 ms).map PyData.tuple) → Q (.ref p) H'
def PInv (K : PySem.W.Frag) (ok : Addr → Prop) (am ae fo : Addr) (H0 : Hp) (es : List PyData) (ms : List Int) (i : Nat) (σ : L2.St) (H : Hp) : Prop :=
  ∃ (y z : Option V) (e : Nat) (rs : List V) (q : List (List PyData)), σ = [some (.ref am), some (.ref ae), some (.ref fo), some (.int (e : Nat)), y, z] ∧ H fo = some (.lst rs) ∧ DdAll K (fun b => ok b ∧ b ≠ fo) H rs (q.map PyData.tuple) ∧ e ≤ es.length ∧ q.length = i ∧ scan es 0 ms = q ++ scan es e (ms.drop i) ∧ (∀ b o, b ≠ fo → H0 b = some o → H b = some o)
theorem ok_parted {f : Addr} {fd : FuncData} {k : Nat} (F : Fun K "parted" "parted" s_parted f fd) (mlen : mg "len" = none) : FnOk P w K mg base CX0 (k + 1) f fd ["marks", "entries"] (sp_par K) := by
  have nd := sc_parted.nd
  refine F.ok sc_parted (fun vs H Q E h => ?_) (fun cdv A outer s H vs Q E hr h => ?_)
  · obtain ⟨am, ae, m0, ms, us, es, ok, rfl, _⟩ := h
    rfl
  obtain ⟨am, ae, m0, ms, us, es, ok, rfl, hM, hE, hA, hL, hml, hel, q⟩ := h
  refine ⟨_, (pss_cons (ps_set (i := 2) nd rfl (.inl rfl) (pe_lst pa_nil))
      (pss_cons (ps_set (i := 3) nd rfl (.inl rfl) pe_int)
      (pss_cons (ps_for PassesOwn.never rfl (pi_tup (pe_slice sl_tupA (pv 0) (po_some pe_int) po_none)) (pg_name (i := 4) nd rfl (Or.inl rfl))
      (pss_cons (ps_set (i := 5) nd rfl (.inl rfl) (pv 3))
        (pss_cons (ps_while PassesOwn.never (PW.pt (pw_and (pt_cmpR op_lt (pv 3) (pe_callB call_len_seq (by rfl) mlen PySem.boot_len (pa_cons (pv 1) pa_nil)) (nomark _)) (pw_and1 (pt_cmpR op_lt (pe_ix ix_tup (pe_ix ix_tup (pv 1) (pv 3) (fun _ _ => rfl)) pe_int (fun _ _ => rfl)) (pv 4) (nomark _)))))
        (pss_one (ps_aug (i := 3) nd rfl (.inl rfl) pe_int ip_add)))
        (pss_one (ps_expr (pe_bm PySem.F.plainAttrs_list PySem.F.slot_list_append PySem.F.type_list_append mt_append (pv 2) (pa_cons (pe_slice sl_tupA (pv 1) (po_some (pv 5)) (po_some (pv 3))) pa_nil)))))))
      (pss_one (ps_ret (pv 2)))))), ?_⟩
  have lA := hA.len
  refine ⟨Nat.zero_le _, fun fo nfo => ?_⟩
  have sf := same_upd (o := .lst []) nfo
  refine ⟨.ref am, rfl, 1, rfl, slice_from ((KeepT.of sf).seqt hM) fun H1 pm s1 hpm => ⟨pm, rfl, ⟨_, hpm⟩, ?_⟩⟩
  have hcut : cutV ((m0 :: ms).map V.int) (some 1) none = ms.map V.int := cut1 _ _
  rw [hcut] at hpm
  have hf1 := s1 _ _ (show upd H fo (.lst []) fo = _ from upd_same)
  have s01 := sf.trans s1
  have hE1 := (KeepT.of s01).seqt hE
  have hA1 := (hA.off nfo).keep (KeepO.of s01)
  have keepO : ∀ {H' : Hp}, (∀ b o, b ≠ fo → H1 b = some o → H' b = some o) → KeepO (fun b => ok b ∧ b ≠ fo) H1 H' := fun kk =>
    ⟨fun b xs e => kk _ _ (ne_of e hf1 fun z => nomatch z) e, fun b o xs e => kk _ _ (ne_of e hf1 fun z => nomatch z) e, fun b o hb e => kk _ _ hb.2 e⟩
  refine for_it (walk_tup (xs := ms.map V.int)) (PInv K ok am ae fo H1 es ms) ⟨none, none, 0, [], [], rfl, hf1, .nil, Nat.zero_le _, rfl, rfl, fun b o _ e => e⟩ ?_ ?_ ?_
  · rintro i σ H' _ ⟨y, z, e, rs, q', rfl, _, _, _, _, _, kk⟩
    exact (keepO kk).seqt hpm
  · rintro i x σ H0' H' hi ⟨y, z, e, rs, q', rfl, hfo, hrs, hel2, hql, hsc, kk⟩ ⟨rfl, hx⟩
    rw [List.getElem?_map] at hx
    obtain ⟨mk, hmk, rfl⟩ := Option.map_eq_some_iff.mp hx
    obtain ⟨hi2, hmk2⟩ := List.getElem?_eq_some_iff.mp hmk
    have hE2 := (keepO kk).seqt hE1
    have hA2 := hA1.keep (keepO kk)
    have hdr : ms.drop i = mk :: ms.drop (i + 1) := by rw [List.drop_eq_getElem_cons hi2, hmk2]
    rw [hdr, scan] at hsc
    obtain ⟨ha1, ha2⟩ := adv_le (m := mk) hel2
    have fin : ∀ (e' : Nat) (H2 : Hp) (pp : Addr), adv es e mk = e' → Same H' H2 → SqT K H2 pp (cutV us (some (e : Int)) (some (e' : Int))) → rs.length < sizeLine ∧ PInv K ok am ae fo H1 es ms (i + 1) [some (.ref am), some (.ref ae), some (.ref fo), some (.int (e' : Nat)), some (.int mk), some (.int (e : Nat))] (upd H2 fo (.lst (rs ++ [.ref pp]))) := by
      rintro e' H2 pp rfl s2 hpp
      have lr := hrs.len
      rw [List.length_map] at lr
      rw [cut_both (by omega)] at hpp
      have hfo2 := s2 _ _ hfo
      have ko : KeepO (fun b => ok b ∧ b ≠ fo) H2 (upd H2 fo (.lst (rs ++ [.ref pp]))) := ⟨(KeepT.lst hfo2).1, (KeepT.lst hfo2).2, fun b o hb e => by rw [upd_ne hb.2]; exact e⟩
      have hdt := dd_take (adv es e mk - e) (dd_drop e (hA2.keep (KeepO.of s2)))
      refine ⟨?_, some (.int mk), some (.int (e : Nat)), adv es e mk, _, q' ++ [(es.drop e).take (adv es e mk - e)], rfl, upd_same, ?_, ha2, ?_, ?_, fun b o hb e => ?_⟩
      · rw [sizeLine_eq]
        omega
      · rw [List.map_append]
        exact ((hrs.keep (KeepO.of s2)).app (.cons (.tup hpp hdt) .nil)).keep ko
      · rw [List.length_append, hql]
        rfl
      · rw [hsc, List.append_assoc]
        rfl
      · rw [upd_ne hb]
        exact s2 _ _ (kk b o hb e)
    refine ⟨.int (e : Nat), rfl, ?_⟩
    refine ⟨fun m σ Hn => Hn = H' ∧ ∃ e' : Nat, m = es.length - e' ∧ σ = [some (.ref am), some (.ref ae), some (.ref fo), some (.int (e' : Nat)), some (.int mk), some (.int (e : Nat))] ∧ e' ≤ es.length ∧ adv es e' mk = adv es e mk, ⟨_, rfl, e, rfl, rfl, hel2, rfl⟩, ?_⟩
    rintro m σ _ ⟨rfl, e', rfl, rfl, he', hadv⟩
    refine ⟨.int (e' : Nat), rfl, .ref ae, rfl, ae, us, rfl, .inr hE2, _, _, rfl, rfl, _, rfl, ?_⟩
    by_cases c1 : e' < es.length
    case neg =>
      rw [decide_eq_false (show ¬ ((e' : Nat) : Int) < ((us.length : Nat) : Int) by omega)]
      have e1 : adv es e mk = e' := by rw [← hadv]; exact adv_end (by omega)
      refine iteF (iteF ⟨.ref fo, rfl, .inl ⟨rfl, _, .inl (.inl hfo)⟩, .ref ae, rfl, .int (e : Nat), rfl, (e : Int), rfl, .int (e' : Nat), rfl, (e' : Int), rfl, slice_any hE2 fun H2 pp s2 hpp => ?_⟩)
      obtain ⟨h1, h2⟩ := fin e' H2 pp e1 s2 hpp
      exact ⟨fo, rs, _, rfl, rfl, s2 _ _ hfo, h1, h2⟩
    rw [decide_eq_true (show ((e' : Nat) : Int) < ((us.length : Nat) : Int) by omega)]
    obtain ⟨d, hd⟩ : ∃ d, es[e']? = some d := ⟨_, List.getElem?_eq_getElem c1⟩
    obtain ⟨p, x, rfl⟩ := hL d (List.mem_of_getElem? hd)
    obtain ⟨v, hv⟩ : ∃ v, us[e']? = some v := ⟨us[e']'(by omega), List.getElem?_eq_getElem _⟩
    obtain ⟨d', hd', hvd⟩ := dd_at hA2 hv
    obtain rfl : PyData.tuple [.int p, x] = d' := Option.some.inj (hd.symm.trans hd')
    obtain ⟨b, xs, rfl, hb, hB⟩ := L17.Dd.tup_inv hvd
    cases hB with
    | cons g0 hB =>
    cases g0
    refine iteT ⟨.ref ae, rfl, .int (e' : Nat), rfl, ae, _, _, .ref b, rfl, rfl, hE2, atI_nat hv, b, _, 0, .int p, rfl, rfl, hb, at0, .int mk, rfl, p, mk, rfl, rfl, _, rfl, ?_⟩
    by_cases c2 : p < mk
    case neg =>
      rw [decide_eq_false c2]
      have e1 : adv es e mk = e' := by rw [← hadv]; exact adv_stop hd c2
      refine iteF ⟨.ref fo, rfl, .inl ⟨rfl, _, .inl (.inl hfo)⟩, .ref ae, rfl, .int (e : Nat), rfl, (e : Int), rfl, .int (e' : Nat), rfl, (e' : Int), rfl, slice_any hE2 fun H2 pp s2 hpp => ?_⟩
      obtain ⟨h1, h2⟩ := fin e' H2 pp e1 s2 hpp
      exact ⟨fo, rs, _, rfl, rfl, s2 _ _ hfo, h1, h2⟩
    rw [decide_eq_true c2]
    have e2 := adv_go hd (show lineP (.tuple [.int p, x]) < mk from c2)
    refine iteT ⟨_, fun σ' H'' h => h, .int (e' : Nat), rfl, (e' : Int), 1, rfl, rfl, es.length - (e' + 1), by omega, rfl, e' + 1, rfl, rfl, c1, by rw [← e2]; exact hadv⟩
  · rintro σ H' ⟨y, z, e, rs, q', rfl, hfo, hrs, hel2, hql, hsc, kk⟩
    rw [List.length_map, List.drop_length, scan, List.append_nil] at hsc
    refine ⟨.ref fo, rfl, q H' fo rs (fun b o e => kk _ _ (ne_of_none e nfo) (s01 _ _ e)) nfo hfo ?_⟩
    rw [hsc]
    exact hrs.mono fun _ h => h.1
end
end L17

namespace L17
open PySem PySem.Spec PyProof.Rows L2 GR AD RZ WX ZE TX RVT
def lastM (m : PyData) : Int := ((items m).map iv).getLastD 0
def partsB (m e : PyData) : Bool := (scan (items e) 0 (((items m).map iv).drop 1)).all fun q => goT [] (q.map lineX)
/-- a log -/
def logB : PyData → Bool
  | .tuple [m, e] => marksD m && (entsD (lastM m) e && partsB m e)
  | _ => false
theorem entsB_lines {hi : Int} : ∀ {es : List PyData} {least : Int}, entsB hi least es = true → ∀ e, e ∈ es → isLine e
  | [], _, _, e, h => (nomatch h)
  | d :: r, least, h, e, he => by
    rw [entsB, Bool.and_eq_true] at h
    rcases List.mem_cons.mp he with rfl | he
    · have h1 := h.1
      unfold lineB at h1
      split at h1
      · exact ⟨_, _, rfl⟩
      · cases h1
    · exact entsB_lines h.2 e he
theorem scan_sub {es : List PyData} : ∀ {ms : List Int} {e : Nat} {q : List PyData}, q ∈ scan es e ms → (∀ d, d ∈ q → d ∈ es) ∧ q.length ≤ es.length
  | [], e, q, h => (nomatch h)
  | m :: r, e, q, h => by
    rw [scan] at h
    rcases List.mem_cons.mp h with rfl | h
    · refine ⟨fun d hd => List.mem_of_mem_drop (List.mem_of_mem_take hd), ?_⟩
      rw [List.length_take, List.length_drop]
      omega
    · exact scan_sub h
/-- what may be asked whether it is a log -/
structure Lp (S : List Str) (d : PyData) : Prop where
  tx : txS S d = true
  sh : shB d = true
  dep : d.depth < 40
  sz : sz d ≤ 4000000
theorem Lp.sub {S : List Str} {ds : List PyData} (h : Lp S (.tuple ds)) : ∀ y, y ∈ ds → Lp S y := fun y hy => by
  have h1 := h.tx
  have h2 := h.sh
  have h3 := h.dep
  have h4 := h.sz
  rw [txS] at h1
  rw [shB] at h2
  rw [PyData.depth] at h3
  rw [L17.sz] at h4
  have h5 := depthAll_mem hy
  have h6 := sz_mem hy
  exact ⟨txSs_mem h1 y hy, shBs_mem h2 y hy, by omega, by omega⟩
theorem Lp.yp {S : List Str} {d : PyData} (h : Lp S d) : Yp d := ⟨h.sh, h.dep, h.sz⟩
theorem Lp.zp {S : List Str} {d : PyData} (h : Lp S d) : Zp S d := ⟨h.tx, fun ds e y hy => by subst e; exact (h.sub y hy).yp⟩
theorem Lp.short {S : List Str} {d : PyData} (h : Lp S d) : shortD d := fun ds e => by
  subst e
  have h4 := h.sz
  rw [L17.sz] at h4
  have := szs_len ds
  omega
def rTupOf (K : PySem.W.Frag) : List V → Hp → VK → Prop := fun xs H Q => ∃ p ys, xs = [.ref p] ∧ ((SqL K H p ys ∧ ∀ l, H l = none → Q (.ref l) (upd H l (.tup ys))) ∨ (SqT K H p ys ∧ Q (.ref p) H))
theorem line_at {K : PySem.W.Frag} {ok : Addr → Prop} {H : Hp} {v : V} {d : PyData} (h : Dd K ok H v d) (hl : isLine d) : ∃ b p u, v = .ref b ∧ SqT K H b [.int p, u] ∧ Dd K ok H u (lineX d) ∧ lineP d = p := by
  obtain ⟨p, x, rfl⟩ := hl
  obtain ⟨b, xs, rfl, hb, hB⟩ := L17.Dd.tup_inv h
  cases hB with
  | cons g0 hB =>
  cases g0
  cases hB with
  | cons g1 hB =>
  cases hB
  exact ⟨b, p, _, rfl, hb, g1, rfl⟩
/-- what stands on the lines of a part, as a tuple -/
theorem lines_tup {K : PySem.W.Frag} {ok : Addr → Prop} {H : Hp} {r : Addr} {ws : List V} {q : List PyData} {Q : VK} {x0 x1 x2 x3 x5 : Option V} (hr : SqT K H r ws) (hq : DdAll K ok H ws q) (hL : ∀ e, e ∈ q → isLine e) (hlen : q.length ≤ 4000000)
    (h : ∀ H' l ys, Same H H' → SqT K H' l ys → DdAll K ok H' ys (q.map lineX) → Q (.ref l) H') :
    tCB (rTupOf K) (tCons (tLc (iTup K (tVar 4)) (gName 5) tYes (tOp (rIxT K) (tVar 5) (tC (.int 1))) [5]) tNil) [x0, x1, x2, x3, some (.ref r), x5] H Q := by
  refine ⟨.ref r, rfl, r, rfl, ⟨ws, hr⟩, fun D nD => ?_⟩
  have lq := hq.len
  have hqo := hq.off nD
  refine walk_bodyT (xs := ws) (fun j H3 => ∃ zs, H3 D = some (.lst zs) ∧ DdAll K (fun b => ok b ∧ b ≠ D) H3 zs ((q.take j).map lineX) ∧ (∀ b o, b ≠ D → H b = some o → H3 b = some o)) ?_ ?_ ?_ ?_
  · exact ⟨[], upd_same, .nil, fun b o nb e => by rw [upd_ne nb]; exact e⟩
  · rintro j H3 _ ⟨zs, _, _, k3⟩
    exact (KeepT.of (H := H) fun b o e => k3 b o (ne_of_none e nD) e).seqt hr
  · rintro j y H3 hy ⟨zs, hD, hz, k3⟩
    have s3 : Same H H3 := fun b o e => k3 b o (ne_of_none e nD) e
    obtain ⟨d, hdj, hyd⟩ := dd_at (hqo.keep (KeepO.of s3)) hy
    obtain ⟨b, p, u, rfl, hb, hu, _⟩ := line_at hyd (hL d (List.mem_of_getElem? hdj))
    have ko : KeepO (fun b => ok b ∧ b ≠ D) H3 (upd H3 D (.lst (zs ++ [u]))) := ⟨(KeepT.lst hD).1, (KeepT.lst hD).2, fun b o hb e => by rw [upd_ne hb.2]; exact e⟩
    have lz := hz.len
    rw [List.length_map, List.length_take] at lz
    refine ⟨rfl, yes_then ⟨.ref b, rfl, b, _, 1, u, rfl, rfl, hb, at1, zs, hD, ?_, zs ++ [u], upd_same, ?_, fun b o nb e => ?_⟩⟩
    · rw [sizeLine_eq]
      omega
    · rw [take_at hdj, List.map_append]
      exact (hz.app (.cons hu .nil)).keep ko
    · rw [upd_ne nb]
      exact k3 b o nb e
  · rintro H3 ⟨zs, hD, hz, k3⟩
    have s3 : Same H H3 := fun b o e => k3 b o (ne_of_none e nD) e
    rw [lq, List.take_length] at hz
    refine ⟨D, zs, rfl, .inl ⟨.inl (.inl hD), fun l nl => ?_⟩⟩
    have sl := same_upd (o := .tup zs) nl
    exact h _ l zs (s3.trans sl) (.inl (.inl upd_same)) ((hz.mono fun _ h => h.1).keep (KeepO.of sl))
section
variable {P : Program} {w : World} {K : PySem.W.Frag} {mg : Str → Option Value} {base : Heap}
abbrev s_is_log : Stmt := topS 40
abbrev N_il : List Str := ["thing", "marks", "entries", "parts", "part", "entry"]
theorem sc_is_log : FnScope N_il ["thing"] (defScope s_is_log) := ⟨rfl, rfl, rfl, by decide +kernel, rfl, by decide +kernel, by decide +kernel⟩
def sp_il (K : PySem.W.Frag) : Sp := fun vs H Q _ => ∃ (v : V) (d : PyData) (ok : Addr → Prop) (S : List Str), vs = [v] ∧ Dd K ok H v d ∧ Lp S d ∧ S.length ≤ 60 ∧ ∀ H', Same H H' → Q (.bl (logB d)) H'
theorem ok_is_log {f fm fe fp ft : Addr} {fd dm de dp dt : FuncData} {k : Nat} (F : Fun K "is_log" "is_log" s_is_log f fd) (Gm : FnOk P w K mg base CX0 k fm dm ["thing"] (sp_sh K marksD)) (gm : mg "are_marks" = some (.ref fm)) (Km : PySem.W.keepIn K (.ref fm) = true) (bm : Binds K dm ["thing"] [])
    (Ge : FnOk P w K mg base CX0 k fe de ["thing", "end"] (sp_aen K)) (ge : mg "are_entries" = some (.ref fe)) (Ke : PySem.W.keepIn K (.ref fe) = true) (be : Binds K de ["thing", "end"] [])
    (Gp : FnOk P w K mg base CX0 k fp dp ["marks", "entries"] (sp_par K)) (gp : mg "parted" = some (.ref fp)) (Kp : PySem.W.keepIn K (.ref fp) = true) (bp : Binds K dp ["marks", "entries"] [])
    (Gt : FnOk P w K mg base CX0 k ft dt ["thing"] (sp_it K)) (gt : mg "is_transaction" = some (.ref ft)) (Kt : PySem.W.keepIn K (.ref ft) = true) (bt : Binds K dt ["thing"] [])
    (misi : mg "isinstance" = none) (mtuple : mg "tuple" = none) (mlen : mg "len" = none) (mall : mg "all" = none) : FnOk P w K mg base CX0 (k + 1) f fd ["thing"] (sp_il K) := by
  have nd := sc_is_log.nd
  refine F.ok sc_is_log (fun vs H Q E h => ?_) (fun cdv A outer s H vs Q E hr h => ?_)
  · obtain ⟨v, d, ok, S, rfl, _⟩ := h
    rfl
  obtain ⟨v, d, ok, S, rfl, hd, hl, hS60, q⟩ := h
  refine ⟨_, (pss_cons (ps_if (PW.pt (pw_or (pt_not (pt_val (pe_callB call_isi (by rfl) misi boot_isinstance (pa_cons (pv 0) (pa_cons (pe_bltn (v := .ty "tuple") (by rfl) mtuple boot_tuple rfl) pa_nil))))) (pw_or1 (pt_cmpR op_ne (pe_callB call_len_seq (by rfl) mlen PySem.boot_len (pa_cons (pv 0) pa_nil)) pe_int (nomark _)))))
      (pss_one (ps_ret pe_bl))
      pss_nil)
      (pss_cons (ps_asg (pv 0) (pg_tup rfl (pgs_cons (pg_name (i := 1) (x := "marks") nd rfl (Or.inl rfl)) (pgs_cons (pg_name (i := 2) (x := "entries") nd rfl (Or.inl rfl)) pgs_nil))))
      (pss_cons (ps_if (PW.pt (pw_or (pt_not (pt_val (pe_call Gm hr (by rfl) gm Km bm .nil pass0 (pa_cons (pv 1) pa_nil)))) (pw_or1 (pt_not (pt_val (pe_call Ge hr (by rfl) ge Ke be .nil pass0 (pa_cons (pv 2) (pa_cons (pe_ix ix_tup (pv 1) (pe_un un_neg pe_int) (fun _ _ => rfl)) pa_nil))))))))
      (pss_one (ps_ret pe_bl))
      pss_nil)
      (Evl.pss_cut (ps_setLc (i := 3) (own := [("part", 4)]) (g := gName 4) (tt := tYes) (te := tCB (rTupOf K) (tCons (tLc (iTup K (tVar 4)) (gName 5) tYes (tOp (rIxT K) (tVar 5) (tC (.int 1))) [5]) tNil)) rfl nd rfl rfl (sw_true rfl rfl rfl (by decide +kernel)) (pi_list (pe_call Gp hr (by rfl) gp Kp bp .nil pass0 (pa_cons (pv 1) (pa_cons (pv 2) pa_nil)))) (blkOk_by (N := N_il) (sc := defScope s_is_log) (by decide +kernel)) (fun _ _ _ _ _ => (pg_name (i := 4) nd rfl (Or.inl rfl))) (fun _ _ _ _ _ => pts_nil)
        (fun _ _ _ _ _ => (pe_callTy call_tuple_of (by rfl) mtuple boot_tuple (pa_cons (pe_lc (own := [("entry", 5)]) rfl nd (pi_tup (pv 4)) (blkOk_by (N := N_il) (by rfl)) (fun _ _ _ _ _ => (pg_name (i := 5) nd rfl (Or.inl rfl))) (fun _ _ _ _ _ => pts_nil) (fun _ _ _ _ _ => (pe_ix ix_tup (pv 5) pe_int (fun _ _ => rfl)))) pa_nil))))
      (pss_one (ps_ret (pe_callB (cr_all rfl) (by rfl) mall boot_all (pa_cons (pe_lc (own := [("part", 4)]) (tt := tYes) (te := tCall (sp_it K) [] E0 (tCons (tVar 4) tNil)) rfl nd (pi_list (pv 3)) (blkOk_by (N := N_il) (sc := defScope s_is_log) (by decide +kernel)) (fun _ _ _ _ _ => (pg_name (i := 4) nd rfl (Or.inl rfl))) (fun _ _ _ _ _ => pts_nil) (fun _ _ _ _ _ => (pe_call Gt hr (by rfl) gt Kt bt .nil pass0 (pa_cons (pv 4) pa_nil)))) pa_nil)))))))), ?_⟩
  have q0 : Q (.bl (logB d)) H := q H fun _ _ e => e
  refine ⟨v, rfl, v, .ty "tuple", _, _, _, rfl, .ty "tuple", hd.ty, kit_t K d, _, rfl, ?_⟩
  cases hd with
  | tup hS hA =>
    rename_i a vs ds
    have lA := hA.len
    refine iteF ⟨.ref a, rfl, a, vs, rfl, .inr hS, rfl, _, rfl, ?_⟩
    by_cases c : ds.length = 2
    case neg =>
      have hw : logB (.tuple ds) = false := by
        unfold logB
        split
        · rename_i h
          cases h
          exact (c rfl).elim
        · rfl
      rw [hw] at q0
      rw [decide_eq_false (show ¬ V.int ((vs.length : Nat) : Int) = V.int 2 from fun e => c (by injection e with e; omega))]
      exact iteT q0
    match ds, c, hA with
    | [m, e], _, hA =>
    have hlm := hl.sub m List.mem_cons_self
    have hle := hl.sub e (List.mem_cons_of_mem _ List.mem_cons_self)
    cases hA with
    | @cons v0 _ _ _ g0 hA =>
    cases hA with
    | @cons v1 _ _ _ g1 hA =>
    cases hA
    have q1 : ∀ H', Same H H' → Q (.bl (marksD m && (entsD (lastM m) e && partsB m e))) H' := q
    refine iteF ⟨.ref a, rfl, a, _, rfl, hS, rfl, _, _, rfl, _, _, rfl, rfl, v0, rfl, v0, m, ok, rfl, g0, hlm.short, fun H1 s1 => ⟨_, rfl, ?_⟩⟩
    cases c1 : marksD m with
    | false =>
      rw [c1] at q1
      exact iteT (iteT (q1 H1 s1))
    | true =>
    rw [c1] at q1
    simp only [Bool.true_and] at q1
    match m, c1, g0, hlm with
    | .tuple ms, c1, g0, hlm =>
    obtain ⟨am, xs, rfl, hM, hMA⟩ := L17.Dd.tup_inv g0
    have c1' : marksB ms = true := c1
    unfold marksB at c1'
    rw [Bool.and_eq_true] at c1'
    have hxs := ints_vs hMA c1'.1
    have hsm := hlm.short ms rfl
    obtain ⟨d0, dr, rfl⟩ : ∃ d0 dr, ms = d0 :: dr := by
      cases ms with
      | nil => cases c1'.2
      | cons d0 dr => exact ⟨d0, dr, rfl⟩
    have hms : (d0 :: dr).map iv = iv d0 :: dr.map iv := rfl
    rw [hms] at hxs
    have hlast : lastM (.tuple (d0 :: dr)) = (iv d0 :: dr.map iv).getLastD 0 := rfl
    have hpb : partsB (.tuple (d0 :: dr)) e = (scan (items e) 0 (dr.map iv)).all fun q => goT [] (q.map lineX) := rfl
    rw [hlast, hpb] at q1
    have hlr : (dr.map iv).length ≤ 4000000 := by
      rw [List.length_map]
      rw [List.length_cons] at hsm
      omega
    revert q1 hxs hlr
    generalize iv d0 = m0
    generalize dr.map iv = mr
    intro q1 hxs hlr
    have hne : (m0 :: mr) ≠ [] := List.cons_ne_nil _ _
    obtain ⟨fr, la, hfl⟩ : ∃ fr la, m0 :: mr = fr ++ [la] := ⟨_, _, (List.dropLast_concat_getLast hne).symm⟩
    have hla : (m0 :: mr).getLastD 0 = la := by
      rw [hfl]
      simp
    rw [hla] at q1
    subst hxs
    have hal : atI ((m0 :: mr).map V.int) (-1) = some (.int la) := by
      rw [hfl, List.map_append]
      exact atI_last _ _
    have hM1 := (KeepT.of s1).seqt hM
    have g11 := g1.keep (KeepO.of s1)
    refine iteF ⟨v1, rfl, .ref am, rfl, 1, rfl, am, _, -1, .int la, rfl, rfl, hM1, hal, v1, e, ok, la, rfl, g11, hle.short, fun ds ee y hy => by subst ee; exact (hle.sub y hy).short, _, rfl, ?_⟩
    cases c2 : entsD la e with
    | false =>
      rw [c2] at q1
      exact iteT (q1 H1 s1)
    | true =>
    rw [c2] at q1
    simp only [Bool.true_and] at q1
    match e, c2, g11, hle, q1 with
    | .tuple es, c2, g11, hle, q1 =>
    obtain ⟨ae, us, rfl, hE, hEA⟩ := L17.Dd.tup_inv g11
    have hlines := entsB_lines (show entsB la 0 es = true from c2)
    have hse := hle.short es rfl
    refine iteF ⟨fun σ' H' => ∃ (D : Addr) (rs : List V), σ' = [some (.ref a), some (.ref am), some (.ref ae), some (.ref D), none, none] ∧ Same H H' ∧ H' D = some (.lst rs) ∧ DdAll K ok H' rs ((scan es 0 mr).map fun q => .tuple (q.map lineX)), ?_, ?_⟩
    · refine ⟨.ref am, rfl, .ref ae, rfl, am, ae, m0, mr, us, es, ok, rfl, hM1, hE, hEA, hlines, hlr, hse, fun H2 p rs s2 np hp hrs => ⟨p, rfl, ⟨rs, .inl (.inl hp)⟩, fun D nD => ?_⟩⟩
      have lr := hrs.len
      rw [List.length_map, scan_len] at lr
      have hrs0 := hrs.off nD
      refine walk_body (xs := rs) (fun i H3 => ∃ ts, H3 D = some (.lst ts) ∧ DdAll K (fun b => ok b ∧ b ≠ D) H3 ts (((scan es 0 mr).take i).map fun q => .tuple (q.map lineX)) ∧ (∀ b o, b ≠ D → H2 b = some o → H3 b = some o)) ?_ ?_ ?_ ?_
      · exact ⟨[], upd_same, .nil, fun b o nb e => by rw [upd_ne nb]; exact e⟩
      · rintro i H3 _ ⟨ts, _, _, k3⟩
        exact .inl (.inl (k3 _ _ (ne_of_none hp nD) hp))
      · rintro i y H3 hy ⟨ts, hD, ht, k3⟩
        have s3 : Same H2 H3 := fun b o e => k3 b o (ne_of_none e nD) e
        obtain ⟨dq, hdq, hyd⟩ := dd_at (hrs0.keep (KeepO.of s3)) hy
        rw [List.getElem?_map] at hdq
        obtain ⟨q', hq', rfl⟩ := Option.map_eq_some_iff.mp hdq
        obtain ⟨r, ws, rfl, hr', hws⟩ := L17.Dd.tup_inv hyd
        obtain ⟨g2, g3⟩ := scan_sub (List.mem_of_getElem? hq')
        have hi2 : i < (scan es 0 mr).length := (List.getElem?_eq_some_iff.mp hq').1
        rw [scan_len] at hi2
        have lt := ht.len
        rw [List.length_map, List.length_take, scan_len] at lt
        refine ⟨rfl, yes_then (lines_tup hr' hws (fun d hd => hlines d (g2 d hd)) (by omega) fun H4 l ys s4 hl4 hys => ⟨ts, s4 _ _ hD, ?_, ts ++ [.ref l], upd_same, ?_, fun b o nb e => ?_⟩)⟩
        · rw [sizeLine_eq]
          omega
        · have hD4 := s4 _ _ hD
          have ko : KeepO (fun b => ok b ∧ b ≠ D) H4 (upd H4 D (.lst (ts ++ [.ref l]))) := ⟨(KeepT.lst hD4).1, (KeepT.lst hD4).2, fun b o hb e => by rw [upd_ne hb.2]; exact e⟩
          rw [take_at hq', List.map_append]
          exact ((ht.keep (KeepO.of s4)).app (.cons (.tup hl4 hys) .nil)).keep ko
        · rw [upd_ne nb]
          exact s4 _ _ (k3 b o nb e)
      · rintro H3 ⟨ts, hD, ht, k3⟩
        have s3 : Same H2 H3 := fun b o e => k3 b o (ne_of_none e nD) e
        rw [lr, ← scan_len es mr 0, List.take_length] at ht
        exact ⟨D, ts, rfl, s1.trans (s2.trans s3), hD, ht.mono fun _ h => h.1⟩
    · rintro σ' H' ⟨D, rs, rfl, sD, hD, hrs⟩
      have lr := hrs.len
      rw [List.length_map, scan_len] at lr
      refine ⟨.ref D, rfl, D, rfl, ⟨rs, .inl (.inl hD)⟩, fun D2 nD2 => ?_⟩
      have hrs0 := hrs.off nD2
      refine walk_body (xs := rs) (fun i H3 => H3 D2 = some (.lst ((((scan es 0 mr).take i).map fun q => goT [] (q.map lineX)).map V.bl)) ∧ Same H' H3) ?_ ?_ ?_ ?_
      · exact ⟨upd_same, same_upd nD2⟩
      · rintro i H3 _ ⟨_, k3⟩
        exact .inl (.inl (k3 _ _ hD))
      · rintro i y H3 hy ⟨hD3, k3⟩
        obtain ⟨dq, hdq, hyd⟩ := dd_at (hrs.keep (KeepO.of k3)) hy
        rw [List.getElem?_map] at hdq
        obtain ⟨q', hq', rfl⟩ := Option.map_eq_some_iff.mp hdq
        obtain ⟨r, ws, rfl, hr', hws⟩ := L17.Dd.tup_inv hyd
        obtain ⟨g2, g3⟩ := scan_sub (List.mem_of_getElem? hq')
        have hi2 : i < (scan es 0 mr).length := (List.getElem?_eq_some_iff.mp hq').1
        rw [scan_len] at hi2
        refine ⟨rfl, yes_then ⟨.ref r, rfl, r, ws, _, ok, S, rfl, hr', hws, fun x hx => ?_, hS60, ?_, fun H4 s4 => ⟨_, s4 _ _ hD3, ?_, ?_, fun b o e => ?_⟩⟩⟩
        · obtain ⟨d, hd, rfl⟩ := List.mem_map.mp hx
          obtain ⟨p, x, rfl⟩ := hlines d (g2 d hd)
          exact ((hle.sub _ (g2 _ hd)).sub x (List.mem_cons_of_mem _ List.mem_cons_self)).zp
        · rw [List.length_map]
          omega
        · rw [List.length_map, List.length_map, List.length_take, scan_len, sizeLine_eq]
          omega
        · rw [upd_same, take_at hq', List.map_append, List.map_append]
          rfl
        · rw [upd_ne (ne_of_none e nD2)]
          exact s4 _ _ (k3 _ _ e)
      · rintro H3 ⟨hD3, k3⟩
        rw [lr, ← scan_len es mr 0, List.take_length] at hD3
        refine ⟨D2, _, rfl, .inl (.inl hD3), ?_⟩
        have := q1 H3 (sD.trans k3)
        rw [List.all_map]
        exact this
  | _ => exact iteT (iteT q0)
end
end L17

/-! != of a list, whatever it holds, with the empty one -/
namespace ZE
open PySem PySem.Spec PyProof.Rows L2 GR
def rNL0 (K : PySem.W.Frag) : R2 := fun x y H Q => ∃ (a b : Addr) (xs : List V), x = .ref a ∧ y = .ref b ∧ SqL K H a xs ∧ SqL K H b [] ∧ Q (.bl (!xs.isEmpty)) H
section
variable {X : Cx}
theorem op_neL0 (hu : X.A.units < cLine) : OpR X (compareOp .NotEq) (rNL0 X.K) := by
  intro pins s σ H x y v u Q I rx ry h
  obtain ⟨a, b, xs, rfl, rfl, ha, hb, q⟩ := h
  cases rx
  cases ry
  obtain ⟨its, rv, pl, hz⟩ := I.list ha
  obtain ⟨its2, rv2, pl2, hz2⟩ := I.list hb
  cases rv2
  cases rv with
  | nil => exact SeqAt.RcNeAt.lists (e := fun _ => true) pl.isList pl2.isList rfl hu (fun j h1 h2 => absurd h2 (Nat.not_lt_zero _)) _ _ _ _ ⟨.bl false, H, I, rfl, q⟩
  | cons r t => exact SeqAt.RcNeAt.lists_lengths pl.isList pl2.isList (by simp) hu _ _ _ _ ⟨.bl true, H, I, rfl, q⟩
end
end ZE

namespace L17
open PySem PySem.Spec PyProof.Rows L2 GR AD RZ WX ZE TX RVT
theorem upB_iff : ∀ ms : List Int, upB ms = true ↔ ∀ j, j + 1 < ms.length → ms.getD j 0 ≤ ms.getD (j + 1) 0
  | [] => ⟨fun _ j h => absurd h (Nat.not_lt_zero _), fun _ => rfl⟩
  | [a] => ⟨fun _ j h => by simp at h, fun _ => rfl⟩
  | a :: b :: r => by
    have ih := upB_iff (b :: r)
    show (decide (a ≤ b) && upB (b :: r)) = true ↔ _
    rw [Bool.and_eq_true, ih, decide_eq_true_eq]
    constructor
    · rintro ⟨h1, h2⟩ j hj
      cases j with
      | zero => exact h1
      | succ j => exact h2 j (by simpa using hj)
    · intro h
      exact ⟨h 0 (by simp), fun j hj => h (j + 1) (by simpa using hj)⟩
def drops (ms : List Int) (i : Nat) : List Nat := (List.range i).filter fun j => decide (ms.getD (j + 1) 0 < ms.getD j 0)
theorem drops_up (ms : List Int) (n : Nat) (h : n + 1 = ms.length) : (drops ms n).isEmpty = upB ms := by
  rw [Bool.eq_iff_iff, upB_iff, List.isEmpty_iff]
  unfold drops
  rw [List.filter_eq_nil_iff]
  constructor
  · intro g j hj
    have := g j (List.mem_range.mpr (by omega))
    rw [decide_eq_true_eq] at this
    omega
  · intro g j hj
    have := g j (by have := List.mem_range.mp hj; omega)
    rw [decide_eq_true_eq]
    omega
theorem drops_succ (ms : List Int) (i : Nat) : drops ms (i + 1) = drops ms i ++ (if ms.getD (i + 1) 0 < ms.getD i 0 then [i] else []) := by
  unfold drops
  rw [List.range_succ, List.filter_append]
  congr 1
  by_cases c : ms.getD (i + 1) 0 < ms.getD i 0
  · rw [if_pos c, List.filter_cons, if_pos (decide_eq_true c)]
    rfl
  · rw [if_neg c, List.filter_cons, if_neg (by rw [decide_eq_false c]; exact Bool.false_ne_true)]
    rfl
theorem drops_le (ms : List Int) (i : Nat) : (drops ms i).length ≤ i := by
  unfold drops
  refine Nat.le_trans (List.length_filter_le _ _) ?_
  rw [List.length_range]
  omega
theorem atI_int (ms : List Int) (j : Nat) (h : j < ms.length) : atI (ms.map V.int) ((j : Nat) : Int) = some (.int (ms.getD j 0)) := by
  refine atI_nat ?_
  rw [List.getElem?_map, List.getElem?_eq_getElem h, List.getD_eq_getElem?_getD, List.getElem?_eq_getElem h]
  rfl
section
variable {P : Program} {w : World} {K : PySem.W.Frag} {mg : Str → Option Value} {base : Heap}
abbrev s_law_is_whole : Stmt := topS 54
theorem sc_law_is_whole : FnScope ["_law_thing"] ["_law_thing"] (defScope s_law_is_whole) := ⟨rfl, rfl, rfl, by decide +kernel, rfl, by decide +kernel, by decide +kernel⟩
theorem ok_law_is_whole {f : Addr} {fd : FuncData} {k : Nat} (F : Fun K "_law_is_whole" "_law_is_whole" s_law_is_whole f fd) (misi : mg "isinstance" = none) (mint : mg "int" = none) (mbool : mg "bool" = none) : FnOk P w K mg base CX0 (k + 1) f fd ["_law_thing"] (sp_is K isI) := by
  have nd := sc_law_is_whole.nd
  refine F.ok sc_law_is_whole (fun vs H Q E h => ?_) (fun cdv A outer s H vs Q E hr h => ?_)
  · obtain ⟨v, d, ok, rfl, _⟩ := h
    rfl
  obtain ⟨v, d, ok, rfl, hd, q⟩ := h
  refine ⟨_, (pss_one (ps_ret (pe_and (pe_callB call_isi (by rfl) misi boot_isinstance (pa_cons (pv 0) (pa_cons (pe_bltn (v := .ty "int") (by rfl) mint boot_int rfl) pa_nil))) (pe_one (pe_not (pe_callB call_isi (by rfl) misi boot_isinstance (pa_cons (pv 0) (pa_cons (pe_bltn (v := .ty "bool") (by rfl) mbool boot_bool rfl) pa_nil)))))))), ?_⟩
  refine ⟨v, rfl, v, .ty "int", _, _, _, rfl, .ty "int", hd.ty, kit_i K d, _, rfl, ?_⟩
  cases d with
  | int i => exact iteT ⟨v, rfl, v, .ty "bool", _, _, _, rfl, .ty "bool", hd.ty, kit_b K _, _, rfl, q⟩
  | bool b => exact iteT ⟨v, rfl, v, .ty "bool", _, _, _, rfl, .ty "bool", hd.ty, kit_b K _, _, rfl, q⟩
  | _ => exact iteF q
abbrev s_law_has_marks : Stmt := topS 55
abbrev N_lhm : List Str := ["_law_thing", "_law_falls", "_law_k", "_law_one"]
theorem sc_law_has_marks : FnScope N_lhm ["_law_thing"] (defScope s_law_has_marks) := ⟨rfl, rfl, rfl, by decide +kernel, rfl, by decide +kernel, by decide +kernel⟩
theorem ok_law_has_marks {f fi : Addr} {fd di : FuncData} {k : Nat} (F : Fun K "_law_has_marks" "_law_has_marks" s_law_has_marks f fd) (Gi : FnOk P w K mg base CX0 k fi di ["_law_thing"] (sp_is K isI)) (gi : mg "_law_is_whole" = some (.ref fi)) (Ki : PySem.W.keepIn K (.ref fi) = true) (bi : Binds K di ["_law_thing"] [])
    (misi : mg "isinstance" = none) (mtuple : mg "tuple" = none) (mlen : mg "len" = none) (mrange : mg "range" = none) : FnOk P w K mg base CX0 (k + 1) f fd ["_law_thing"] (sp_sh K marksD) := by
  have nd := sc_law_has_marks.nd
  refine F.ok sc_law_has_marks (fun vs H Q E h => ?_) (fun cdv A outer s H vs Q E hr h => ?_)
  · obtain ⟨v, d, ok, rfl, _⟩ := h
    rfl
  obtain ⟨v, d, ok, rfl, hd, hsh, q⟩ := h
  have hu0 := hr.units0
  refine ⟨_, (pss_cons (ps_if (PW.pt (pw_or (pt_not (pt_val (pe_callB call_isi (by rfl) misi boot_isinstance (pa_cons (pv 0) (pa_cons (pe_bltn (v := .ty "tuple") (by rfl) mtuple boot_tuple rfl) pa_nil))))) (pw_or (pt_cmpR (op_eqT0 hu0) (pv 0) (pe_tup pa_nil) (nomark _)) (pw_or1 (pt_cmpR (op_neL0 hu0) (pe_lc (own := [("_law_one", 3)]) (tt := tNot (tB (tCall (sp_is K isI) [] E0 (tCons (tVar 3) tNil)))) (te := tVar 3) rfl nd (pi_tup (pv 0)) (blkOk_by (N := N_lhm) (sc := defScope s_law_has_marks) (by decide +kernel)) (fun _ _ _ _ _ => (pg_name (i := 3) nd rfl (Or.inl rfl))) (fun _ _ _ _ _ => (pts_one (pt_not (pt_val (pe_call Gi hr (by rfl) gi Ki bi .nil pass0 (pa_cons (pv 3) pa_nil)))))) (fun _ _ _ _ _ => (pv 3))) (pe_lst pa_nil) (nomark _))))))
      (pss_one (ps_ret pe_bl))
      pss_nil)
      (pss_cons (ps_setLc (i := 1) (own := [("_law_k", 2)]) (g := gName 2) (tt := tTest (tOp (rI0 fun i j => .bl (decide (i < j))) (tOp (rIxT K) (tVar 0) (tVar 2)) (tOp (rIxT K) (tVar 0) (tOp (rI0 fun i j => .int (i - j)) (tVar 2) (tC (.int 1)))))) (te := tVar 2) rfl nd rfl rfl (sw_true rfl rfl rfl (by decide +kernel)) (pi_range2 rfl mrange (pa_cons pe_int (pa_cons (pe_callB call_len_seq (by rfl) mlen PySem.boot_len (pa_cons (pv 0) pa_nil)) pa_nil))) (blkOk_by (N := N_lhm) (sc := defScope s_law_has_marks) (by decide +kernel)) (fun _ _ _ _ _ => (pg_name (i := 2) nd rfl (Or.inl rfl))) (fun _ _ _ _ _ => (pts_one (pt_cmpR op_lt (pe_ix ix_tup (pv 0) (pv 2) (fun _ _ => rfl)) (pe_ix ix_tup (pv 0) (pe_op op_sub (pv 2) pe_int) (fun _ _ => rfl)) (nomark _)))) (fun _ _ _ _ _ => (pv 2)))
      (pss_one (ps_ret (pe_and (pe_cmpR (op_eqL0 hu0) (pv 1) (pe_lst pa_nil) (nomark _)) (pe_and (pe_cmpR op_eq (pe_ix ix_tup (pv 0) pe_int (fun _ _ => rfl)) pe_int (nomark _)) (pe_one (pe_cmpR op_le (pe_ix ix_tup (pv 0) (pe_un un_neg pe_int) (fun _ _ => rfl)) pe_int (nomark _))))))))), ?_⟩
  have q0 : Q (.bl (marksD d)) H := q H fun _ _ e => e
  refine ⟨v, rfl, v, .ty "tuple", _, _, _, rfl, .ty "tuple", hd.ty, kit_t K d, _, rfl, ?_⟩
  cases hd with
  | tup hS hA =>
    rename_i a vs ds
    have q1 : ∀ H', Same H H' → Q (.bl (marksB ds)) H' := q
    have hl := hsh ds rfl
    have lA := hA.len
    refine iteF ⟨.ref a, rfl, Nat.zero_le _, fun e0 ne0 => ?_⟩
    have se := same_upd (o := .tup []) ne0
    have hS1 := (KeepT.of se).seqt hS
    refine ⟨a, e0, vs, rfl, rfl, hS1, .inl (.inl upd_same), _, rfl, ?_⟩
    revert hS1 se
    generalize upd H e0 (.tup []) = H1
    intro se hS1
    have hA1 := hA.keep (KeepO.of se)
    cases ds with
    | nil =>
      cases hA
      exact iteT (iteT (q1 H1 se))
    | cons d0 dr =>
    have hne : vs ≠ [] := fun e => by rw [e] at lA; cases lA
    have hem : vs.isEmpty = false := by
      cases vs with
      | nil => exact (hne rfl).elim
      | cons _ _ => rfl
    rw [hem]
    refine iteF ⟨.ref a, rfl, a, rfl, ⟨vs, hS1⟩, fun D nD => ?_⟩
    refine walk_bodyT (xs := vs) (fun i H' => ∃ us : List V, H' D = some (.lst us) ∧ us.isEmpty = ((d0 :: dr).take i).all isI ∧ us.length ≤ i ∧ Same H1 H') ?_ ?_ ?_ ?_
    · exact ⟨[], upd_same, rfl, Nat.le_refl _, same_upd nD⟩
    · rintro i H' _ ⟨us, _, _, _, kk⟩
      exact (KeepT.of kk).seqt hS1
    · rintro i y H' hy ⟨us, hD, he, hul, kk⟩
      obtain ⟨x, hx, hyx⟩ := dd_at (hA1.keep (KeepO.of kk)) hy
      have hi2 : i < (d0 :: dr).length := (List.getElem?_eq_some_iff.mp hx).1
      refine ⟨rfl, y, rfl, y, x, ok, rfl, hyx, _, rfl, ?_⟩
      have hat : ((d0 :: dr).take (i + 1)).all isI = (us.isEmpty && isI x) := by
        rw [take_at hx, List.all_append, he, List.all_cons, List.all_nil, Bool.and_true]
      cases c : isI x with
      | true =>
        rw [c, Bool.and_true] at hat
        exact iteF ⟨us, hD, hat.symm, by omega, kk⟩
      | false =>
        rw [c, Bool.and_false] at hat
        refine iteT ⟨y, rfl, us, hD, ?_, us ++ [y], upd_same, ?_, ?_, fun b o e => ?_⟩
        · rw [sizeLine_eq]
          omega
        · rw [hat]
          cases us <;> rfl
        · rw [List.length_append, List.length_singleton]
          omega
        · rw [upd_ne (ne_of_none e nD)]
          exact kk _ _ e
    · rintro H2 ⟨us, hD, he, hul, kk⟩
      rw [lA, List.take_length] at he
      refine ⟨Nat.zero_le _, fun l nl => ?_⟩
      have sl := same_upd (o := .lst []) nl
      refine ⟨D, l, us, rfl, rfl, .inl (.inl (sl _ _ hD)), .inl (.inl upd_same), _, rfl, ?_⟩
      rw [he]
      have s3 := se.trans (kk.trans sl)
      revert s3
      generalize upd H2 l (.lst []) = H3
      intro s3
      unfold marksB at q1
      cases c : (d0 :: dr).all isI with
      | false =>
        rw [c] at q1
        exact iteT (q1 H3 s3)
      | true =>
      rw [c] at q1
      simp only [Bool.true_and] at q1
      have hvs := ints_vs hA c
      have hms : (d0 :: dr).map iv = iv d0 :: dr.map iv := rfl
      have hlm0 : ((d0 :: dr).map iv).length ≤ 4000000 := by
        rw [List.length_map]
        exact hl
      revert q1 hvs hlm0
      rw [hms]
      generalize iv d0 = m0
      generalize hmr : dr.map iv = mr
      intro q1 hvs hlm0
      have hne : (m0 :: mr) ≠ [] := List.cons_ne_nil _ _
      obtain ⟨fr, la, hfl⟩ : ∃ fr la, m0 :: mr = fr ++ [la] := ⟨_, _, (List.dropLast_concat_getLast hne).symm⟩
      have hla : (m0 :: mr).getLastD 0 = la := by
        rw [hfl]
        simp
      rw [hla] at q1
      subst hvs
      have hmr1 : mr.length + 1 = (m0 :: mr).length := rfl
      have hup := drops_up (m0 :: mr) mr.length hmr1
      simp only [List.isEmpty_cons, Bool.not_false, Bool.true_and, List.headD_cons] at q1
      have hS3 := (KeepT.of s3).seqt hS
      refine iteF ⟨.ref a, rfl, a, _, rfl, .inr hS3, 1, _, rfl, ⟨by decide, by decide, ?_, ?_⟩, fun D2 nD2 => ?_⟩
      · rw [List.length_map]
        exact Int.le_trans (by decide) (Int.natCast_nonneg _)
      · rw [List.length_map]
        omega
      have hn : ((((((m0 :: mr).map V.int).length : Nat) : Int) - 1).toNat) = mr.length := by
        rw [List.length_map, List.length_cons]
        omega
      rw [hn]
      refine lc_range (fun i H' => H' D2 = some (.lst ((drops (m0 :: mr) i).map fun (j : Nat) => V.int (1 + (j : Int)))) ∧ Same H3 H') ⟨upd_same, same_upd nD2⟩ ?_ ?_
      · rintro i H' hi ⟨hD2, k2⟩
        have hS4 := (KeepT.of k2).seqt hS3
        have h1 := atI_int (m0 :: mr) (i + 1) (by rw [List.length_cons]; omega)
        have h2 := atI_int (m0 :: mr) i (by rw [List.length_cons]; omega)
        rw [show ((i + 1 : Nat) : Int) = 1 + (i : Int) by omega] at h1
        rw [show (i : Int) = 1 + (i : Int) - 1 by omega] at h2
        refine ⟨rfl, .ref a, rfl, .int (1 + (i : Int)), rfl, a, _, _, _, rfl, rfl, hS4, h1, .ref a, rfl, .int (1 + (i : Int)), rfl, _, _, rfl, rfl, a, _, _, _, rfl, rfl, hS4, h2, _, _, rfl, rfl, _, rfl, ?_⟩
        rw [drops_succ]
        have hdl := drops_le (m0 :: mr) i
        by_cases c2 : (m0 :: mr).getD (i + 1) 0 < (m0 :: mr).getD i 0
        · rw [decide_eq_true c2, if_pos c2]
          refine iteT ⟨.int (1 + (i : Int)), rfl, _, hD2, ?_, ?_, fun b o e => ?_⟩
          · rw [List.length_map, sizeLine_eq]
            omega
          · rw [List.map_append]
            exact upd_same
          · rw [upd_ne (ne_of_none e nD2)]
            exact k2 _ _ e
        · rw [decide_eq_false c2, if_neg c2, List.append_nil]
          exact iteF ⟨hD2, k2⟩
      · rintro H4 ⟨hD2, k4⟩
        refine ⟨.ref D2, rfl, Nat.zero_le _, fun l2 nl2 => ?_⟩
        have sl2 := same_upd (o := .lst []) nl2
        refine ⟨D2, l2, _, rfl, rfl, .inl (.inl (sl2 _ _ hD2)), .inl (.inl upd_same), ?_⟩
        have s5 := s3.trans (k4.trans sl2)
        have hS5 := (KeepT.of s5).seqt hS
        revert s5 hS5
        generalize upd H4 l2 (.lst []) = H5
        intro s5 hS5
        have e1 : ((drops (m0 :: mr) mr.length).map fun (j : Nat) => V.int (1 + (j : Int))).isEmpty = upB (m0 :: mr) := by
          rw [← hup]
          cases drops (m0 :: mr) mr.length <;> rfl
        rw [e1]
        refine ⟨_, rfl, ?_⟩
        cases c3 : upB (m0 :: mr) with
        | false =>
          rw [c3] at q1
          simp only [Bool.and_false] at q1
          exact iteF (q1 H5 s5)
        | true =>
        rw [c3] at q1
        simp only [Bool.and_true] at q1
        refine iteT ⟨.ref a, rfl, a, _, 0, .int m0, rfl, rfl, hS5, at0, rfl, _, rfl, ?_⟩
        rw [show decide (V.int m0 = V.int 0) = decide (m0 = 0) from decide_eq_decide.mpr ⟨fun e => V.int.inj e, fun e => by rw [e]⟩]
        by_cases c4 : m0 = 0
        case neg =>
          simp only [c4, decide_false, Bool.false_and] at q1
          rw [decide_eq_false c4]
          exact iteF (q1 H5 s5)
        simp only [c4, decide_true, Bool.true_and] at q1
        rw [decide_eq_true c4]
        have hal : atI ((m0 :: mr).map V.int) (-1) = some (.int la) := by
          rw [hfl, List.map_append]
          exact atI_last _ _
        exact iteT ⟨.ref a, rfl, 1, rfl, a, _, -1, .int la, rfl, rfl, hS5, hal, la, 10000, rfl, rfl, q1 H5 s5⟩
  | _ => exact iteT (iteT q0)
end
end L17

namespace L17
open PySem PySem.Spec PyProof.Rows L2 GR AD RZ WX ZE TX RVT
/-! ### the same parts, told by what lies between two marks -/
def btw (l h : Int) (es : List PyData) : List PyData := es.filter fun d => decide (l ≤ lineP d) && decide (lineP d < h)
def partsD : List Int → List PyData → List (List PyData)
  | m :: m' :: ms, es => btw m m' es :: partsD (m' :: ms) es
  | _, _ => []
abbrev AscL (es : List PyData) : Prop := (es.map lineP).Pairwise (· < ·)
theorem filter_tw {m : Int} : ∀ {l : List PyData}, AscL l → l.filter (fun d => decide (lineP d < m)) = l.takeWhile fun d => decide (lineP d < m)
  | [], _ => rfl
  | d :: l, h => by
    obtain ⟨h1, h2⟩ := List.pairwise_cons.mp (show (lineP d :: l.map lineP).Pairwise (· < ·) from h)
    rw [List.filter_cons, List.takeWhile_cons]
    by_cases c : lineP d < m
    · rw [decide_eq_true c, if_pos rfl, if_pos rfl, filter_tw h2]
    · rw [decide_eq_false c, if_neg Bool.false_ne_true, if_neg Bool.false_ne_true, List.filter_eq_nil_iff]
      intro x hx
      have := h1 (lineP x) (List.mem_map.mpr ⟨x, hx, rfl⟩)
      rw [decide_eq_true_eq]
      omega
theorem drop_tw {m : Int} : ∀ {l : List PyData}, AscL l → ∀ d, d ∈ l.drop (l.takeWhile fun d => decide (lineP d < m)).length → m ≤ lineP d
  | [], _, d, h => by simp at h
  | x :: l, h, d, hd => by
    obtain ⟨h1, h2⟩ := List.pairwise_cons.mp (show (lineP x :: l.map lineP).Pairwise (· < ·) from h)
    rw [List.takeWhile_cons] at hd
    by_cases c : lineP x < m
    · rw [decide_eq_true c, if_pos rfl, List.length_cons, List.drop_succ_cons] at hd
      exact drop_tw h2 d hd
    · rw [decide_eq_false c, if_neg Bool.false_ne_true, List.length_nil, List.drop_zero] at hd
      rcases List.mem_cons.mp hd with rfl | hd
      · omega
      · have := h1 (lineP d) (List.mem_map.mpr ⟨d, hd, rfl⟩)
        omega
theorem mem_tw {m : Int} : ∀ {l : List PyData} {d : PyData}, d ∈ l.takeWhile (fun d => decide (lineP d < m)) → lineP d < m
  | [], d, h => by simp at h
  | x :: l, d, hd => by
    rw [List.takeWhile_cons] at hd
    by_cases c : lineP x < m
    · rw [decide_eq_true c, if_pos rfl] at hd
      rcases List.mem_cons.mp hd with rfl | hd
      · exact c
      · exact mem_tw hd
    · rw [decide_eq_false c, if_neg Bool.false_ne_true] at hd
      exact (nomatch hd)
theorem asc_drop {es : List PyData} (h : AscL es) (e : Nat) : AscL (es.drop e) := by
  unfold AscL at h ⊢
  rw [List.map_drop]
  exact h.sublist (List.drop_sublist _ _)
theorem scan_parts {es : List PyData} (asc : AscL es) : ∀ (r : List Int) (m : Int) (e : Nat), upB (m :: r) = true → (∀ d, d ∈ es.take e → lineP d < m) → (∀ d, d ∈ es.drop e → m ≤ lineP d) → scan es e r = partsD (m :: r) es
  | [], m, e, _, _, _ => rfl
  | m' :: r, m, e, hu, h1, h2 => by
    have hu' : (decide (m ≤ m') && upB (m' :: r)) = true := hu
    rw [Bool.and_eq_true, decide_eq_true_eq] at hu'
    have ha := asc_drop asc e
    have key : adv es e m' - e = ((es.drop e).takeWhile fun d => decide (lineP d < m')).length := by
      unfold adv
      omega
    have hpart : (es.drop e).take (adv es e m' - e) = btw m m' es := by
      rw [key]
      have h3 : btw m m' es = btw m m' (es.take e) ++ btw m m' (es.drop e) := by
        unfold btw
        rw [← List.filter_append, List.take_append_drop]
      have h4 : btw m m' (es.take e) = [] := by
        unfold btw
        rw [List.filter_eq_nil_iff]
        intro d hd
        have := h1 d hd
        rw [decide_eq_false (show ¬ m ≤ lineP d by omega)]
        exact Bool.false_ne_true
      have h5 : btw m m' (es.drop e) = (es.drop e).takeWhile fun d => decide (lineP d < m') := by
        rw [← filter_tw ha]
        unfold btw
        refine List.filter_congr fun d hd => ?_
        rw [decide_eq_true (h2 d hd), Bool.true_and]
      rw [h3, h4, h5, List.nil_append]
      exact (List.prefix_iff_eq_take.mp (List.takeWhile_prefix _)).symm
    have hadv : adv es e m' = e + ((es.drop e).takeWhile fun d => decide (lineP d < m')).length := rfl
    rw [scan, partsD, hpart, scan_parts asc r m' (adv es e m') hu'.2 (fun d hd => ?_) (fun d hd => ?_)]
    · rw [hadv, List.take_add] at hd
      rcases List.mem_append.mp hd with hd | hd
      · have := h1 d hd
        omega
      · rw [← (List.prefix_iff_eq_take.mp (List.takeWhile_prefix _))] at hd
        exact mem_tw hd
    · rw [hadv, ← List.drop_drop] at hd
      exact drop_tw ha d hd
theorem entsB_asc {hi : Int} : ∀ {es : List PyData} {least : Int}, entsB hi least es = true → AscL es ∧ (∀ d, d ∈ es → least ≤ lineP d ∧ lineP d < hi)
  | [], _, _ => ⟨List.Pairwise.nil, fun _ h => (nomatch h)⟩
  | d :: r, least, h => by
    rw [entsB, Bool.and_eq_true] at h
    obtain ⟨a1, a2⟩ := entsB_asc h.2
    have h1 := h.1
    unfold lineB at h1
    split at h1
    · rename_i p x
      rw [Bool.and_eq_true, decide_eq_true_eq, decide_eq_true_eq] at h1
      have hp : lineP (.tuple [.int p, x]) = p := rfl
      refine ⟨?_, fun y hy => ?_⟩
      · show (lineP _ :: r.map lineP).Pairwise (· < ·)
        refine List.pairwise_cons.mpr ⟨fun q hq => ?_, a1⟩
        obtain ⟨y, hy, rfl⟩ := List.mem_map.mp hq
        have := (a2 y hy).1
        omega
      · rcases List.mem_cons.mp hy with rfl | hy
        · exact h1
        · have := a2 y hy
          omega
    · cases h1
/-- the parts as the law tells them -/
theorem parts_eq {m0 : Int} {mr : List Int} {es : List PyData} {hi : Int} (h0 : m0 = 0) (hu : upB (m0 :: mr) = true) (he : entsB hi 0 es = true) : scan es 0 mr = partsD (m0 :: mr) es := by
  obtain ⟨a1, a2⟩ := entsB_asc he
  refine scan_parts a1 mr m0 0 hu (fun d hd => by rw [List.take_zero] at hd; exact (nomatch hd)) fun d hd => ?_
  have := (a2 d (List.mem_of_mem_drop hd)).1
  omega
theorem cut_last (vs : List V) (h : vs ≠ []) : cutV vs none (some (-1)) = vs.dropLast := by
  have hl : 0 < vs.length := List.length_pos_iff.mpr h
  unfold cutV
  rw [HT.sIx_none]
  have : HT.sIx vs.length vs.length (some (-1)) = vs.length - 1 := by
    show (if ((-1 : Int)) < 0 then ((-1 : Int) + (vs.length : Int)).toNat else min (-1 : Int).toNat vs.length) = vs.length - 1
    rw [if_pos (by decide)]
    omega
  rw [this, List.drop_zero, Nat.sub_zero, List.dropLast_eq_take]
end L17

namespace L17
open PySem PySem.Spec PyProof.Rows L2 GR AD RZ WX ZE TX RVT
/-- what stands on the lines between two marks, as a tuple -/
theorem lines_btw {K : PySem.W.Frag} {ok : Addr → Prop} {H : Hp} {r : Addr} {ws : List V} {q : List PyData} {Q : VK} {x0 x1 x3 x4 : Option V} {lo hi : Int} (hr : SqT K H r ws) (hq : DdAll K ok H ws q) (hL : ∀ e, e ∈ q → isLine e) (hlen : q.length ≤ 4000000)
    (h : ∀ H' l ys, Same H H' → SqT K H' l ys → DdAll K ok H' ys ((btw lo hi q).map lineX) → Q (.ref l) H') :
    tCB (rTupOf K) (tCons (tLc (iTup K (tVar 2)) (gName 4) (tTest (tChain (rI0 fun i j => .bl (decide (i ≤ j))) (rI0 fun i j => .bl (decide (i < j))) (tVar 5) (tOp (rIxT K) (tVar 4) (tC (.int 0))) (tVar 6))) (tOp (rIxT K) (tVar 4) (tC (.int 1))) [4]) tNil) [x0, x1, some (.ref r), x3, x4, some (.int lo), some (.int hi)] H Q := by
  refine ⟨.ref r, rfl, r, rfl, ⟨ws, hr⟩, fun D nD => ?_⟩
  have lq := hq.len
  have hqo := hq.off nD
  refine walk_bodyT (xs := ws) (fun j H3 => ∃ zs, H3 D = some (.lst zs) ∧ DdAll K (fun b => ok b ∧ b ≠ D) H3 zs ((btw lo hi (q.take j)).map lineX) ∧ (∀ b o, b ≠ D → H b = some o → H3 b = some o)) ?_ ?_ ?_ ?_
  · exact ⟨[], upd_same, .nil, fun b o nb e => by rw [upd_ne nb]; exact e⟩
  · rintro j H3 _ ⟨zs, _, _, k3⟩
    exact (KeepT.of (H := H) fun b o e => k3 b o (ne_of_none e nD) e).seqt hr
  · rintro j y H3 hy ⟨zs, hD, hz, k3⟩
    have s3 : Same H H3 := fun b o e => k3 b o (ne_of_none e nD) e
    obtain ⟨d, hdj, hyd⟩ := dd_at (hqo.keep (KeepO.of s3)) hy
    obtain ⟨b, p, u, rfl, hb, hu, hp⟩ := line_at hyd (hL d (List.mem_of_getElem? hdj))
    have ko : KeepO (fun b => ok b ∧ b ≠ D) H3 (upd H3 D (.lst (zs ++ [u]))) := ⟨(KeepT.lst hD).1, (KeepT.lst hD).2, fun b o hb e => by rw [upd_ne hb.2]; exact e⟩
    have lz := hz.len
    have hj : j < q.length := (List.getElem?_eq_some_iff.mp hdj).1
    have hbl : (btw lo hi (q.take j)).length ≤ q.length := by
      unfold btw
      refine Nat.le_trans (List.length_filter_le _ _) ?_
      rw [List.length_take]
      omega
    rw [List.length_map] at lz
    have hst : btw lo hi (q.take (j + 1)) = btw lo hi (q.take j) ++ (if lo ≤ p ∧ p < hi then [d] else []) := by
      rw [take_at hdj]
      unfold btw
      rw [List.filter_append]
      congr 1
      rw [List.filter_cons, hp, List.filter_nil]
      by_cases c : lo ≤ p ∧ p < hi
      · rw [if_pos c, decide_eq_true c.1, decide_eq_true c.2]
        rfl
      · rw [if_neg c, if_neg]
        rw [Bool.and_eq_true, decide_eq_true_eq, decide_eq_true_eq]
        exact c
    have no : ¬ (lo ≤ p ∧ p < hi) → ∃ zs, H3 D = some (.lst zs) ∧ DdAll K (fun b => ok b ∧ b ≠ D) H3 zs ((btw lo hi (q.take (j + 1))).map lineX) ∧ (∀ b o, b ≠ D → H b = some o → H3 b = some o) := fun c => by
      rw [hst, if_neg c, List.append_nil]
      exact ⟨zs, hD, hz, k3⟩
    refine ⟨rfl, .int lo, rfl, .ref b, rfl, b, _, 0, .int p, rfl, rfl, hb, at0, lo, p, rfl, rfl, _, rfl, ?_⟩
    by_cases c1 : lo ≤ p
    case neg =>
      rw [decide_eq_false c1]
      exact iteF ⟨_, rfl, iteF (no fun c => c1 c.1)⟩
    rw [decide_eq_true c1]
    refine iteT ⟨.int hi, rfl, p, hi, rfl, rfl, _, rfl, ?_⟩
    by_cases c2 : p < hi
    case neg =>
      rw [decide_eq_false c2]
      exact iteF (no fun c => c2 c.2)
    rw [decide_eq_true c2]
    refine iteT ⟨.ref b, rfl, b, _, 1, u, rfl, rfl, hb, at1, zs, hD, ?_, zs ++ [u], upd_same, ?_, fun b o nb e => ?_⟩
    · rw [sizeLine_eq]
      omega
    · rw [hst, if_pos ⟨c1, c2⟩, List.map_append]
      exact (hz.app (.cons hu .nil)).keep ko
    · rw [upd_ne nb]
      exact k3 b o nb e
  · rintro H3 ⟨zs, hD, hz, k3⟩
    have s3 : Same H H3 := fun b o e => k3 b o (ne_of_none e nD) e
    rw [lq, List.take_length] at hz
    refine ⟨D, zs, rfl, .inl ⟨.inl (.inl hD), fun l nl => ?_⟩⟩
    have sl := same_upd (o := .tup zs) nl
    exact h _ l zs (s3.trans sl) (.inl (.inl upd_same)) ((hz.mono fun _ h => h.1).keep (KeepO.of sl))
theorem btw_sub {lo hi : Int} {es : List PyData} : (∀ d, d ∈ btw lo hi es → d ∈ es) ∧ (btw lo hi es).length ≤ es.length :=
  ⟨fun d hd => (List.mem_filter.mp hd).1, List.length_filter_le _ _⟩
theorem partsD_all (f : List PyData → Bool) {es : List PyData} {lo hi : Int} {ms : List Int} {i : Nat} (h1 : ms[i]? = some lo) (h2 : ms[i + 1]? = some hi) : (partsD (ms.drop i) es).all f = (f (btw lo hi es) && (partsD (ms.drop (i + 1)) es).all f) := by
  obtain ⟨i1, e1⟩ := List.getElem?_eq_some_iff.mp h1
  obtain ⟨i2, e2⟩ := List.getElem?_eq_some_iff.mp h2
  rw [List.drop_eq_getElem_cons i1, List.drop_eq_getElem_cons i2, e1, e2, partsD, List.all_cons]
section
variable {P : Program} {w : World} {K : PySem.W.Frag} {mg : Str → Option Value} {base : Heap}
abbrev s_law_is_log : Stmt := topS 56
abbrev N_lil : List Str := ["_law_thing", "_law_marks", "_law_lines", "_law_least", "_law_entry", "_law_low", "_law_high"]
theorem sc_law_is_log : FnScope N_lil ["_law_thing"] (defScope s_law_is_log) := ⟨rfl, rfl, rfl, by decide +kernel, rfl, by decide +kernel, by decide +kernel⟩
theorem ok_law_is_log {f fm fe ft : Addr} {fd dm de dt : FuncData} {k : Nat} (F : Fun K "_law_is_log" "_law_is_log" s_law_is_log f fd) (Gm : FnOk P w K mg base CX0 k fm dm ["_law_thing"] (sp_sh K marksD)) (gm : mg "_law_has_marks" = some (.ref fm)) (Km : PySem.W.keepIn K (.ref fm) = true) (bm : Binds K dm ["_law_thing"] [])
    (Gi : FnOk P w K mg base CX0 k fe de ["_law_thing"] (sp_is K isI)) (gi : mg "_law_is_whole" = some (.ref fe)) (Ki : PySem.W.keepIn K (.ref fe) = true) (bi : Binds K de ["_law_thing"] [])
    (Gt : FnOk P w K mg base CX0 k ft dt ["thing"] (sp_it K)) (gt : mg "is_transaction" = some (.ref ft)) (Kt : PySem.W.keepIn K (.ref ft) = true) (bt : Binds K dt ["thing"] [])
    (misi : mg "isinstance" = none) (mtuple : mg "tuple" = none) (mlen : mg "len" = none) (mzip : mg "zip" = none) : FnOk P w K mg base CX0 (k + 1) f fd ["_law_thing"] (sp_il K) := by
  have nd := sc_law_is_log.nd
  refine F.ok sc_law_is_log (fun vs H Q E h => ?_) (fun cdv A outer s H vs Q E hr h => ?_)
  · obtain ⟨v, d, ok, S, rfl, _⟩ := h
    rfl
  obtain ⟨v, d, ok, S, rfl, hd, hl, hS60, q⟩ := h
  refine ⟨_, (pss_cons (ps_if (PW.pt (pw_or (pt_not (pt_val (pe_callB call_isi (by rfl) misi boot_isinstance (pa_cons (pv 0) (pa_cons (pe_bltn (v := .ty "tuple") (by rfl) mtuple boot_tuple rfl) pa_nil))))) (pw_or (pt_cmpR op_ne (pe_callB call_len_seq (by rfl) mlen PySem.boot_len (pa_cons (pv 0) pa_nil)) pe_int (nomark _)) (pw_or1 (pt_not (pt_val (pe_call Gm hr (by rfl) gm Km bm .nil pass0 (pa_cons (pe_ix ix_tup (pv 0) pe_int (fun _ _ => rfl)) pa_nil))))))))
      (pss_one (ps_ret pe_bl))
      pss_nil)
      (pss_cons (ps_asg (pv 0) (pg_tup rfl (pgs_cons (pg_name (i := 1) (x := "_law_marks") nd rfl (Or.inl rfl)) (pgs_cons (pg_name (i := 2) (x := "_law_lines") nd rfl (Or.inl rfl)) pgs_nil))))
      (pss_cons (ps_if (pt_not (pt_val (pe_callB call_isi (by rfl) misi boot_isinstance (pa_cons (pv 2) (pa_cons (pe_bltn (v := .ty "tuple") (by rfl) mtuple boot_tuple rfl) pa_nil)))))
      (pss_one (ps_ret pe_bl))
      pss_nil)
      (pss_cons (ps_set (i := 3) nd rfl (.inl rfl) pe_int)
      (Evl.pss_cut (ps_for PassesOwn.never rfl (pi_tup (pv 2)) (pg_name (i := 4) nd rfl (Or.inl rfl))
      (pss_cons (ps_if (PW.pt (pw_or (pt_not (pt_val (pe_callB call_isi (by rfl) misi boot_isinstance (pa_cons (pv 4) (pa_cons (pe_bltn (v := .ty "tuple") (by rfl) mtuple boot_tuple rfl) pa_nil))))) (pw_or (pt_cmpR op_ne (pe_callB call_len_seq (by rfl) mlen PySem.boot_len (pa_cons (pv 4) pa_nil)) pe_int (nomark _)) (pw_or1 (pt_not (pt_val (pe_call Gi hr (by rfl) gi Ki bi .nil pass0 (pa_cons (pe_ix ix_tup (pv 4) pe_int (fun _ _ => rfl)) pa_nil))))))))
        (pss_one (ps_ret pe_bl))
        pss_nil)
        (pss_cons (ps_if (PW.pt (pw_or (pt_cmpR op_lt (pe_ix ix_tup (pv 4) pe_int (fun _ _ => rfl)) (pv 3) (nomark _)) (pw_or1 (pt_cmpR op_ge (pe_ix ix_tup (pv 4) pe_int (fun _ _ => rfl)) (pe_ix ix_tup (pv 1) (pe_un un_neg pe_int) (fun _ _ => rfl)) (nomark _)))))
        (pss_one (ps_ret pe_bl))
        pss_nil)
        (pss_one (ps_set (i := 3) nd rfl (.inl rfl) (pe_op op_add (pe_ix ix_tup (pv 4) pe_int (fun _ _ => rfl)) pe_int))))))
      (pss_cons (ps_for PassesOwn.never rfl (pi_zipA (by rfl) mzip (pa_cons (pe_slice sl_tupA (pv 1) po_none (po_some (pe_un un_neg pe_int))) (pa_cons (pe_slice sl_tupA (pv 1) (po_some pe_int) po_none) pa_nil))) (pg_tup rfl (pgs_cons (pg_name (i := 5) nd rfl (Or.inr rfl)) (pgs_cons (pg_name (i := 6) nd rfl (Or.inr rfl)) pgs_nil)))
      (pss_one (ps_if (pt_not (pt_val (pe_call Gt hr (by rfl) gt Kt bt .nil pass0 (pa_cons (pe_callTy (r := rTupOf K) call_tuple_of (by rfl) mtuple boot_tuple (pa_cons (pe_lc (own := [("_law_entry", 4)]) (g := gName 4) (tt := tTest (tChain (rI0 fun i j => .bl (decide (i ≤ j))) (rI0 fun i j => .bl (decide (i < j))) (tVar 5) (tOp (rIxT K) (tVar 4) (tC (.int 0))) (tVar 6))) (te := tOp (rIxT K) (tVar 4) (tC (.int 1))) rfl nd (pi_tup (pv 2)) (blkOk_by (N := N_lil) (sc := defScope s_law_is_log) (by decide +kernel)) (fun _ _ _ _ _ => (pg_name (i := 4) nd rfl (Or.inl rfl))) (fun _ _ _ _ _ => (pts_one (pt_chain op_le op_lt (pv 5) (pe_ix ix_tup (pv 4) pe_int (fun _ _ => rfl)) (pv 6)))) (fun _ _ _ _ _ => (pe_ix ix_tup (pv 4) pe_int (fun _ _ => rfl)))) pa_nil)) pa_nil))))
        (pss_one (ps_ret pe_bl))
        pss_nil)))
      (pss_one (ps_ret pe_bl)))))))), ?_⟩
  have q0 : Q (.bl (logB d)) H := q H fun _ _ e => e
  refine ⟨v, rfl, v, .ty "tuple", _, _, _, rfl, .ty "tuple", hd.ty, kit_t K d, _, rfl, ?_⟩
  cases hd with
  | tup hS hA =>
    rename_i a vs ds
    have lA := hA.len
    refine iteF ⟨.ref a, rfl, a, vs, rfl, .inr hS, rfl, _, rfl, ?_⟩
    by_cases c : ds.length = 2
    case neg =>
      have hw : logB (.tuple ds) = false := by
        unfold logB
        split
        · rename_i h
          cases h
          exact (c rfl).elim
        · rfl
      rw [hw] at q0
      rw [decide_eq_false (show ¬ V.int ((vs.length : Nat) : Int) = V.int 2 from fun e => c (by injection e with e; omega))]
      exact iteT (iteT q0)
    match ds, c, hA with
    | [m, e], _, hA =>
    have hlm := hl.sub m List.mem_cons_self
    have hle := hl.sub e (List.mem_cons_of_mem _ List.mem_cons_self)
    cases hA with
    | @cons v0 _ _ _ g0 hA =>
    cases hA with
    | @cons v1 _ _ _ g1 hA =>
    cases hA
    have q1 : ∀ H', Same H H' → Q (.bl (marksD m && (entsD (lastM m) e && partsB m e))) H' := q
    refine iteF ⟨.ref a, rfl, a, _, 0, v0, rfl, rfl, hS, at0, v0, m, ok, rfl, g0, hlm.short, fun H1 s1 => ⟨_, rfl, ?_⟩⟩
    cases c1 : marksD m with
    | false =>
      rw [c1] at q1
      exact iteT (q1 H1 s1)
    | true =>
    rw [c1] at q1
    simp only [Bool.true_and] at q1
    match m, c1, g0, hlm with
    | .tuple ms, c1, g0, hlm =>
    obtain ⟨am, xs, rfl, hM, hMA⟩ := L17.Dd.tup_inv g0
    have c1' : marksB ms = true := c1
    unfold marksB at c1'
    rw [Bool.and_eq_true] at c1'
    have hxs := ints_vs hMA c1'.1
    have hsm := hlm.short ms rfl
    obtain ⟨d0, dr, rfl⟩ : ∃ d0 dr, ms = d0 :: dr := by
      cases ms with
      | nil => cases c1'.2
      | cons d0 dr => exact ⟨d0, dr, rfl⟩
    have hms : (d0 :: dr).map iv = iv d0 :: dr.map iv := rfl
    have c2 := c1'.2
    rw [hms] at hxs c2
    have hlast : lastM (.tuple (d0 :: dr)) = (iv d0 :: dr.map iv).getLastD 0 := rfl
    have hpb : partsB (.tuple (d0 :: dr)) e = (scan (items e) 0 (dr.map iv)).all fun q => goT [] (q.map lineX) := rfl
    rw [hlast, hpb] at q1
    have hlr : (dr.map iv).length ≤ 4000000 := by
      rw [List.length_map]
      rw [List.length_cons] at hsm
      omega
    revert q1 hxs hlr c2
    generalize iv d0 = m0
    generalize dr.map iv = mr
    intro q1 hxs c2 hlr
    simp only [List.isEmpty_cons, Bool.not_false, Bool.true_and, Bool.and_eq_true, decide_eq_true_eq, List.headD_cons] at c2
    obtain ⟨hm0, _, hup⟩ := c2
    have hne : (m0 :: mr) ≠ [] := List.cons_ne_nil _ _
    obtain ⟨fr, la, hfl⟩ : ∃ fr la, m0 :: mr = fr ++ [la] := ⟨_, _, (List.dropLast_concat_getLast hne).symm⟩
    have hla : (m0 :: mr).getLastD 0 = la := by
      rw [hfl]
      simp
    rw [hla] at q1
    subst hxs
    have hal : atI ((m0 :: mr).map V.int) (-1) = some (.int la) := by
      rw [hfl, List.map_append]
      exact atI_last _ _
    have hM1 := (KeepT.of s1).seqt hM
    have hS1 := (KeepT.of s1).seqt hS
    have g11 := g1.keep (KeepO.of s1)
    have q2 := q1 H1 s1
    refine iteF ⟨.ref a, rfl, a, _, rfl, hS1, rfl, _, _, rfl, _, _, rfl, rfl, v1, rfl, v1, .ty "tuple", _, _, _, rfl, .ty "tuple", g11.ty, kit_t K e, _, rfl, ?_⟩
    cases g11 with
    | @tup ae us es hE hEA =>
      have lE := hEA.len
      have hse := hle.short es rfl
      have q3 : ∀ H', Same H H' → Q (.bl (entsB la 0 es && (scan es 0 mr).all fun q => goT [] (q.map lineX))) H' := q1
      refine iteF ⟨fun σ' H' => H' = H1 ∧ ∃ x3 x4, σ' = [some (.ref a), some (.ref am), some (.ref ae), x3, x4, none, none] ∧ entsB la 0 es = true, ?_, ?_⟩
      · refine ⟨.ref ae, rfl, ae, rfl, ⟨us, hE⟩, ?_⟩
        refine for_it (walk_tup (xs := us)) (fun i σ H' => ∃ (y : Option V) (least : Int), σ = [some (.ref a), some (.ref am), some (.ref ae), some (.int least), y, none, none] ∧ H' = H1 ∧ entsB la 0 es = entsB la least (es.drop i)) ⟨none, 0, rfl, rfl, rfl⟩ ?_ ?_ ?_
        · rintro i σ H' _ ⟨y, least, rfl, rfl, _⟩
          exact hE
        · rintro i x σ H0' H' hi2 ⟨y, least, rfl, e0, hg⟩ ⟨rfl, hx⟩
          subst e0
          obtain ⟨e, hei, hxe⟩ := dd_at hEA hx
          have hi3 : i < es.length := (List.getElem?_eq_some_iff.mp hei).1
          have hse2 := (hle.sub e (List.mem_of_getElem? hei)).short
          rw [List.drop_eq_getElem_cons hi3, (List.getElem?_eq_some_iff.mp hei).2, entsB] at hg
          have qf : entsB la 0 es = false → Q (.bl false) H' := fun ee => by
            have q4 := q3 H' s1
            rw [ee, Bool.false_and] at q4
            exact q4
          refine ⟨x, rfl, x, .ty "tuple", _, _, _, rfl, .ty "tuple", hxe.ty, kit_t K e, _, rfl, ?_⟩
          cases hxe with
          | @tup b us2 es2 hS2 hB =>
            have lB := hB.len
            refine iteF ⟨.ref b, rfl, b, us2, rfl, .inr hS2, rfl, _, rfl, ?_⟩
            by_cases c : es2.length = 2
            case neg =>
              have hw : lineB least la (.tuple es2) = false := by
                unfold lineB
                split
                · rename_i h
                  cases h
                  exact (c rfl).elim
                · rfl
              rw [hw, Bool.false_and] at hg
              rw [decide_eq_false (show ¬ V.int ((us2.length : Nat) : Int) = V.int 2 from fun e => c (by injection e with e; omega))]
              exact iteT (iteT (qf hg))
            match es2, c, hB with
            | [e0, e1], _, hB =>
            cases hB with
            | @cons w0 _ _ _ h0 hB =>
            cases hB with
            | @cons w1 _ _ _ h1 hB =>
            cases hB
            refine iteF ⟨.ref b, rfl, b, _, 0, w0, rfl, rfl, hS2, at0, w0, e0, ok, rfl, h0, _, rfl, ?_⟩
            cases h0 with
            | int p =>
              have hw : lineB least la (.tuple [.int p, e1]) = (decide (least ≤ p) && decide (p < la)) := rfl
              have hp : lineP (.tuple [.int p, e1]) = p := rfl
              rw [hw, hp] at hg
              refine iteF ⟨.ref b, rfl, b, _, 0, .int p, rfl, rfl, hS2, at0, .int least, rfl, p, least, rfl, rfl, _, rfl, ?_⟩
              by_cases c1 : least ≤ p
              case neg =>
                rw [decide_eq_false c1, Bool.false_and, Bool.false_and] at hg
                rw [decide_eq_true (show p < least by omega)]
                exact iteT (iteT (qf hg))
              rw [decide_eq_true c1, Bool.true_and] at hg
              rw [decide_eq_false (show ¬ p < least by omega)]
              refine iteF ⟨.ref b, rfl, b, _, 0, .int p, rfl, rfl, hS2, at0, .ref am, rfl, 1, rfl, am, _, -1, .int la, rfl, rfl, hM1, hal, p, la, rfl, rfl, _, rfl, ?_⟩
              by_cases c2 : p < la
              case neg =>
                rw [decide_eq_false c2, Bool.false_and] at hg
                rw [decide_eq_true (show p ≥ la by omega)]
                exact iteT (qf hg)
              rw [decide_eq_true c2, Bool.true_and] at hg
              rw [decide_eq_false (show ¬ p ≥ la by omega)]
              exact iteF ⟨.ref b, rfl, b, _, 0, .int p, rfl, rfl, hS2, at0, p, 1, rfl, rfl, _, _, rfl, rfl, hg⟩
            | _ => exact iteT (qf (by rw [hg]; rfl))
          | _ => exact iteT (iteT (qf (by rw [hg]; rfl)))
        · rintro σ H' ⟨y, least, rfl, rfl, hg⟩
          rw [lE, List.drop_length] at hg
          exact ⟨rfl, _, _, rfl, hg⟩
      · rintro σ' G1 ⟨rfl, x3, x4, rfl, hents⟩
        have hlines := entsB_lines hents
        have hpe := parts_eq (of_decide_eq_true hm0) hup hents
        have q4 : ∀ H', Same H H' → Q (.bl ((partsD (m0 :: mr) es).all fun q => goT [] (q.map lineX))) H' := fun H' s' => by
          have := q3 H' s'
          rw [hents, Bool.true_and, hpe] at this
          exact this
        have hdl : ((m0 :: mr).map V.int).dropLast.length = mr.length := by
          rw [List.length_dropLast, List.length_map, List.length_cons, Nat.add_sub_cancel]
        refine ⟨.ref am, rfl, 1, rfl, -1, rfl, slice_any hM1 fun H2 p1 s2 hp1 => ⟨.ref am, rfl, 1, rfl, slice_from ((KeepT.of s2).seqt hM1) fun H3 p2 s3 hp2 => ⟨p1, p2, ((m0 :: mr).map V.int).dropLast, mr.map V.int, rfl, .inr ⟨?_, ?_, ?_⟩⟩⟩⟩
        · rw [cut_last _ (by simp)] at hp1
          exact (KeepT.of s3).seqt hp1
        · have hcut : cutV ((m0 :: mr).map V.int) (some 1) none = mr.map V.int := cut1 _ _
          rw [hcut] at hp2
          exact hp2
        rw [cut_last _ (by simp)] at hp1
        have hcut : cutV ((m0 :: mr).map V.int) (some 1) none = mr.map V.int := cut1 _ _
        rw [hcut] at hp2
        have hp13 := (KeepT.of s3).seqt hp1
        have s23 := s2.trans s3
        refine for_zipT (xs := ((m0 :: mr).map V.int).dropLast) (ys := mr.map V.int) (by rw [hdl, List.length_map]) (fun i σ H' => ∃ y4 y5 y6, σ = [some (.ref a), some (.ref am), some (.ref ae), x3, y4, y5, y6] ∧ Same H3 H' ∧ ((partsD (m0 :: mr) es).all fun q => goT [] (q.map lineX)) = (partsD ((m0 :: mr).drop i) es).all fun q => goT [] (q.map lineX)) ?_ ?_ ?_ ?_
        · exact ⟨_, _, _, rfl, fun b o e => e, rfl⟩
        · rintro i σ H' ⟨y4, y5, y6, rfl, kk, _⟩
          exact ⟨(KeepT.of kk).seqt hp13, (KeepT.of kk).seqt hp2⟩
        · rintro i x y T σ H' hx hy ⟨y4, y5, y6, rfl, kk, hg⟩ nT
          rw [List.getElem?_map] at hy
          obtain ⟨hi, hhi, rfl⟩ := Option.map_eq_some_iff.mp hy
          have hi1 : i < mr.length := (List.getElem?_eq_some_iff.mp hhi).1
          rw [List.getElem?_dropLast, if_pos (by rw [List.length_map, List.length_cons]; omega), List.getElem?_map] at hx
          obtain ⟨lo, hlo, rfl⟩ := Option.map_eq_some_iff.mp hx
          rw [partsD_all _ hlo (show (m0 :: mr)[i + 1]? = some hi from hhi)] at hg
          have sT := same_upd (o := .tup [.int lo, .int hi]) nT
          have s5 : Same G1 (upd H' T (.tup [.int lo, .int hi])) := s23.trans (kk.trans sT)
          refine ⟨T, [.int lo, .int hi], rfl, .inl (.inl upd_same), rfl, _, _, rfl, _, _, rfl, rfl, ?_⟩
          refine lines_btw (x0 := some (.ref a)) (x1 := some (.ref am)) (x3 := x3) (x4 := y4) (lo := lo) (hi := hi) (ok := ok) ((KeepT.of s5).seqt hE) (hEA.keep (KeepO.of s5)) hlines hse fun H4 l ys s6 hl4 hys => ⟨l, ys, _, ok, S, rfl, hl4, hys, fun x hx => ?_, hS60, ?_, fun H5 s7 => ⟨_, rfl, ?_⟩⟩
          · obtain ⟨d, hd, rfl⟩ := List.mem_map.mp hx
            have hde := btw_sub.1 d hd
            obtain ⟨p, x, rfl⟩ := hlines d hde
            exact ((hle.sub _ hde).sub x (List.mem_cons_of_mem _ List.mem_cons_self)).zp
          · rw [List.length_map]
            exact Nat.le_trans btw_sub.2 hse
          · have s8 : Same H3 H5 := kk.trans (sT.trans (s6.trans s7))
            cases c5 : goT [] ((btw lo hi es).map lineX) with
            | false =>
              rw [c5, Bool.false_and] at hg
              have := q4 H5 (s1.trans (s23.trans s8))
              rw [hg] at this
              exact iteT this
            | true =>
              rw [c5, Bool.true_and] at hg
              exact iteF ⟨_, _, _, rfl, s8, hg⟩
        · rintro σ H' ⟨y4, y5, y6, rfl, kk, hg⟩
          have hnil : partsD ((m0 :: mr).drop ((m0 :: mr).map V.int).dropLast.length) es = [] := by
            rw [hdl]
            have : ((m0 :: mr).drop mr.length).length = 1 := by
              rw [List.length_drop, List.length_cons]
              omega
            match (m0 :: mr).drop mr.length, this with
            | [x], _ => rfl
          rw [hnil] at hg
          have := q4 H' (s1.trans (s23.trans kk))
          rw [hg] at this
          exact this
    | _ => exact iteT q2
  | _ => exact iteT (iteT q0)
end
end L17

namespace L17
open PySem PySem.Spec PyProof.Rows L2 GR AD RZ WX ZE TX RVT
/-! ### bounds of what may be asked about -/
def okC (c : Nat) : Bool := decide (32 ≤ c) && decide (c < 127) && (decide (c ≠ 39) && decide (c ≠ 92))
mutual
/-- its texts are among S, short and of plain signs; its numbers are small -/
def atB (S : List Str) (q m : Nat) : PyData → Bool
  | .tuple ds => atBs S q m ds
  | .list ds => atBs S q m ds
  | .dict kvs => atBk S q m kvs
  | .str z => decide (z ∈ S) && (decide (z.length ≤ q) && z.cps.toList.all okC)
  | .int i => decide (i.natAbs ≤ m)
  | _ => true
def atBs (S : List Str) (q m : Nat) : List PyData → Bool
  | [] => true
  | d :: ds => atB S q m d && atBs S q m ds
def atBk (S : List Str) (q m : Nat) : List (PyData × PyData) → Bool
  | [] => true
  | (k, v) :: r => (atB S q m k && atB S q m v) && atBk S q m r
end
theorem okC_iff {c : Nat} : okC c = true ↔ (32 ≤ c ∧ c < 127) ∧ (c ≠ 39 ∧ c ≠ 92) := by
  unfold okC
  simp only [Bool.and_eq_true, decide_eq_true_eq]
section
variable {S S' : List Str} {q m q' m' : Nat}
mutual
theorem at_mono (hS : ∀ z, z ∈ S → z ∈ S') (hq : q ≤ q') (hm : m ≤ m') : ∀ d : PyData, atB S q m d = true → atB S' q' m' d = true
  | .tuple ds, h => by rw [atB] at h ⊢; exact ats_mono hS hq hm ds h
  | .list ds, h => by rw [atB] at h ⊢; exact ats_mono hS hq hm ds h
  | .dict kvs, h => by rw [atB] at h ⊢; exact atk_mono hS hq hm kvs h
  | .str z, h => by
    rw [atB, Bool.and_eq_true, Bool.and_eq_true, decide_eq_true_eq, decide_eq_true_eq] at h ⊢
    exact ⟨hS _ h.1, Nat.le_trans h.2.1 hq, h.2.2⟩
  | .int i, h => by
    rw [atB, decide_eq_true_eq] at h ⊢
    omega
  | .none, _ => by rw [atB] <;> simp
  | .bool _, _ => by rw [atB] <;> simp
theorem ats_mono (hS : ∀ z, z ∈ S → z ∈ S') (hq : q ≤ q') (hm : m ≤ m') : ∀ ds : List PyData, atBs S q m ds = true → atBs S' q' m' ds = true
  | [], _ => by rw [atBs]
  | d :: ds, h => by
    rw [atBs, Bool.and_eq_true] at h ⊢
    exact ⟨at_mono hS hq hm d h.1, ats_mono hS hq hm ds h.2⟩
theorem atk_mono (hS : ∀ z, z ∈ S → z ∈ S') (hq : q ≤ q') (hm : m ≤ m') : ∀ ds : List (PyData × PyData), atBk S q m ds = true → atBk S' q' m' ds = true
  | [], _ => by rw [atBk]
  | (k, v) :: ds, h => by
    rw [atBk, Bool.and_eq_true, Bool.and_eq_true] at h ⊢
    exact ⟨⟨at_mono hS hq hm k h.1.1, at_mono hS hq hm v h.1.2⟩, atk_mono hS hq hm ds h.2⟩
end
theorem ok_so {z : Str} (h : z.cps.toList.all okC = true) : SO z := fun c hc => by
  have := okC_iff.mp (List.all_eq_true.mp h c hc)
  omega
mutual
theorem at_tx : ∀ d : PyData, atB S q m d = true → txS S d = true
  | .tuple ds, h => by rw [atB] at h; rw [txS]; exact ats_tx ds h
  | .list ds, h => by simp [txS]
  | .dict kvs, h => by simp [txS]
  | .str z, h => by
    rw [atB, Bool.and_eq_true] at h
    rw [txS]
    exact h.1
  | .int i, h => by simp [txS]
  | .none, _ => by simp [txS]
  | .bool _, _ => by simp [txS]
theorem ats_tx : ∀ ds : List PyData, atBs S q m ds = true → txSs S ds = true
  | [], _ => by rw [txSs]
  | d :: ds, h => by
    rw [atBs, Bool.and_eq_true] at h
    rw [txSs, at_tx d h.1, ats_tx ds h.2]
    rfl
end
mutual
theorem at_sh (hq : q ≤ 1000) : ∀ d : PyData, atB S q m d = true → shB d = true
  | .tuple ds, h => by rw [atB] at h; rw [shB]; exact ats_sh hq ds h
  | .list ds, h => by simp [shB]
  | .dict kvs, h => by simp [shB]
  | .str z, h => by
    rw [atB, Bool.and_eq_true, Bool.and_eq_true, decide_eq_true_eq, decide_eq_true_eq] at h
    rw [shB, so_iff.mpr (ok_so h.2.2), Bool.and_true]
    exact decide_eq_true (Nat.le_trans h.2.1 hq)
  | .int i, h => by simp [shB]
  | .none, _ => by simp [shB]
  | .bool _, _ => by simp [shB]
theorem ats_sh (hq : q ≤ 1000) : ∀ ds : List PyData, atBs S q m ds = true → shBs ds = true
  | [], _ => by rw [shBs]
  | d :: ds, h => by
    rw [atBs, Bool.and_eq_true] at h
    rw [shBs, at_sh hq d h.1, ats_sh hq ds h.2]
    rfl
end
mutual
theorem at_shw (hm : m ≤ 10 ^ 41) : ∀ d : PyData, atB S q m d = true → d.showable = true
  | .tuple ds, h => by rw [atB] at h; simp only [PyData.showable]; exact ats_shw hm ds h
  | .list ds, h => by rw [atB] at h; simp only [PyData.showable]; exact ats_shw hm ds h
  | .dict kvs, h => by rw [atB] at h; simp only [PyData.showable]; exact atk_shw hm kvs h
  | .str z, h => by simp only [PyData.showable]
  | .int i, h => by
    rw [atB, decide_eq_true_eq] at h
    simp only [PyData.showable]
    refine decide_eq_true ?_
    by_cases e : i.natAbs = 0
    · rw [e]; decide
    · exact (Nat.log2_lt e).mpr (Nat.lt_of_le_of_lt (Nat.le_trans h hm) (Nat.lt_of_lt_of_le (show 10 ^ 41 < 2 ^ 140 by decide) (Nat.pow_le_pow_right (by decide) (by decide))))
  | .none, _ => by simp only [PyData.showable]
  | .bool _, _ => by simp only [PyData.showable]
theorem ats_shw (hm : m ≤ 10 ^ 41) : ∀ ds : List PyData, atBs S q m ds = true → PyData.showableAll ds = true
  | [], _ => by simp only [PyData.showableAll]
  | d :: ds, h => by
    rw [atBs, Bool.and_eq_true] at h
    simp only [PyData.showableAll, at_shw hm d h.1, ats_shw hm ds h.2, Bool.and_self]
theorem atk_shw (hm : m ≤ 10 ^ 41) : ∀ ds : List (PyData × PyData), atBk S q m ds = true → PyData.showableKv ds = true
  | [], _ => by simp only [PyData.showableKv]
  | (k, v) :: ds, h => by
    rw [atBk, Bool.and_eq_true, Bool.and_eq_true] at h
    simp only [PyData.showableKv, at_shw hm k h.1.1, at_shw hm v h.1.2, atk_shw hm ds h.2, Bool.and_self]
end
mutual
theorem at_so : ∀ d : PyData, atB S q m d = true → SO d.shown
  | .none, _ => by rw [PyData.shown_none]; decide
  | .bool b, _ => by
    rw [PyData.shown_bool]
    cases b <;> decide
  | .int i, _ => shown_so (.int i) (by simp only [PyData.canLay0])
  | .str x, h => by
    rw [atB, Bool.and_eq_true, Bool.and_eq_true] at h
    exact shown_so (.str x) (by simp only [PyData.canLay0]; exact so_iff.mpr (ok_so h.2.2))
  | .list xs, h => by
    rw [PyData.shown_list]
    exact so_append (so_append (by decide) (so_join (by decide) (ats_so xs (by rw [atB] at h; exact h)))) (by decide)
  | .tuple xs, h => by
    rw [PyData.shown_tuple]
    refine so_append (so_append (by decide) (so_join (by decide) (ats_so xs (by rw [atB] at h; exact h)))) ?_
    split <;> decide
  | .dict kvs, h => by
    simp only [PyData.shown]
    exact so_append (so_append (by decide) (so_join (by decide) (atk_so kvs (by rw [atB] at h; exact h)))) (by decide)
theorem ats_so : ∀ xs : List PyData, atBs S q m xs = true → ∀ t, t ∈ PyData.shownAll xs → SO t
  | [], _, t, ht => by simp only [PyData.shownAll, List.not_mem_nil] at ht
  | x :: xs, h, t, ht => by
    rw [atBs, Bool.and_eq_true] at h
    simp only [PyData.shownAll, List.mem_cons] at ht
    rcases ht with rfl | ht
    · exact at_so x h.1
    · exact ats_so xs h.2 t ht
theorem atk_so : ∀ xs : List (PyData × PyData), atBk S q m xs = true → ∀ t, t ∈ PyData.shownKv xs → SO t
  | [], _, t, ht => by simp only [PyData.shownKv, List.not_mem_nil] at ht
  | (k, v) :: xs, h, t, ht => by
    rw [atBk, Bool.and_eq_true, Bool.and_eq_true] at h
    simp only [PyData.shownKv, List.mem_cons] at ht
    rcases ht with rfl | ht
    · exact so_append (so_append (at_so k h.1.1) (by decide)) (at_so v h.1.2)
    · exact atk_so xs h.2 t ht
end
end
mutual
/-- what its text takes at most -/
def wl : PyData → Nat
  | .tuple ds => wls ds + 3
  | .list ds => wls ds + 3
  | .dict kvs => (PyData.dict kvs).shown.length
  | .str z => (PyData.str z).shown.length
  | .int i => (PyData.int i).shown.length
  | .bool b => (PyData.bool b).shown.length
  | .none => PyData.none.shown.length
def wls : List PyData → Nat
  | [] => 0
  | d :: ds => wl d + 2 + wls ds
end
mutual
theorem shown_wl : ∀ d : PyData, d.shown.length ≤ wl d
  | .tuple ds => by
    have h1 := tupleText_len_le (PyData.shownAll ds)
    have h2 := shown_wls ds
    rw [PyData.shownAll_length] at h1
    simp only [PyData.shown, wl]
    omega
  | .list ds => by
    have h1 := listText_len_le (PyData.shownAll ds)
    have h2 := shown_wls ds
    rw [PyData.shownAll_length] at h1
    simp only [PyData.shown, wl]
    omega
  | .dict kvs => by rw [wl]; omega
  | .str z => by rw [wl]; omega
  | .int i => by rw [wl]; omega
  | .bool b => by rw [wl]; omega
  | .none => by rw [wl]; omega
theorem shown_wls : ∀ ds : List PyData, ((PyData.shownAll ds).map (·.length)).sum + 2 * ds.length ≤ wls ds
  | [] => by simp only [PyData.shownAll, List.map_nil, List.sum_nil, List.length_nil, wls]; omega
  | d :: ds => by
    have := shown_wl d
    have := shown_wls ds
    simp only [PyData.shownAll, List.map_cons, List.sum_cons, List.length_cons, wls]
    omega
end
theorem wls_append : ∀ (xs ys : List PyData), wls (xs ++ ys) = wls xs + wls ys
  | [], ys => by simp only [List.nil_append, wls, Nat.zero_add]
  | x :: xs, ys => by
    have := wls_append xs ys
    simp only [List.cons_append, wls]
    omega
theorem wls_le {b : PyData → Nat} : ∀ {ds : List PyData}, (∀ d, d ∈ ds → wl d + 2 ≤ b d) → wls ds ≤ (ds.map b).sum
  | [], _ => Nat.le_refl _
  | d :: ds, h => by
    have h1 := h d List.mem_cons_self
    have h2 := wls_le fun x hx => h x (List.mem_cons_of_mem _ hx)
    simp only [wls, List.map_cons, List.sum_cons]
    omega
theorem wl_tup (ds : List PyData) : wl (.tuple ds) ≤ wls ds + 3 := by
  rw [wl]
  omega
theorem wl_lst (ds : List PyData) : wl (.list ds) ≤ wls ds + 3 := by
  rw [wl]
  omega
/-- what one thing keeps -/
structure El (S : List Str) (q m p : Nat) (x : PyData) : Prop where
  dep : x.depth ≤ p
  at' : atB S q m x = true
structure Bd (S : List Str) (q m l s p : Nat) (x : PyData) : Prop extends El S q m p x where
  len : wl x ≤ l
  sz : sz x ≤ s
structure Bds (S : List Str) (q m l s p : Nat) (xs : List PyData) : Prop where
  els : ∀ y, y ∈ xs → El S q m p y
  len : wls xs ≤ l
  sz : szs xs ≤ s
section
variable {S : List Str} {q m : Nat}
theorem El.mono {p p' : Nat} {x : PyData} (h : El S q m p x) (e : p ≤ p') : El S q m p' x := ⟨Nat.le_trans h.dep e, h.at'⟩
theorem El.wide {S' : List Str} {q' m' p p' : Nat} {x : PyData} (h : El S q m p x) (hS : ∀ z, z ∈ S → z ∈ S') (hq : q ≤ q') (hm : m ≤ m') (e : p ≤ p') : El S' q' m' p' x := ⟨Nat.le_trans h.dep e, at_mono hS hq hm x h.at'⟩
theorem Bd.mono {l s p l' s' p' : Nat} {x : PyData} (h : Bd S q m l s p x) (hl : l ≤ l') (hs : s ≤ s') (hp : p ≤ p') : Bd S q m l' s' p' x := ⟨h.toEl.mono hp, Nat.le_trans h.len hl, Nat.le_trans h.sz hs⟩
theorem Bd.wide {S' : List Str} {q' m' l s p l' s' p' : Nat} {x : PyData} (h : Bd S q m l s p x) (hS : ∀ z, z ∈ S → z ∈ S') (hq : q ≤ q') (hm : m ≤ m') (hl : l ≤ l') (hs : s ≤ s') (hp : p ≤ p') : Bd S' q' m' l' s' p' x := ⟨h.toEl.wide hS hq hm hp, Nat.le_trans h.len hl, Nat.le_trans h.sz hs⟩
theorem Bds.wide {S' : List Str} {q' m' l s p l' s' p' : Nat} {xs : List PyData} (h : Bds S q m l s p xs) (hS : ∀ z, z ∈ S → z ∈ S') (hq : q ≤ q') (hm : m ≤ m') (hl : l ≤ l') (hs : s ≤ s') (hp : p ≤ p') : Bds S' q' m' l' s' p' xs := ⟨fun y hy => (h.els y hy).wide hS hq hm hp, Nat.le_trans h.len hl, Nat.le_trans h.sz hs⟩
theorem Bds.mono {l s p l' s' p' : Nat} {xs : List PyData} (h : Bds S q m l s p xs) (hl : l ≤ l') (hs : s ≤ s') (hp : p ≤ p') : Bds S q m l' s' p' xs := ⟨fun y hy => (h.els y hy).mono hp, Nat.le_trans h.len hl, Nat.le_trans h.sz hs⟩
theorem depthAll_of {p : Nat} : ∀ {xs : List PyData}, (∀ y, y ∈ xs → El S q m p y) → PyData.depthAll xs ≤ p
  | [], _ => by simp only [PyData.depthAll]; omega
  | x :: xs, h => by
    have h1 := (h x List.mem_cons_self).dep
    have h2 := depthAll_of fun y hy => h y (List.mem_cons_of_mem _ hy)
    simp only [PyData.depthAll]
    omega
theorem ats_of {p : Nat} : ∀ {xs : List PyData}, (∀ y, y ∈ xs → El S q m p y) → atBs S q m xs = true
  | [], _ => by rw [atBs]
  | x :: xs, h => by rw [atBs, (h x List.mem_cons_self).at', ats_of fun y hy => h y (List.mem_cons_of_mem _ hy)]; rfl
theorem El.tup {p : Nat} {xs : List PyData} (h : ∀ y, y ∈ xs → El S q m p y) : El S q m (p + 1) (.tuple xs) := by
  have := depthAll_of h
  exact ⟨by simp only [PyData.depth]; omega, by rw [atB]; exact ats_of h⟩
theorem El.lst {p : Nat} {xs : List PyData} (h : ∀ y, y ∈ xs → El S q m p y) : El S q m (p + 1) (.list xs) := by
  have := depthAll_of h
  exact ⟨by simp only [PyData.depth]; omega, by rw [atB]; exact ats_of h⟩
theorem Bds.tup {l s p : Nat} {xs : List PyData} (h : Bds S q m l s p xs) : Bd S q m (l + 3) (s + 1) (p + 1) (.tuple xs) :=
  ⟨El.tup h.els, by rw [wl]; have := h.len; omega, by rw [L17.sz]; have := h.sz; omega⟩
theorem Bds.lst {l s p : Nat} {xs : List PyData} (h : Bds S q m l s p xs) : Bd S q m (l + 3) (s + 1) (p + 1) (.list xs) :=
  ⟨El.lst h.els, by rw [wl]; have := h.len; omega, by show 1 ≤ s + 1; omega⟩
theorem els_inv {p : Nat} : ∀ {xs : List PyData}, PyData.depthAll xs ≤ p → atBs S q m xs = true → ∀ y, y ∈ xs → El S q m p y
  | [], _, _, y, hy => (nomatch hy)
  | x :: xs, h1, h2, y, hy => by
    simp only [PyData.depthAll] at h1
    rw [atBs, Bool.and_eq_true] at h2
    rcases List.mem_cons.mp hy with rfl | hy
    · exact ⟨by omega, h2.1⟩
    · exact els_inv (by omega) h2.2 y hy
/-- what a tuple's items keep -/
theorem Bd.inv {l s p : Nat} {xs : List PyData} (h : Bd S q m l s (p + 1) (.tuple xs)) : Bds S q m (l - 3) (s - 1) p xs := by
  have h1 := h.dep
  have h2 := h.at'
  have h5 := h.len
  have h6 := h.sz
  simp only [PyData.depth] at h1
  rw [atB] at h2
  rw [wl] at h5
  rw [L17.sz] at h6
  exact ⟨els_inv (by omega) h2, by omega, by omega⟩
theorem Bd.len3 {l s p : Nat} {xs : List PyData} (h : Bd S q m l s p (.tuple xs)) : 3 ≤ l ∧ 1 ≤ s ∧ 1 ≤ p := by
  have h1 := h.dep
  have h5 := h.len
  have h6 := h.sz
  simp only [PyData.depth] at h1
  rw [wl] at h5
  rw [L17.sz] at h6
  omega
theorem Bds.two {l s p l' s' : Nat} {x : PyData} {xs : List PyData} (h : Bd S q m l s p x) (t : Bds S q m l' s' p xs) : Bds S q m (l + 2 + l') (s + s') p (x :: xs) := by
  refine ⟨fun y hy => ?_, ?_, ?_⟩
  · rcases List.mem_cons.mp hy with rfl | hy
    · exact h.toEl
    · exact t.els y hy
  · rw [wls]; have := h.len; have := t.len; omega
  · rw [szs]; have := h.sz; have := t.sz; omega
theorem Bds.nil {p : Nat} : Bds S q m 0 0 p [] := ⟨fun y hy => (nomatch hy), Nat.le_refl _, Nat.le_refl _⟩
theorem Bds.app {l s p l' s' : Nat} {xs ys : List PyData} (h : Bds S q m l s p xs) (t : Bds S q m l' s' p ys) : Bds S q m (l + l') (s + s') p (xs ++ ys) := by
  refine ⟨fun y hy => ?_, ?_, ?_⟩
  · rcases List.mem_append.mp hy with hy | hy
    · exact h.els y hy
    · exact t.els y hy
  · rw [wls_append]; have := h.len; have := t.len; omega
  · rw [szs_append]; have := h.sz; have := t.sz; omega
end
theorem cut_at {α : Type} {xs : List α} {i : Nat} {x : α} (h : xs[i]? = some x) : xs = xs.take i ++ x :: xs.drop (i + 1) := by
  have hi := (List.getElem?_eq_some_iff.mp h).1
  have e : xs[i] = x := (List.getElem?_eq_some_iff.mp h).2
  have := List.take_append_drop i xs
  rw [List.drop_eq_getElem_cons hi, e] at this
  exact this.symm
/-- what the items of one list give to another -/
theorem Bds.sub {S : List Str} {q m l s p : Nat} {A B xs : List PyData} (h : Bds S q m l s p xs) (e : xs = A ++ B) : Bds S q m l s p A ∧ Bds S q m l s p B ∧ wls A + wls B ≤ l ∧ szs A + szs B ≤ s := by
  subst e
  have h1 := h.len
  have h2 := h.sz
  rw [wls_append] at h1
  rw [szs_append] at h2
  exact ⟨⟨fun y hy => h.els y (List.mem_append_left _ hy), by omega, by omega⟩, ⟨fun y hy => h.els y (List.mem_append_right _ hy), by omega, by omega⟩, h1, h2⟩
/-- one item, and what lies around it -/
structure Around1 (S : List Str) (q m l s p : Nat) (A : List PyData) (x : PyData) (B : List PyData) : Prop where
  ela : ∀ y, y ∈ A → El S q m p y
  elx : El S q m p x
  elb : ∀ y, y ∈ B → El S q m p y
  len : wls A + (wl x + 2) + wls B ≤ l
  sz : szs A + sz x + szs B ≤ s
theorem Bds.around {S : List Str} {q m l s p i : Nat} {xs : List PyData} {x : PyData} (h : Bds S q m l s p xs) (hx : xs[i]? = some x) : Around1 S q m l s p (xs.take i) x (xs.drop (i + 1)) := by
  have e := cut_at hx
  have h1 := h.len
  have h2 := h.sz
  have h3 := h.els
  rw [e] at h1 h2
  rw [wls_append, wls] at h1
  rw [szs_append, szs] at h2
  exact ⟨fun y hy => h3 y (List.mem_of_mem_take hy), h3 x (List.mem_of_getElem? hx), fun y hy => h3 y (List.mem_of_mem_drop hy), by omega, by omega⟩
theorem mem3 {P : PyData → Prop} {A B : List PyData} (ha : ∀ y, y ∈ A → P y) (hb : ∀ y, y ∈ B → P y) : ∀ y, y ∈ A ++ B → P y := fun y hy => by
  rcases List.mem_append.mp hy with hy | hy
  · exact ha y hy
  · exact hb y hy
theorem mem1 {P : PyData → Prop} {x : PyData} (h : P x) : ∀ y, y ∈ [x] → P y := fun y hy => by
  rw [List.mem_singleton.mp hy]
  exact h
/-! what a bend makes of it -/
section
variable {S : List Str} {q m l s p : Nat} {A B : List PyData} {x : PyData}
theorem bend_out (h : Around1 S q m l s p A x B) : Bds S q m l s p (A ++ B) := by
  have h1 := h.len
  have h2 := h.sz
  exact ⟨mem3 h.ela h.elb, by rw [wls_append]; omega, by rw [szs_append]; omega⟩
theorem bend_twice (h : Around1 S q m l s p A x B) : Bds S q m (2 * l) (2 * s) p ((A ++ [x]) ++ (x :: B)) := by
  have h1 := h.len
  have h2 := h.sz
  refine ⟨mem3 (mem3 h.ela (mem1 h.elx)) (fun y hy => ?_), ?_, ?_⟩
  · rcases List.mem_cons.mp hy with rfl | hy
    · exact h.elx
    · exact h.elb y hy
  · rw [wls_append, wls_append, wls, wls, wls]; omega
  · rw [szs_append, szs_append, szs, szs, szs]; omega
theorem bend_put {y : PyData} {k n r : Nat} (h : Around1 S q m l s p A x B) (hy : Bd S q m (2 * wl x + k) (2 * L17.sz x + n) (p + r) y) : Bds S q m (2 * l + k) (2 * s + n) (p + r) ((A ++ [y]) ++ B) := by
  have h1 := h.len
  have h2 := h.sz
  have h3 := hy.len
  have h4 := hy.sz
  refine ⟨mem3 (mem3 (fun y hy => (h.ela y hy).mono (by omega)) (mem1 hy.toEl)) (fun y hy => (h.elb y hy).mono (by omega)), ?_, ?_⟩
  · rw [wls_append, wls_append, wls, wls]; omega
  · rw [szs_append, szs_append, szs, szs]; omega
end
/-- two items changed about -/
theorem bend_turn {S : List Str} {q m l s p i : Nat} {xs : List PyData} (h : Bds S q m l s p xs) : Bds S q m l s p ((xs.take i ++ ((xs.drop i).take 2).reverse) ++ xs.drop (i + 2)) := by
  have e1 : xs = xs.take i ++ ((xs.drop i).take 2 ++ xs.drop (i + 2)) := by
    rw [← List.drop_drop, List.take_append_drop, List.take_append_drop]
  have h1 := h.len
  have h2 := h.sz
  have h3 := h.els
  rw [e1] at h1 h2
  rw [wls_append, wls_append] at h1
  rw [szs_append, szs_append] at h2
  have r1 : ∀ zs : List PyData, wls zs.reverse = wls zs := fun zs => by
    induction zs with
    | nil => rfl
    | cons z zs ih => rw [List.reverse_cons, wls_append, ih, wls, wls, wls]; omega
  have r2 : ∀ zs : List PyData, szs zs.reverse = szs zs := fun zs => by
    induction zs with
    | nil => rfl
    | cons z zs ih => rw [List.reverse_cons, szs_append, ih, szs, szs, szs]; omega
  refine ⟨mem3 (mem3 (fun y hy => h3 y (List.mem_of_mem_take hy)) (fun y hy => ?_)) (fun y hy => h3 y (List.mem_of_mem_drop hy)), ?_, ?_⟩
  · exact h3 y (List.mem_of_mem_drop (List.mem_of_mem_take (List.mem_reverse.mp hy)))
  · rw [wls_append, wls_append, r1]; omega
  · rw [szs_append, szs_append, r2]; omega

theorem char1C : ∀ c, c < 127 → okC c = true → (Builtin.Str.reprChar 39 c).length = 1 := by decide +kernel
theorem fold_lenC : ∀ (l : List Nat) (acc : Array Nat), (∀ c, c ∈ l → okC c = true) → (l.foldl (fun out c => out ++ (Builtin.Str.reprChar 39 c).toArray) acc).size = acc.size + l.length
  | [], acc, _ => rfl
  | c :: l, acc, h => by
    have hc := h c List.mem_cons_self
    have h1 := char1C c (okC_iff.mp hc).1.2 hc
    have h2 : (Builtin.Str.reprChar 39 c).toArray.size = 1 := by rw [List.size_toArray]; exact h1
    rw [List.foldl_cons, fold_lenC l _ fun d hd => h d (List.mem_cons_of_mem _ hd), Array.size_append, h2, List.length_cons]
    omega
/-- a plain text shows as itself within quotes -/
theorem wl_ok {z : Str} (h : z.cps.toList.all okC = true) : wl (.str z) = z.length + 2 := by
  have h3 := List.all_eq_true.mp h
  have hq : PySem.reprQuote z = 39 := by
    unfold PySem.reprQuote
    rw [if_neg]
    intro e
    rw [Bool.and_eq_true] at e
    have := e.1
    rw [Array.contains_iff_mem] at this
    exact (okC_iff.mp (h3 39 (Array.mem_toList_iff.mpr this))).2.1 rfl
  rw [wl, PyData.shown_str]
  unfold PySem.reprText
  rw [hq]
  show ((z.cps.foldl (fun out c => out ++ (Builtin.Str.reprChar 39 c).toArray) #[39]).push 39).size = z.length + 2
  rw [Array.size_push, ← Array.foldl_toList, fold_lenC _ _ h3, Array.length_toList]
  show 1 + z.cps.size + 1 = z.cps.size + 2
  omega
section
variable {S : List Str} {q m : Nat}
theorem bd_str {z : Str} (hz : z ∈ S) (hl : z.length ≤ q) (hc : z.cps.toList.all okC = true) : Bd S q m (z.length + 2) 1 0 (.str z) :=
  ⟨⟨by simp only [PyData.depth]; omega, by rw [atB, hc, decide_eq_true hz, decide_eq_true hl]; rfl⟩, Nat.le_of_eq (wl_ok hc), Nat.le_refl _⟩
theorem bd_int {i : Int} (h : i.natAbs ≤ m) (hm : m ≤ 10 ^ 41) : Bd S q m 43 1 0 (.int i) := by
  have e := int_text_length_le10 (k := 42) (by decide) (show i.natAbs < 10 ^ 42 from Nat.lt_of_le_of_lt (Nat.le_trans h hm) (by decide))
  refine ⟨⟨by simp only [PyData.depth]; omega, by rw [atB]; exact decide_eq_true h⟩, ?_, Nat.le_refl _⟩
  rw [wl, PyData.shown_int, PySem.ofString_length]
  exact e
theorem bd_bool (b : Bool) : Bd S q m 5 1 0 (.bool b) := ⟨⟨by simp only [PyData.depth]; omega, by cases b <;> (rw [atB] <;> simp)⟩, by rw [wl, PyData.shown_bool]; cases b <;> decide, Nat.le_refl _⟩
theorem bd_none : Bd S q m 5 1 0 .none := ⟨⟨by simp only [PyData.depth]; omega, by rw [atB] <;> simp⟩, by rw [wl, PyData.shown_none]; decide, Nat.le_refl _⟩
/-- so it may be asked whether it is a log -/
theorem Bd.lp {l s p : Nat} {x : PyData} (h : Bd S q m l s p x) (hq : q ≤ 1000) (hp : p < 40) (hs : s ≤ 4000000) : Lp S x := ⟨at_tx x h.at', at_sh hq x h.at', Nat.lt_of_le_of_lt h.dep hp, Nat.le_trans h.sz hs⟩
end
end L17

namespace L17
open PySem PySem.Spec PyProof.Rows L2 GR AD RZ WX ZE TX RVT
/-! ### what the generator makes is what it should be -/
theorem isX_all : ∀ (n : Nat) (d : PyData), sz d ≤ n → isX d = allX hasForm d
  | 0, d, h => by have := sz_pos d; omega
  | n + 1, d, h => by
    rw [isX_step, allX_step]
    congr 1
    have hk := kidsE_sz d
    rw [Bool.eq_iff_iff, List.all_eq_true, List.all_eq_true]
    have key : ∀ y, y ∈ kidsE d → isX y = allX hasForm y := fun y hy => isX_all n y (by have := sz_mem hy; omega)
    exact ⟨fun g y hy => by rw [← key y hy]; exact g y hy, fun g y hy => by rw [key y hy]; exact g y hy⟩
theorem isN_nm {z : Str} (h : Nm z) : isN (.str z) = true := by
  obtain ⟨h1, h2, h3, h4⟩ := h
  rw [Array.length_toList] at h1 h2
  have e1 : decide (1 ≤ z.length) = true := decide_eq_true h1
  have e2 : decide (z.length ≤ 8) = true := decide_eq_true h2
  have e3 : decide (z ∈ BARW) = false := decide_eq_false h4
  have e4 : z.cps.toList.all lowC = true := List.all_eq_true.mpr fun c hc => by
    have := h3 c hc
    unfold lowC
    rw [decide_eq_true this.1, decide_eq_true this.2]
    rfl
  show ((decide (1 ≤ z.length) && decide (z.length ≤ 8)) && (!decide (z ∈ BARW) && z.cps.toList.all lowC)) = true
  rw [e1, e2, e3, e4]
  rfl
theorem isV_ok {i : Int} (h1 : -(10 ^ 18) ≤ i) (h2 : i ≤ 10 ^ 18) : isV (.int i) = true := by
  show (decide (-LIM ≤ i) && decide (i ≤ LIM)) = true
  rw [decide_eq_true (by show -(1000000000000000000 : Int) ≤ i; omega), decide_eq_true (by show i ≤ (1000000000000000000 : Int); omega)]
  rfl
theorem kidsE_some {w : Str} {fs : List Str} {r : List PyData} (h : look w = some fs) : kidsE (.tuple (.str w :: r)) = pick W2 fs r := by
  show (match look w with | some fs => pick W2 fs r | none => []) = _
  rw [h]
theorem kidsF_some {w : Str} {fs : List Str} {r : List PyData} (h : look w = some fs) : kidsF (.tuple (.str w :: r)) = pick W1 fs r := by
  show (match look w with | some fs => pick W1 fs r | none => []) = _
  rw [h]
/-- what the names are -/
structure Nz (S zs sc : List Str) : Prop where
  nm : ∀ z, z ∈ zs → z ≠ "#" → Nm z ∧ z ∈ S
  sc : ∀ z, z ∈ sc → Nm z ∧ z ∈ S
  inn : ("in" : Str) ∈ zs
  plus : ("+" : Str) ∉ zs
theorem ops_free {o : Str} (h : o ∈ ops5) : look o = some (["free", "free"] : List Str) ∧ o ≠ "let" ∧ o ∉ aggW ∧ o ≠ "var" ∧ o ≠ "key" := by
  simp only [ops5, List.mem_cons, List.not_mem_nil, or_false] at h
  rcases h with rfl | rfl | rfl | rfl | rfl <;> decide
/-- an aggregate's kinds -/
theorem agg_look {o : Str} {a b : Nat} (h : (o, a, b) ∈ aggk) : look o = some ((["name", "extra", "bound", "bound"] : List Str) ++ ((List.replicate a "bound" : List Str) ++ (List.replicate b "free" : List Str))) ∧ o ≠ "let" ∧ o ∈ aggW ∧ o ≠ "var" ∧ o ≠ "key" := by
  simp only [aggk, List.mem_cons, List.not_mem_nil, or_false, Prod.mk.injEq] at h
  rcases h with ⟨rfl, rfl, rfl⟩ | ⟨rfl, rfl, rfl⟩ | ⟨rfl, rfl, rfl⟩ | ⟨rfl, rfl, rfl⟩ <;> decide
theorem pick_app (W : List Str) : ∀ {fs : List Str} {ds : List PyData} {gs : List Str} {es : List PyData}, fs.length = ds.length → pick W (fs ++ gs) (ds ++ es) = pick W fs ds ++ pick W gs es
  | [], [], gs, es, _ => by simp only [List.nil_append, pick]
  | f :: fs, d :: ds, gs, es, h => by
    have ih := pick_app W (fs := fs) (ds := ds) (gs := gs) (es := es) (by simpa using h)
    rw [List.cons_append, List.cons_append, pick, pick, ih, List.append_assoc]
theorem pick_rep {W : List Str} {f : Str} (hf : f ≠ "extra") : ∀ (n : Nat) (ds : List PyData), ds.length = n → pick W (List.replicate n f) ds = if f ∈ W then ds else []
  | 0, [], _ => by simp [pick]
  | n + 1, d :: ds, h => by
    have ih := pick_rep (W := W) hf n ds (by simpa using h)
    rw [List.replicate_succ, pick, ih, if_neg hf]
    split <;> rfl
theorem fits_rep : ∀ (n : Nat) (ds : List PyData) (f : Str), (f = "free" ∨ f = "bound") → ds.length = n → ∀ {gs : List Str} {es : List PyData}, fitsAll (List.replicate n f ++ gs) (ds ++ es) = fitsAll gs es
  | 0, [], _, _, _, _, _ => rfl
  | n + 1, d :: ds, f, hf, h, gs, es => by
    have ih := fits_rep n ds f hf (by simpa using h) (gs := gs) (es := es)
    have h1 : fitsD f d = true := by rcases hf with rfl | rfl <;> rfl
    show (fitsD f d && fitsAll (List.replicate n f ++ gs) (ds ++ es)) = _
    rw [h1, ih]
    rfl
section
variable {S zs sc : List Str}
/-- an expression by its form, somewhere within -/
def CxE (zs sc : List Str) (y : PyData) : Prop := ∃ b n, Cx zs sc b n y
theorem row_cx (h : Nz S zs sc) {t : Str} (ht : t ∈ zs ∧ t ≠ "#") : Cx zs sc true 2 (rowX t) := .cell true 1 t "in" _ ht ⟨h.inn, by decide⟩ (.key 0)
theorem Cx.kids (h : Nz S zs sc) {b : Bool} {n : Nat} {x : PyData} (hx : Cx zs sc b n x) : ∀ y, y ∈ kidsE x → CxE zs sc y := by
  cases hx with
  | int _ n i h1 h2 => rw [kidsE_some (show look "int" = some (["value"] : List Str) by decide)]; intro y hy; exact (nomatch hy)
  | let_ _ n i g9 => exact absurd g9 h.plus
  | key n => rw [kidsE_some (show look "key" = some ([] : List Str) by decide)]; intro y hy; exact (nomatch hy)
  | var _ n z h1 => rw [kidsE_some (show look "var" = some (["name"] : List Str) by decide)]; intro y hy; exact (nomatch hy)
  | cell _ n t v x h1 h2 hx =>
    rw [kidsE_some (show look "cell" = some (["name", "free", "name"] : List Str) by decide)]
    intro y hy
    rw [show pick W2 (["name", "free", "name"] : List Str) [.str t, x, .str v] = [x] from rfl] at hy
    have : y = x := List.mem_singleton.mp hy
    exact this ▸ ⟨_, _, hx⟩
  | op _ n o x y h1 hx hy =>
    rw [kidsE_some (ops_free h1).1]
    intro u hu
    rw [show pick W2 (["free", "free"] : List Str) [x, y] = [x, y] from rfl] at hu
    have : u = x ∨ u = y := by simpa using hu
    rcases this with rfl | rfl
    · exact ⟨_, _, hx⟩
    · exact ⟨_, _, hy⟩
  | at_ _ n x y hx hy =>
    rw [kidsE_some (show look "at" = some (["free", "bound"] : List Str) by decide)]
    intro u hu
    rw [show pick W2 (["free", "bound"] : List Str) [x, y] = [x, y] from rfl] at hu
    have : u = x ∨ u = y := by simpa using hu
    rcases this with rfl | rfl
    · exact ⟨_, _, hx⟩
    · exact ⟨_, _, hy⟩
  | iff _ n x y z hx hy hz =>
    rw [kidsE_some (show look "if" = some (["free", "free", "free"] : List Str) by decide)]
    intro u hu
    rw [show pick W2 (["free", "free", "free"] : List Str) [x, y, z] = [x, y, z] from rfl] at hu
    have : u = x ∨ u = y ∨ u = z := by simpa using hu
    rcases this with rfl | rfl | rfl
    · exact ⟨_, _, hx⟩
    · exact ⟨_, _, hy⟩
    · exact ⟨_, _, hz⟩
  | agg _ n o t p xs vs ds hh h0 h1 h2 h3 h4 h5 h6 h7 =>
    obtain rfl : xs = [] := List.length_eq_zero_iff.mp (Nat.le_zero.mp h3)
    rw [kidsE_some (agg_look h1).1]
    intro u hu
    have e : pick W2 ((["name", "extra", "bound", "bound"] : List Str) ++ ((List.replicate vs.length "bound" : List Str) ++ (List.replicate ds.length "free" : List Str))) ((.str t : PyData) :: .tuple [] :: rowX t :: p :: (vs ++ ds)) = [rowX t, p] ++ (vs ++ ds) := by
      rw [show ((.str t : PyData) :: .tuple [] :: rowX t :: p :: (vs ++ ds)) = [.str t, .tuple [], rowX t, p] ++ (vs ++ ds) from rfl, pick_app W2 rfl, pick_app W2 (by rw [List.length_replicate]), pick_rep (by decide) _ _ rfl, pick_rep (by decide) _ _ rfl, if_pos (by decide), if_pos (by decide)]
      rfl
    rw [e] at hu
    rcases List.mem_append.mp hu with hu | hu
    · simp only [List.mem_cons, List.not_mem_nil, or_false] at hu
      rcases hu with rfl | rfl
      · exact ⟨_, _, row_cx h h2⟩
      · exact ⟨_, _, h5⟩
    · rcases List.mem_append.mp hu with hu | hu
      · exact ⟨_, _, h6 u hu⟩
      · exact ⟨_, _, h7 u hu⟩
theorem CxE.all (h : Nz S zs sc) {q : PyData → Bool} (hq : ∀ y, CxE zs sc y → q y = true) {x : PyData} (hx : CxE zs sc x) : allX q x = true :=
  allX_of (P := CxE zs sc) (fun y hy => ⟨hq y hy, hy.choose_spec.choose_spec.kids h⟩) (L17.sz x) x (Nat.le_refl _) hx
theorem CxE.form (h : Nz S zs sc) {x : PyData} (hx : CxE zs sc x) : hasForm x = true := by
  obtain ⟨b, n, hx⟩ := hx
  cases hx with
  | int _ n i h1 h2 =>
    rw [form_some (show look "int" = some (["value"] : List Str) by decide)]
    show (isV (.int i) && true) = true
    rw [isV_ok h1 h2]
    rfl
  | let_ _ n i g9 => exact absurd g9 h.plus
  | key n => rw [form_some (show look "key" = some ([] : List Str) by decide)]; rfl
  | var _ n z h1 =>
    rw [form_some (show look "var" = some (["name"] : List Str) by decide)]
    show (isN (.str z) && true) = true
    rw [isN_nm (h.sc z h1).1]
    rfl
  | cell _ n t v x h1 h2 hx =>
    rw [form_some (show look "cell" = some (["name", "free", "name"] : List Str) by decide)]
    show (isN (.str t) && (true && (isN (.str v) && true))) = true
    rw [isN_nm (h.nm t h1.1 h1.2).1, isN_nm (h.nm v h2.1 h2.2).1]
    rfl
  | op _ n o x y h1 hx hy => rw [form_some (ops_free h1).1]; rfl
  | at_ _ n x y hx hy => rw [form_some (show look "at" = some (["free", "bound"] : List Str) by decide)]; rfl
  | iff _ n x y z hx hy hz => rw [form_some (show look "if" = some (["free", "free", "free"] : List Str) by decide)]; rfl
  | agg _ n o t p xs vs ds hh h0 h1 h2 h3 h4 h5 h6 h7 =>
    rw [form_some (agg_look h1).1]
    show (isN (.str t) && (true && (true && (true && fitsAll ((List.replicate vs.length "bound" : List Str) ++ (List.replicate ds.length "free" : List Str)) (vs ++ ds))))) = true
    rw [isN_nm (h.nm t h2.1 h2.2).1, fits_rep _ vs _ (.inr rfl) rfl]
    have := fits_rep ds.length ds "free" (.inl rfl) rfl (gs := []) (es := [])
    rw [List.append_nil, List.append_nil] at this
    rw [this]
    rfl
theorem CxE.isx (h : Nz S zs sc) {x : PyData} (hx : CxE zs sc x) : isX x = true := by
  rw [isX_all _ x (Nat.le_refl _)]
  exact CxE.all h (fun y hy => hy.form h) hx
theorem eqv_row (t : Str) : PyData.eqv (rowX t) (rowX t) = true := by
  unfold rowX
  simp only [PyData.eqv, PyData.eqvAll, beq_self_eq_true, Bool.and_self]
theorem CxE.plain (h : Nz S zs sc) {x : PyData} (hx : CxE zs sc x) : allX plainP x = true := by
  refine CxE.all h (fun y hy => ?_) hx
  obtain ⟨b, n, hy⟩ := hy
  have no : ∀ {w : Str} {r : List PyData}, w ∉ aggW → w ≠ "let" → plainP (.tuple (.str w :: r)) = true := fun h1 h2 => by
    rw [plain_no h1, decide_eq_false h2]
    rfl
  cases hy with
  | int _ n i h1 h2 => exact no (by decide) (by decide)
  | let_ _ n i g9 => exact absurd g9 h.plus
  | key n => exact no (by decide) (by decide)
  | var _ n z h1 => exact no (by decide) (by decide)
  | cell _ n t v x h1 h2 hx => exact no (by decide) (by decide)
  | op _ n o x y h1 hx hy => exact no (ops_free h1).2.2.1 (ops_free h1).2.1
  | at_ _ n x y hx hy => exact no (by decide) (by decide)
  | iff _ n x y z hx hy hz => exact no (by decide) (by decide)
  | agg _ n o t p xs vs ds hh h0 h1 h2 h3 h4 h5 h6 h7 =>
    obtain rfl : xs = [] := List.length_eq_zero_iff.mp (Nat.le_zero.mp h3)
    rw [plain_agg (agg_look h1).2.2.1, eqv_row]
    rfl
theorem CxE.simple (h : Nz S zs sc) (hh : ("#" : Str) ∉ zs) {x : PyData} (hx : CxE zs sc x) : allX simpleP x = true := by
  refine CxE.all h (fun y hy => ?_) hx
  obtain ⟨b, n, hy⟩ := hy
  have no : ∀ {w : Str} {r : List PyData}, w ∉ aggW → simpleP (.tuple (.str w :: r)) = true := fun {w r} h1 => by
    show (!decide (w ∈ aggW)) = true
    rw [decide_eq_false h1]
    rfl
  cases hy with
  | int _ n i h1 h2 => exact no (by decide)
  | let_ _ n i g9 => exact absurd g9 h.plus
  | key n => exact no (by decide)
  | var _ n z h1 => exact no (by decide)
  | cell _ n t v x h1 h2 hx => exact no (by decide)
  | op _ n o x y h1 hx hy => exact no (ops_free h1).2.2.1
  | at_ _ n x y hx hy => exact no (by decide)
  | iff _ n x y z hx hy hz => exact no (by decide)
  | agg _ n o t p xs vs ds g _ _ _ _ _ _ _ _ => exact absurd g hh
theorem CxE.vars (h : Nz S zs sc) {x : PyData} (hx : CxE zs sc x) : allX (varQ fun z => decide (z ∈ sc)) x = true := by
  refine CxE.all h (fun y hy => ?_) hx
  obtain ⟨b, n, hy⟩ := hy
  have no : ∀ {w : Str} {r : List PyData}, w ≠ "var" → varQ (fun z => decide (z ∈ sc)) (.tuple (.str w :: r)) = true := fun {w r} h1 => by
    unfold varQ
    rw [varName_no h1]
  cases hy with
  | int _ n i h1 h2 => exact no (by decide)
  | let_ _ n i g9 => exact absurd g9 h.plus
  | key n => exact no (by decide)
  | var _ n z h1 => exact decide_eq_true h1
  | cell _ n t v x h1 h2 hx => exact no (by decide)
  | op _ n o x y h1 hx hy => exact no (ops_free h1).2.2.2.1
  | at_ _ n x y hx hy => exact no (by decide)
  | iff _ n x y z hx hy hz => exact no (by decide)
  | agg _ n o t p xs vs ds _ _ h1 _ _ _ _ _ _ => exact no (agg_look h1).2.2.2.1
/-- no key stands free where none may -/
theorem Cx.kidsF (h : Nz S zs sc) {n : Nat} {x : PyData} (hx : Cx zs sc false n x) : ∀ y, y ∈ kidsF x → ∃ m, Cx zs sc false m y := by
  cases hx with
  | int _ n i h1 h2 => rw [kidsF_some (show look "int" = some (["value"] : List Str) by decide)]; intro y hy; exact (nomatch hy)
  | let_ _ n i g9 => exact absurd g9 h.plus
  | var _ n z h1 => rw [kidsF_some (show look "var" = some (["name"] : List Str) by decide)]; intro y hy; exact (nomatch hy)
  | cell _ n t v x h1 h2 hx =>
    rw [kidsF_some (show look "cell" = some (["name", "free", "name"] : List Str) by decide)]
    intro y hy
    rw [show pick W1 (["name", "free", "name"] : List Str) [.str t, x, .str v] = [x] from rfl] at hy
    have : y = x := List.mem_singleton.mp hy
    exact this ▸ ⟨_, hx⟩
  | op _ n o x y h1 hx hy =>
    rw [kidsF_some (ops_free h1).1]
    intro u hu
    rw [show pick W1 (["free", "free"] : List Str) [x, y] = [x, y] from rfl] at hu
    have : u = x ∨ u = y := by simpa using hu
    rcases this with rfl | rfl
    · exact ⟨_, hx⟩
    · exact ⟨_, hy⟩
  | at_ _ n x y hx hy =>
    rw [kidsF_some (show look "at" = some (["free", "bound"] : List Str) by decide)]
    intro u hu
    rw [show pick W1 (["free", "bound"] : List Str) [x, y] = [x] from rfl] at hu
    have : u = x := List.mem_singleton.mp hu
    exact this ▸ ⟨_, hx⟩
  | iff _ n x y z hx hy hz =>
    rw [kidsF_some (show look "if" = some (["free", "free", "free"] : List Str) by decide)]
    intro u hu
    rw [show pick W1 (["free", "free", "free"] : List Str) [x, y, z] = [x, y, z] from rfl] at hu
    have : u = x ∨ u = y ∨ u = z := by simpa using hu
    rcases this with rfl | rfl | rfl
    · exact ⟨_, hx⟩
    · exact ⟨_, hy⟩
    · exact ⟨_, hz⟩
  | agg _ n o t p xs vs ds hh h0 h1 h2 h3 h4 h5 h6 h7 =>
    obtain rfl : xs = [] := List.length_eq_zero_iff.mp (Nat.le_zero.mp h3)
    rw [kidsF_some (agg_look h1).1]
    intro u hu
    have e : pick W1 ((["name", "extra", "bound", "bound"] : List Str) ++ ((List.replicate vs.length "bound" : List Str) ++ (List.replicate ds.length "free" : List Str))) ((.str t : PyData) :: .tuple [] :: rowX t :: p :: (vs ++ ds)) = ds := by
      rw [show ((.str t : PyData) :: .tuple [] :: rowX t :: p :: (vs ++ ds)) = [.str t, .tuple [], rowX t, p] ++ (vs ++ ds) from rfl, pick_app W1 rfl, pick_app W1 (by rw [List.length_replicate]), pick_rep (by decide) _ _ rfl, pick_rep (by decide) _ _ rfl, if_neg (by decide), if_pos (by decide)]
      rfl
    rw [e] at hu
    exact ⟨_, h7 u hu⟩
theorem Cx.noKey (h : Nz S zs sc) : ∀ (k : Nat) {n : Nat} {x : PyData}, sz x ≤ k → Cx zs sc false n x → keyX x = false
  | 0, _, x, hk, _ => by have := sz_pos x; omega
  | k + 1, n, x, hk, hx => by
    have hs := L17.kidsF_sz x
    have h2 : (L17.kidsF x).any keyX = false := by
      rw [List.any_eq_false]
      intro y hy
      obtain ⟨m, hm⟩ := hx.kidsF h y hy
      have := sz_mem hy
      rw [Cx.noKey h k (by omega) hm]
      exact Bool.false_ne_true
    rw [keyX_step, h2, Bool.or_false]
    have no : ∀ {w : Str} {r : List PyData}, w ≠ "key" → isKey (.tuple (.str w :: r)) = false := fun h1 => decide_eq_false h1
    cases hx with
    | int _ n i h1 h2 => exact no (by decide)
    | let_ _ n i g9 => exact absurd g9 h.plus
    | var _ n z h1 => exact no (by decide)
    | cell _ n t v x h1 h2 hx => exact no (by decide)
    | op _ n o x y h1 hx hy => exact no (ops_free h1).2.2.2.2
    | at_ _ n x y hx hy => exact no (by decide)
    | iff _ n x y z hx hy hz => exact no (by decide)
    | agg _ n o t p xs vs ds _ _ h1 _ _ _ _ _ _ => exact no (agg_look h1).2.2.2.2
end
end L17

namespace L17
open PySem PySem.Spec PyProof.Rows L2 GR AD RZ WX ZE TX RVT
abbrev baseS : List Str := ["int", "let", "key", "var", "cell", "if", "+", "-", "*", "<", "=", "at", "count", "sum", "most", "first", "in", "need", "put", "each", "tell", "", "a", "None"]
theorem base_ok : ∀ w, w ∈ baseS → w.length ≤ 5 ∧ w.cps.toList.all okC = true := by decide +kernel
structure Bs (S : List Str) (q m : Nat) : Prop where
  base : ∀ w, w ∈ baseS → w ∈ S
  q8 : 8 ≤ q
  m1 : 10 ^ 18 ≤ m
  m2 : m ≤ 10 ^ 41
theorem nm_okC {z : Str} (h : Nm z) : z.cps.toList.all okC = true := List.all_eq_true.mpr fun c hc => okC_iff.mpr (by have := h.2.2.1 c hc; unfold Low at this; omega)
section
variable {S : List Str} {q m : Nat}
theorem Bd.two {l s p l' s' : Nat} {x : PyData} {xs : List PyData} (h : Bd S q m l s p x) (t : Bds S q m l' s' p xs) : Bds S q m (l + 2 + l') (s + s') p (x :: xs) := Bds.two h t
theorem Bs.w (h : Bs S q m) {w : Str} (hw : w ∈ baseS) (p : Nat) : Bd S q m 7 1 p (.str w) := by
  obtain ⟨h1, h2⟩ := base_ok w hw
  have := h.q8
  exact (bd_str (h.base w hw) (by omega) h2).mono (by omega) (Nat.le_refl _) (Nat.zero_le p)
theorem Bs.n (h : Bs S q m) {z : Str} (hz : Nm z ∧ z ∈ S) (p : Nat) : Bd S q m 10 1 p (.str z) := by
  have h1 := hz.1.2.1
  rw [Array.length_toList] at h1
  have h2 : z.length ≤ 8 := h1
  have := h.q8
  exact (bd_str hz.2 (by omega) (nm_okC hz.1)).mono (by omega) (Nat.le_refl _) (Nat.zero_le p)
theorem Bs.i (h : Bs S q m) {i : Int} (h1 : -(10 ^ 18) ≤ i) (h2 : i ≤ 10 ^ 18) (p : Nat) : Bd S q m 43 1 p (.int i) :=
  (bd_int (Nat.le_trans (show i.natAbs ≤ 10 ^ 18 by omega) h.m1) h.m2).mono (Nat.le_refl _) (Nat.le_refl _) (Nat.zero_le p)
def tX : Nat → Nat
  | 0 => 0
  | n + 1 => 3 * tX n + 200
def sX : Nat → Nat
  | 0 => 0
  | n + 1 => 3 * sX n + 20
theorem Cx.bd {zs sc : List Str} (h : Bs S q m) (g : Nz S zs sc) {b : Bool} {n : Nat} {x : PyData} (hx : Cx zs sc b n x) : Bd S q m (tX n) (sX n) (2 * n) x := by
  induction hx with
  | int _ n i h1 h2 =>
    have ht : tX (n + 1) = 3 * tX n + 200 := rfl
    have hs : sX (n + 1) = 3 * sX n + 20 := rfl
    exact (((h.w (w := "int") (by decide) (2 * n)).two ((h.i h1 h2 _).two .nil)).tup).mono (by omega) (by omega) (by omega)
  | let_ _ n i g9 _ _ => exact absurd g9 g.plus
  | key n =>
    have ht : tX (n + 1) = 3 * tX n + 200 := rfl
    have hs : sX (n + 1) = 3 * sX n + 20 := rfl
    exact (((h.w (w := "key") (by decide) (2 * n)).two .nil).tup).mono (by omega) (by omega) (by omega)
  | var _ n z h1 =>
    have ht : tX (n + 1) = 3 * tX n + 200 := rfl
    have hs : sX (n + 1) = 3 * sX n + 20 := rfl
    exact (((h.w (w := "var") (by decide) (2 * n)).two ((h.n (g.sc z h1) _).two .nil)).tup).mono (by omega) (by omega) (by omega)
  | cell _ n t v x h1 h2 _ ih =>
    have ht : tX (n + 1) = 3 * tX n + 200 := rfl
    have hs : sX (n + 1) = 3 * sX n + 20 := rfl
    exact (((h.w (w := "cell") (by decide) _).two ((h.n (g.nm t h1.1 h1.2) _).two (ih.two ((h.n (g.nm v h2.1 h2.2) _).two .nil)))).tup).mono (by omega) (by omega) (by omega)
  | op _ n o x y h1 _ _ ih1 ih2 =>
    have ht : tX (n + 1) = 3 * tX n + 200 := rfl
    have hs : sX (n + 1) = 3 * sX n + 20 := rfl
    have hb : o ∈ baseS := by
      simp only [ops5, List.mem_cons, List.not_mem_nil, or_false] at h1
      rcases h1 with rfl | rfl | rfl | rfl | rfl <;> decide
    exact (((h.w hb _).two (ih1.two (ih2.two .nil))).tup).mono (by omega) (by omega) (by omega)
  | at_ _ n x y _ _ ih1 ih2 =>
    have ht : tX (n + 1) = 3 * tX n + 200 := rfl
    have hs : sX (n + 1) = 3 * sX n + 20 := rfl
    exact (((h.w (w := "at") (by decide) _).two (ih1.two (ih2.two .nil))).tup).mono (by omega) (by omega) (by omega)
  | iff _ n x y z _ _ _ ih1 ih2 ih3 =>
    have ht : tX (n + 1) = 3 * tX n + 200 := rfl
    have hs : sX (n + 1) = 3 * sX n + 20 := rfl
    exact (((h.w (w := "if") (by decide) _).two (ih1.two (ih2.two (ih3.two .nil)))).tup).mono (by omega) (by omega) (by omega)
  | agg _ n o t p xs vs ds hh h0 h1 h2 h3 h4 h5 h6 h7 _ ih2 ih3 ih4 =>
    obtain rfl : xs = [] := List.length_eq_zero_iff.mp (Nat.le_zero.mp h3)
    have ht : tX (n + 1) = 3 * tX n + 200 := rfl
    have hs : sX (n + 1) = 3 * sX n + 20 := rfl
    have hb : o ∈ baseS := by
      simp only [aggk, List.mem_cons, List.not_mem_nil, or_false, Prod.mk.injEq] at h1
      rcases h1 with ⟨rfl, _⟩ | ⟨rfl, _⟩ | ⟨rfl, _⟩ | ⟨rfl, _⟩ <;> decide
    have h11 : vs.length + ds.length ≤ 2 := by
      simp only [aggk, List.mem_cons, List.not_mem_nil, or_false, Prod.mk.injEq] at h1
      omega
    have few : ∀ l : List PyData, (∀ x, x ∈ l → Bd S q m (tX n) (sX n) (2 * n) x) → Bds S q m (l.length * (tX n + 2)) (l.length * sX n) (2 * n) l := fun l => by
      induction l with
      | nil => intro _; rw [List.length_nil, Nat.zero_mul, Nat.zero_mul]; exact .nil
      | cons a l ih =>
        intro hl
        have := (hl a List.mem_cons_self).two (ih fun x hx => hl x (List.mem_cons_of_mem _ hx))
        rw [List.length_cons, Nat.add_mul, Nat.add_mul, Nat.one_mul, Nat.one_mul]
        exact this.mono (by omega) (by omega) (Nat.le_refl _)
    have nt := h.n (g.nm t h2.1 h2.2)
    have key2 : Bd S q m 12 2 1 (.tuple [.str "key"]) := (((h.w (w := "key") (by decide) 0).two .nil).tup).mono (by omega) (by omega) (Nat.le_refl _)
    have row : Bd S q m 60 8 2 (rowX t) := (((h.w (w := "cell") (by decide) 1).two ((nt _).two (key2.two ((h.w (w := "in") (by decide) _).two .nil)))).tup).mono (by omega) (by omega) (Nat.le_refl _)
    have ex : Bd S q m 3 1 1 (.tuple []) := (Bds.nil (S := S) (q := q) (m := m) (p := 0)).tup
    have fv := few vs ih3
    have fd := few ds ih4
    have hm1 : (vs.length + ds.length) * (tX n + 2) ≤ 2 * (tX n + 2) := Nat.mul_le_mul_right _ h11
    have hm2 : (vs.length + ds.length) * sX n ≤ 2 * sX n := Nat.mul_le_mul_right _ h11
    rw [Nat.add_mul] at hm1 hm2
    exact (((h.w hb (2 * n)).two ((nt _).two ((ex.mono (Nat.le_refl _) (Nat.le_refl _) (by omega)).two ((row.mono (Nat.le_refl _) (Nat.le_refl _) (by omega)).two (ih2.two (fv.app fd)))))).tup).mono (by omega) (by omega) (by omega)
theorem tX5 : tX 5 = 24200 := by decide
theorem sX5 : sX 5 = 2420 := by decide
/-- a statement of the generator -/
structure Wz (S ts cs : List Str) : Prop where
  t : ∀ z, z ∈ ts → Nm z ∧ z ∈ S
  c : ∀ z, z ∈ cs → Nm z ∧ z ∈ S
  i : ("in" : Str) ∈ S
theorem nm_plus {z : Str} (h : Nm z) : z ≠ "+" := fun e => by
  have := (h.2.2.1 43 (by rw [e]; decide)).1
  omega
theorem Wz.nz {ts cs sc : List Str} (h : Wz S ts cs) (hs : ∀ z, z ∈ sc → Nm z ∧ z ∈ S) (l : Int) : Nz S (nmx l ts cs) sc := by
  have key : ∀ z, z ∈ nmx l ts cs → z = "#" ∨ (Nm z ∧ z ∈ S) := fun z hz => by
    rcases List.mem_cons.mp hz with rfl | hz
    · exact .inr ⟨in_nm, h.i⟩
    rcases List.mem_append.mp hz with hz | hz
    · exact .inr (h.t z hz)
    rcases List.mem_append.mp hz with hz | hz
    · exact .inr (h.c z hz)
    · unfold mark at hz
      split at hz
      · exact .inl (List.mem_singleton.mp hz)
      · exact (nomatch hz)
  refine ⟨fun z hz hn => (key z hz).resolve_left hn, hs, List.mem_cons_self, fun hp => ?_⟩
  rcases key _ hp with e | e
  · exact absurd e (by decide)
  · exact nm_plus e.1 rfl
theorem no_hash {ts cs : List Str} (h : Wz S ts cs) : ("#" : Str) ∉ nmx 2 ts cs := fun hz => by
  rcases List.mem_cons.mp hz with e | hz
  · exact absurd e (by decide)
  rcases List.mem_append.mp hz with hz | hz
  · exact nm_hash (h.t _ hz).1 rfl
  rcases List.mem_append.mp hz with hz | hz
  · exact nm_hash (h.c _ hz).1 rfl
  · have : mark 2 = [] := by decide
    rw [this] at hz
    exact (nomatch hz)
theorem StX.ok {ts cs sc : List Str} {x : PyData} (w : Wz S ts cs) (hs : ∀ z, z ∈ sc → Nm z ∧ z ∈ S) (hx : StX ts cs sc x) : isSt x = true ∧ mayF x sc = true := by
  have key : ∀ {y : PyData} {n : Nat}, Cx (nmx 0 ts cs) sc false n y → fitsS "keyless" y = true ∧ allX (varQ fun z => decide (z ∈ sc)) y = true := fun {y n} hy => by
    have g := w.nz hs 0
    have e : CxE (nmx 0 ts cs) sc y := ⟨_, _, hy⟩
    refine ⟨?_, CxE.vars g e⟩
    unfold fitsS
    rw [if_neg (by decide), if_neg (by decide), CxE.isx g e, CxE.plain g e, Cx.noKey g _ (Nat.le_refl _) hy]
    rfl
  have row : ∀ {y : PyData} {n : Nat}, Cx (nmx 2 ts cs) sc true n y → fitsS "row" y = true ∧ allX (varQ fun z => decide (z ∈ sc)) y = true := fun {y n} hy => by
    have g := w.nz hs 2
    have e : CxE (nmx 2 ts cs) sc y := ⟨_, _, hy⟩
    refine ⟨?_, CxE.vars g e⟩
    unfold fitsS
    rw [if_neg (by decide), if_pos rfl, CxE.isx g e, CxE.plain g e, CxE.simple g (no_hash w) e]
    rfl
  have nm : ∀ {z : Str}, Nm z → fitsS "name" (.str z) = true := fun {z} h => by
    unfold fitsS
    rw [if_pos rfl]
    exact isN_nm h
  have zn : ∀ {z : Str}, (z ∈ cs ∨ z = "in") → Nm z := fun {z} h => by
    rcases h with h | rfl
    · exact (w.c z h).1
    · exact in_nm
  cases hx with
  | let_ z x h1 h2 h3 =>
    obtain ⟨k1, k2⟩ := key h3
    refine ⟨?_, ?_⟩
    · rw [formS_some (show lookS "let" = some (["name", "keyless"] : List Str) by decide)]
      show (fitsS "name" (.str z) && (fitsS "keyless" x && true)) = true
      rw [nm h1, k1]
      rfl
    · unfold mayF
      rw [kidsS_some (show lookS "let" = some (["name", "keyless"] : List Str) by decide)]
      show (!([z].any fun z => decide (z ∈ sc)) && [x].all (allX (varQ fun z => decide (z ∈ sc)))) = true
      rw [List.any_cons, List.any_nil, List.all_cons, List.all_nil, k2, decide_eq_false h2]
      rfl
  | need x h3 =>
    obtain ⟨k1, k2⟩ := key (.op false 5 "<" (.tuple [.str "int", .int (0 - 3)]) x (by decide) (.int false 4 (0 - 3) (by decide) (by decide)) h3)
    refine ⟨?_, ?_⟩
    · rw [formS_some (show lookS "need" = some (["keyless"] : List Str) by decide)]
      show (fitsS "keyless" _ && true) = true
      rw [k1]
      rfl
    · unfold mayF
      rw [kidsS_some (show lookS "need" = some (["keyless"] : List Str) by decide), letsL_no (by decide)]
      show (!(([] : List Str).any fun z => decide (z ∈ sc)) && [_].all (allX (varQ fun z => decide (z ∈ sc)))) = true
      rw [List.all_cons, List.all_nil, k2]
      rfl
  | tell x h3 =>
    obtain ⟨k1, k2⟩ := key h3
    refine ⟨?_, ?_⟩
    · rw [formS_some (show lookS "tell" = some (["keyless"] : List Str) by decide)]
      show (fitsS "keyless" _ && true) = true
      rw [k1]
      rfl
    · unfold mayF
      rw [kidsS_some (show lookS "tell" = some (["keyless"] : List Str) by decide), letsL_no (by decide)]
      show (!(([] : List Str).any fun z => decide (z ∈ sc)) && [_].all (allX (varQ fun z => decide (z ∈ sc)))) = true
      rw [List.all_cons, List.all_nil, k2]
      rfl
  | each t z x y h1 h2 h3 h4 =>
    obtain ⟨k1, k2⟩ := row h3
    obtain ⟨l1, l2⟩ := row h4
    refine ⟨?_, ?_⟩
    · rw [formS_some (show lookS "each" = some (["name", "row", "name", "row"] : List Str) by decide)]
      show (fitsS "name" (.str t) && (fitsS "row" x && (fitsS "name" (.str z) && (fitsS "row" y && true)))) = true
      rw [nm (w.t t h1).1, k1, nm (w.c z h2).1, l1]
      rfl
    · unfold mayF
      rw [kidsS_some (show lookS "each" = some (["name", "row", "name", "row"] : List Str) by decide), letsL_no (by decide)]
      show (!(([] : List Str).any fun z => decide (z ∈ sc)) && [x, y].all (allX (varQ fun z => decide (z ∈ sc)))) = true
      rw [List.all_cons, List.all_cons, List.all_nil, k2, l2]
      rfl
  | put t z x y h1 h2 h3 h4 =>
    obtain ⟨k1, k2⟩ := key h3
    obtain ⟨l1, l2⟩ := key h4
    refine ⟨?_, ?_⟩
    · rw [formS_some (show lookS "put" = some (["name", "keyless", "name", "keyless"] : List Str) by decide)]
      show (fitsS "name" (.str t) && (fitsS "keyless" x && (fitsS "name" (.str z) && (fitsS "keyless" y && true)))) = true
      rw [nm (w.t t h1).1, k1, nm (zn h2), l1]
      rfl
    · unfold mayF
      rw [kidsS_some (show lookS "put" = some (["name", "keyless", "name", "keyless"] : List Str) by decide), letsL_no (by decide)]
      show (!(([] : List Str).any fun z => decide (z ∈ sc)) && [x, y].all (allX (varQ fun z => decide (z ∈ sc)))) = true
      rw [List.all_cons, List.all_cons, List.all_nil, k2, l2]
      rfl
end
end L17

namespace L17
open PySem PySem.Spec PyProof.Rows L2 GR AD RZ WX ZE TX RVT
theorem letsL_nm (x : PyData) : letsL x = (letNm x).toList := by
  unfold letsL letNm
  split
  · rename_i w z t
    show (if w = "let" then [z] else []) = (if w = "let" then some z else none).toList
    split <;> rfl
  · rename_i h
    first
      | rfl
      | (split
         · exact (h _ _ _ rfl).elim
         · rfl)
theorem letsD_flat : ∀ ds : List PyData, ds.flatMap letsL = letsD ds
  | [] => rfl
  | x :: ds => by
    have ih := letsD_flat ds
    unfold letsD at ih ⊢
    rw [List.flatMap_cons, List.filterMap_cons, ih, letsL_nm]
    cases letNm x <;> rfl
theorem goT_append : ∀ (a b : List PyData) (kn : List Str), goT kn (a ++ b) = (goT kn a && goT (kn ++ a.flatMap letsL) b)
  | [], b, kn => by
    rw [List.nil_append, List.flatMap_nil, List.append_nil, goT, Bool.true_and]
  | x :: a, b, kn => by
    rw [List.cons_append, goT, goT, goT_append a b, List.flatMap_cons, List.append_assoc, Bool.and_assoc, Bool.and_assoc]
section
variable {S ts cs : List Str}
theorem StX.letNm {sc : List Str} {x : PyData} (h : StX ts cs sc x) {z : Str} (e : L17.letNm x = some z) : Nm z := by
  cases h with
  | let_ z' x h1 h2 h3 =>
    cases (show some z' = some z from e)
    exact h1
  | need x h => rw [letNm_no (by decide)] at e; cases e
  | tell x h => rw [letNm_no (by decide)] at e; cases e
  | each t z x y h1 h2 h3 h4 => rw [letNm_no (by decide)] at e; cases e
  | put t z x y h1 h2 h3 h4 => rw [letNm_no (by decide)] at e; cases e
theorem Chain.nm {ds : List PyData} (h : Chain ts cs ds) : ∀ z, z ∈ letsD ds → Nm z := by
  induction h with
  | nil => exact fun z hz => (nomatch hz)
  | snoc ds x _ hx ih =>
    intro z hz
    rw [letsD_append] at hz
    rcases List.mem_append.mp hz with hz | hz
    · exact ih z hz
    · unfold letsD at hz
      rw [List.filterMap_cons] at hz
      cases e : L17.letNm x with
      | none => rw [e] at hz; exact (nomatch hz)
      | some y =>
        rw [e] at hz
        rw [List.mem_singleton.mp hz]
        exact hx.letNm e
theorem Chain.ok (w : Wz S ts cs) {ds : List PyData} (h : Chain ts cs ds) (hl : ∀ z, z ∈ letsD ds → z ∈ S) : goT [] ds = true := by
  induction h with
  | nil => rfl
  | snoc ds x hc hx ih =>
    have hl' : ∀ z, z ∈ letsD ds → z ∈ S := fun z hz => hl z (by rw [letsD_append]; exact List.mem_append_left _ hz)
    obtain ⟨h1, h2⟩ := hx.ok w fun z hz => ⟨hc.nm z hz, hl' z hz⟩
    rw [goT_append, ih hl', letsD_flat, List.nil_append, goT, goT, h1, h2]
    rfl
theorem StX.bd {q m : Nat} (b : Bs S q m) (w : Wz S ts cs) {sc : List Str} (hs : ∀ z, z ∈ sc → Nm z ∧ z ∈ S) {x : PyData} (hx : StX ts cs sc x) (hl : ∀ z, L17.letNm x = some z → z ∈ S) : Bd S q m 73000 7300 13 x := by
  have e6 : tX 6 = 72800 := by decide
  have f6 : sX 6 = 7280 := by decide
  have key : ∀ {l : Int} {b' : Bool} {n : Nat} {y : PyData}, Cx (nmx l ts cs) sc b' n y → n ≤ 5 → Bd S q m 24200 2420 12 y := fun {l b' n y} hy hn =>
    ((hy.mono hn).bd b (w.nz hs l)).mono (Nat.le_of_eq tX5) (Nat.le_of_eq sX5) (by omega)
  cases hx with
  | let_ z x h1 h2 h3 => exact (((b.w (w := "let") (by decide) _).two ((b.n ⟨h1, hl z rfl⟩ _).two ((key h3 (by omega)).two .nil))).tup).mono (by omega) (by omega) (by omega)
  | need x h3 =>
    have := (Cx.op false 5 "<" (.tuple [.str "int", .int (0 - 3)]) x (by decide) (.int false 4 (0 - 3) (by decide) (by decide)) h3).bd b (w.nz hs 0)
    rw [e6, f6] at this
    exact (((b.w (w := "need") (by decide) _).two (this.two .nil)).tup).mono (by omega) (by omega) (by omega)
  | tell x h3 => exact (((b.w (w := "tell") (by decide) _).two ((key h3 (by omega)).two .nil)).tup).mono (by omega) (by omega) (by omega)
  | each t z x y h1 h2 h3 h4 => exact (((b.w (w := "each") (by decide) _).two ((b.n (w.t t h1) _).two ((key h3 (by omega)).two ((b.n (w.c z h2) _).two ((key h4 (by omega)).two .nil))))).tup).mono (by omega) (by omega) (by omega)
  | put t z x y h1 h2 h3 h4 =>
    have hz : Nm z ∧ z ∈ S := by
      rcases h2 with h2 | rfl
      · exact w.c z h2
      · exact ⟨in_nm, w.i⟩
    exact (((b.w (w := "put") (by decide) _).two ((b.n (w.t t h1) _).two ((key h3 (by omega)).two ((b.n hz _).two ((key h4 (by omega)).two .nil))))).tup).mono (by omega) (by omega) (by omega)
theorem Chain.bd {q m : Nat} (b : Bs S q m) (w : Wz S ts cs) {ds : List PyData} (h : Chain ts cs ds) (hl : ∀ z, z ∈ letsD ds → z ∈ S) : ∀ x, x ∈ ds → Bd S q m 73000 7300 13 x := by
  induction h with
  | nil => exact fun x hx => (nomatch hx)
  | snoc ds x hc hx ih =>
    have hl' : ∀ z, z ∈ letsD ds → z ∈ S := fun z hz => hl z (by rw [letsD_append]; exact List.mem_append_left _ hz)
    intro y hy
    rcases List.mem_append.mp hy with hy | hy
    · exact ih hl' y hy
    · rw [List.mem_singleton.mp hy]
      refine hx.bd b w (fun z hz => ⟨hc.nm z hz, hl' z hz⟩) fun z e => hl z ?_
      rw [letsD_append]
      refine List.mem_append_right _ ?_
      unfold letsD
      rw [List.filterMap_cons, e]
      exact List.mem_singleton.mpr rfl
end
/-! ### the log that is made -/
abbrev enT (e : En) : PyData := .tuple [.int e.1, e.2.2]
abbrev madeD (ms : List Int) (es : List En) : PyData := .tuple [.tuple (ms.map PyData.int), .tuple (es.map enT)]
theorem pw_up : ∀ {l : List Int}, l.Pairwise (· ≤ ·) → upB l = true
  | [], _ => rfl
  | [a], _ => rfl
  | a :: b :: r, h => by
    obtain ⟨h1, h2⟩ := List.pairwise_cons.mp h
    show (decide (a ≤ b) && upB (b :: r)) = true
    rw [decide_eq_true (h1 b List.mem_cons_self), pw_up h2]
    rfl
theorem pw_last : ∀ {l : List Int}, l.Pairwise (· ≤ ·) → ∀ a, a ∈ l → a ≤ l.getLastD 0
  | [a], _, x, hx => by rw [List.mem_singleton.mp hx]; exact Int.le_refl _
  | a :: b :: r, h, x, hx => by
    obtain ⟨h1, h2⟩ := List.pairwise_cons.mp h
    have e : (a :: b :: r).getLastD 0 = (b :: r).getLastD 0 := by simp
    rw [e]
    rcases List.mem_cons.mp hx with rfl | hx
    · have := h1 b List.mem_cons_self
      have := pw_last h2 b List.mem_cons_self
      omega
    · exact pw_last h2 x hx
theorem last_mem : ∀ {l : List Int}, l ≠ [] → l.getLastD 0 ∈ l
  | [a], _ => List.mem_singleton.mpr rfl
  | a :: b :: r, _ => by
    have e : (a :: b :: r).getLastD 0 = (b :: r).getLastD 0 := by simp
    rw [e]
    exact List.mem_cons_of_mem _ (last_mem (List.cons_ne_nil _ _))
theorem ints_iv (ms : List Int) : (ms.map PyData.int).map iv = ms := by
  rw [List.map_map]
  exact (List.map_congr_left fun x _ => rfl).trans (List.map_id _)
theorem ents_of {la : Int} : ∀ {es : List En} {least : Int}, (es.map (·.1)).Pairwise (· < ·) → (∀ e, e ∈ es → least ≤ e.1 ∧ e.1 < la) → entsB la least (es.map enT) = true
  | [], _, _, _ => rfl
  | e :: es, least, h, hb => by
    obtain ⟨h1, h2⟩ := List.pairwise_cons.mp (show (e.1 :: es.map (·.1)).Pairwise (· < ·) from h)
    obtain ⟨b1, b2⟩ := hb e List.mem_cons_self
    have ih := ents_of (la := la) (least := e.1 + 1) h2 fun x hx => by
      have := h1 x.1 (List.mem_map.mpr ⟨x, hx, rfl⟩)
      have := (hb x (List.mem_cons_of_mem _ hx)).2
      omega
    rw [List.map_cons, entsB]
    show ((decide (least ≤ e.1) && decide (e.1 < la)) && entsB la (e.1 + 1) (es.map enT)) = true
    rw [decide_eq_true b1, decide_eq_true b2, ih]
    rfl
theorem btw_of (l h : Int) (es : List En) : (btw l h (es.map enT)).map lineX = between l h es := by
  unfold btw between
  rw [List.filter_map, List.map_map]
  rfl
theorem parts_of : ∀ (ms : List Int) (es : List En), (partsD ms (es.map enT)).map (fun q => q.map lineX) = partsOf ms es
  | [], _ => rfl
  | [_], _ => rfl
  | m :: m' :: ms, es => by
    rw [partsD, partsOf, List.map_cons, btw_of, parts_of (m' :: ms) es]
theorem made_ok {ms : List Int} {es : List En} (ok : OkL ms es) (hlt : ∀ e, e ∈ es → ∃ m, m ∈ ms ∧ e.1 < m) (ht : ∀ t, t ∈ partsOf ms es → goT [] t = true) : logB (madeD ms es) = true := by
  have hne : ms ≠ [] := fun e => by have := ok.m0; rw [e] at this; cases this
  have hup := pw_up ok.mono
  have hlast := ok.mb _ (last_mem hne)
  obtain ⟨m0, mr, rfl⟩ : ∃ m0 mr, ms = m0 :: mr := by
    cases ms with
    | nil => exact absurd rfl hne
    | cons a b => exact ⟨a, b, rfl⟩
  have h0 : m0 = 0 := by
    have h1 := ok.mb m0 List.mem_cons_self
    have h2 := (List.pairwise_cons.mp ok.mono).1
    rcases List.mem_cons.mp ok.m0 with e | e
    · exact e.symm
    · have := h2 0 e
      omega
  have e1 : marksD (.tuple ((m0 :: mr).map PyData.int)) = true := by
    show marksB ((m0 :: mr).map PyData.int) = true
    unfold marksB
    rw [ints_iv, hup]
    have hall : ((m0 :: mr).map PyData.int).all isI = true := by
      rw [List.all_map, List.all_eq_true]
      intro x _
      rfl
    rw [hall, decide_eq_true (show (m0 :: mr).headD 0 = 0 from h0), decide_eq_true hlast.2]
    rfl
  have e2 : entsB ((m0 :: mr).getLastD 0) 0 (es.map enT) = true := ents_of ok.asc fun e he => by
    obtain ⟨m, hm, hlt⟩ := hlt e he
    have := pw_last ok.mono m hm
    have := ok.eb e he
    omega
  have hla : lastM (.tuple ((m0 :: mr).map PyData.int)) = (m0 :: mr).getLastD 0 := by
    unfold lastM
    show (((m0 :: mr).map PyData.int).map iv).getLastD 0 = _
    rw [ints_iv]
  have e3 : partsB (.tuple ((m0 :: mr).map PyData.int)) (.tuple (es.map enT)) = true := by
    show ((scan (es.map enT) 0 ((((m0 :: mr).map PyData.int).map iv).drop 1)).all fun q => goT [] (q.map lineX)) = true
    rw [ints_iv, List.drop_succ_cons, List.drop_zero, parts_eq h0 hup e2, List.all_eq_true]
    intro q hq
    refine ht _ ?_
    rw [← parts_of]
    exact List.mem_map.mpr ⟨q, hq, rfl⟩
  show (marksD _ && (entsD (lastM _) _ && partsB _ _)) = true
  rw [e1, e3, hla]
  show (true && (entsB _ 0 _ && true)) = true
  rw [e2]
  rfl
theorem ints_bd {S : List Str} {q m : Nat} (b : Bs S q m) : ∀ {ms : List Int}, (∀ x, x ∈ ms → 0 ≤ x ∧ x ≤ 10000) → Bds S q m (45 * ms.length) ms.length 0 (ms.map PyData.int)
  | [], _ => .nil
  | x :: ms, h => by
    have := h x List.mem_cons_self
    have ih := ints_bd b fun y hy => h y (List.mem_cons_of_mem _ hy)
    exact ((b.i (i := x) (by omega) (by omega) 0).two ih).mono (by rw [List.length_cons]; omega) (by rw [List.length_cons]; omega) (Nat.le_refl _)
theorem lines_bd {S : List Str} {q m : Nat} (b : Bs S q m) : ∀ {es : List En}, (∀ e, e ∈ es → 0 ≤ e.1 ∧ e.1 ≤ 10000) → (∀ e, e ∈ es → Bd S q m 73000 7300 13 e.2.2) → Bds S q m (73060 * es.length) (7310 * es.length) 14 (es.map enT)
  | [], _, _ => .nil
  | e :: es, h, g => by
    have := h e List.mem_cons_self
    have ih := lines_bd b (fun y hy => h y (List.mem_cons_of_mem _ hy)) (fun y hy => g y (List.mem_cons_of_mem _ hy))
    have one : Bd S q m 73052 7302 14 (enT e) := (((b.i (i := e.1) (by omega) (by omega) 13).two ((g e List.mem_cons_self).two .nil)).tup).mono (by omega) (by omega) (by omega)
    exact (one.two ih).mono (by rw [List.length_cons]; omega) (by rw [List.length_cons]; omega) (Nat.le_refl _)
theorem made_bd {S : List Str} {q m : Nat} (b : Bs S q m) {ms : List Int} {es : List En} (ok : OkL ms es) (g : ∀ e, e ∈ es → Bd S q m 73000 7300 13 e.2.2) : Bds S q m 280 6 14 (ms.map PyData.int) ∧ Bds S q m 1753440 175440 14 (es.map enT) := by
  have h1 := ok.ml
  have h2 := ok.el
  exact ⟨(ints_bd b ok.mb).mono (by omega) (by omega) (by omega), (lines_bd b ok.eb g).mono (by omega) (by omega) (Nat.le_refl _)⟩
end L17

/-! Truth values where numbers may stand: +, -, str. -/
namespace BN
open PySem PySem.Spec PyProof.Rows L2 GR
/-- the number that a value is, if it is one -/
def nv : V → Option Int
  | .int i => some i
  | .bl b => some (if b = true then (1 : Int) else 0)
  | _ => none
section
variable {X : Cx}
theorem op_addB : OpR X (binaryOp .Add) (fun x y H Q => ∃ i j, nv x = some i ∧ y = .int j ∧ Q (.int (i + j)) H) := by
  intro pins s σ H x y v u Q I rx ry h
  obtain ⟨i, j, hx, rfl, q⟩ := h
  obtain ⟨t', rfl⟩ := ry
  cases x with
  | int a =>
    cases hx
    obtain ⟨t, rfl⟩ := rx
    exact add_int ⟨.int _, H, I.tok _, ⟨_, rfl⟩, q⟩
  | bl b =>
    cases hx
    cases rx
    exact PySem.IntBool.add_bool_int ⟨.int _, H, I.tok _, ⟨_, rfl⟩, q⟩
  | _ => cases hx
theorem op_subB : OpR X (binaryOp .Sub) (fun x y H Q => ∃ i j, nv x = some i ∧ y = .int j ∧ Q (.int (i - j)) H) := by
  intro pins s σ H x y v u Q I rx ry h
  obtain ⟨i, j, hx, rfl, q⟩ := h
  obtain ⟨t', rfl⟩ := ry
  cases x with
  | int a =>
    cases hx
    obtain ⟨t, rfl⟩ := rx
    exact sub_int ⟨.int _, H, I.tok _, ⟨_, rfl⟩, q⟩
  | bl b =>
    cases hx
    cases rx
    exact PySem.IntBool.sub_bool_int ⟨.int _, H, I.tok _, ⟨_, rfl⟩, q⟩
  | _ => cases hx
theorem op_subB2 : OpR X (binaryOp .Sub) (fun x y H Q => ∃ i j, x = .int i ∧ nv y = some j ∧ Q (.int (i - j)) H) := by
  intro pins s σ H x y v u Q I rx ry h
  obtain ⟨i, j, rfl, hy, q⟩ := h
  obtain ⟨t', rfl⟩ := rx
  cases y with
  | int a =>
    cases hy
    obtain ⟨t, rfl⟩ := ry
    exact sub_int ⟨.int _, H, I.tok _, ⟨_, rfl⟩, q⟩
  | bl b =>
    cases hy
    cases ry
    exact PySem.IntBool.sub_int_bool ⟨.int _, H, I.tok _, ⟨_, rfl⟩, q⟩
  | _ => cases hy
theorem call_strB : CallR X (.type "str") (fun xs H Q => (∃ i, xs = [.int i] ∧ i.natAbs.log2 < 1920 ∧ Q (.str (PySem.Str.ofString (toString i))) H) ∨ ∃ b : Bool, xs = [.bl b] ∧ Q (.str (if b then "True" else "False")) H) := by
  intro pins s σ H xs us Q I r h
  rcases h with ⟨i, rfl, hz, q⟩ | ⟨b, rfl, q⟩
  · exact call_str_int pins s σ H _ us Q I r ⟨i, rfl, hz, q⟩
  · cases r with
    | cons r1 r2 =>
    cases r2
    cases r1
    exact PySem.P.str_of_bool ⟨.str _, H, I.tok _, ⟨_, rfl⟩, q⟩
end
end BN

namespace L17
open PySem PySem.Spec PyProof.Rows L2 GR AD RZ WX ZE TX RVT BN
/-- the value of one that lies nowhere -/
def vOf : PyData → V
  | .bool b => .bl b
  | .int i => .int i
  | .str z => .str z
  | _ => .non
def isAtom : PyData → Bool
  | .none => true
  | .bool _ => true
  | .int _ => true
  | .str _ => true
  | _ => false
theorem dd_atoms {K : PySem.W.Frag} {ok : Addr → Prop} {H : Hp} : ∀ {ds : List PyData}, ds.all isAtom = true → DdAll K ok H (ds.map vOf) ds
  | [], _ => .nil
  | d :: ds, h => by
    rw [List.all_cons, Bool.and_eq_true] at h
    refine .cons ?_ (dd_atoms h.2)
    cases d with
    | none => exact .non
    | bool b => exact .bl b
    | int i => exact .int i
    | str z => exact .str z
    | _ => exact absurd h.1 (by simp [isAtom])
theorem dd_mem {K : PySem.W.Frag} {ok : Addr → Prop} {H : Hp} {v : V} : ∀ {vs : List V} {ds : List PyData}, DdAll K ok H vs ds → v ∈ vs → ∃ d, d ∈ ds ∧ Dd K ok H v d
  | _, _, .nil, h => (nomatch h)
  | _, _, .cons a t, h => by
    rcases List.mem_cons.mp h with rfl | h
    · exact ⟨_, List.mem_cons_self, a⟩
    · obtain ⟨d, hd, e⟩ := dd_mem t h
      exact ⟨d, List.mem_cons_of_mem _ hd, e⟩
/-- a new tuple of atoms -/
theorem dd_new {K : PySem.W.Frag} {ok : Addr → Prop} {H : Hp} {p : Addr} (ds : List PyData) (h : ds.all isAtom = true) : Dd K ok (upd H p (.tup (ds.map vOf))) (.ref p) (.tuple ds) := .tup (.inl (.inl upd_same)) (dd_atoms h)
/-- not the deck's, not where the modules are -/
def Off (d c : Addr) : Addr → Prop := fun b => b ≠ d ∧ b ≠ c ∧ b ≠ sysModules
theorem Keep.off {d c : Addr} {H H' : Hp} {N : Int} (k : Keep d c H H') (D : Deck H d c N) : KeepO (Off d c) H H' := by
  have t := k.t D
  exact ⟨t.1, t.2, fun b o h e => k b o h.1 h.2.1 e⟩
theorem dd_newM {K : PySem.W.Frag} {ok : Addr → Prop} {H : Hp} {p : Addr} (m : H p = none) (ds : List PyData) (h : ds.all isAtom = true) : Dd K ok (upd H p (.tup (ds.map vOf))) (.ref p) (.tuple ds) := .tup (.inl (.inl upd_same)) (dd_atoms h)
theorem dd_tupM {K : PySem.W.Frag} {ok : Addr → Prop} {H : Hp} {p : Addr} {xs : List V} {ds : List PyData} (m : H p = none) (h : DdAll K ok (upd H p (.tup xs)) xs ds) : Dd K ok (upd H p (.tup xs)) (.ref p) (.tuple ds) := .tup (.inl (.inl upd_same)) h
theorem dd_lstM {K : PySem.W.Frag} {ok : Addr → Prop} {H : Hp} {p : Addr} {xs : List V} {ds : List PyData} (m : H p = none) (o : ok p) (h : DdAll K ok (upd H p (.lst xs)) xs ds) : Dd K ok (upd H p (.lst xs)) (.ref p) (.list ds) := .lst upd_same o h
theorem dd_dkM {K : PySem.W.Frag} {ok : Addr → Prop} {H : Hp} {p : Addr} {kvs : List (Key × V)} {ds : List PyData} (m : H p = none) (o : ok p) (h : DdAll K ok (upd H p (.dK kvs)) (kvs.map (·.2)) ds) : Dd K ok (upd H p (.dK kvs)) (.ref p) (.dict ((kvs.map fun q => keyD q.1).zip ds)) := .dk upd_same o h
theorem dd_dkM2 {K : PySem.W.Frag} {ok : Addr → Prop} {H : Hp} {p : Addr} {o : HO} {kvs : List (Key × V)} {ds : List PyData} (m : H p = none) (a : ok p) (h : DdAll K ok (upd (upd H p o) p (.dK kvs)) (kvs.map (·.2)) ds) : Dd K ok (upd (upd H p o) p (.dK kvs)) (.ref p) (.dict ((kvs.map fun q => keyD q.1).zip ds)) := .dk upd_same a h
/-! ### texts -/
theorem upC : ∀ c, c < 127 → okC c = true → (Unicode.upperOf c).all okC = true := by decide +kernel
theorem upper_ok {z : Str} (h : z.cps.toList.all okC = true) : (Txt.upper z).cps.toList.all okC = true := by
  rw [List.all_eq_true] at h ⊢
  intro c hc
  have hc' : c ∈ (z.cps.mapIdx fun i c => (Unicode.upperOf c).toArray).flatten := Array.mem_toList_iff.mp hc
  rw [Array.mem_flatten] at hc'
  obtain ⟨xs, hxs, hcx⟩ := hc'
  rw [Array.mem_mapIdx] at hxs
  obtain ⟨i, hi, rfl⟩ := hxs
  have hd := h z.cps[i] (Array.mem_toList_iff.mpr (Array.getElem_mem hi))
  have := List.all_eq_true.mp (upC _ (okC_iff.mp hd).1.2 hd)
  exact this c (by simpa using hcx)
theorem cut_ok {z : Str} (h : z.cps.toList.all okC = true) (lo hi : Option Int) : (cutS z lo hi).cps.toList.all okC = true ∧ (cutS z lo hi).length ≤ z.length := by
  have hs : ((z.cps.toList.drop (HT.sIx z.length 0 lo)).take (HT.sIx z.length z.length hi - HT.sIx z.length 0 lo)).Sublist z.cps.toList := (List.take_sublist _ _).trans (List.drop_sublist _ _)
  refine ⟨?_, ?_⟩
  · rw [List.all_eq_true] at h ⊢
    intro c hc
    exact h c (hs.subset hc)
  · show (List.toArray _).size ≤ z.cps.size
    rw [List.size_toArray, ← Array.length_toList]
    exact hs.length_le
theorem app_ok {x y : Str} (hx : x.cps.toList.all okC = true) (hy : y.cps.toList.all okC = true) : (x ++ y).cps.toList.all okC = true ∧ (x ++ y).length = x.length + y.length := by
  refine ⟨?_, ?_⟩
  · show (x.cps ++ y.cps).toList.all okC = true
    rw [Array.toList_append, List.all_append, hx, hy]
    rfl
  · show (x.cps ++ y.cps).size = x.cps.size + y.cps.size
    rw [Array.size_append]
theorem int_ok (i : Int) : (PySem.Str.ofString (toString i)).cps.toList.all okC = true := by
  rw [List.all_eq_true]
  intro c hc
  have hc' : c ∈ (PyData.int i).shown.cps.toList := by rw [PyData.shown_int]; exact hc
  have h1 : ¬ (c ≠ 45 ∧ (c < 48 ∨ 57 < c)) := fun h => shown_int_free' h i hc'
  rw [okC_iff]
  omega
/-! ### what a step gives -/
/-- at most one more text, numbers one larger, twice as long -/
def Out (S : List Str) (q m l s p : Nat) (x : PyData) : Prop := ∃ z, Bd (z :: S) (3 * q) (m + 1) (2 * l + 3 * q + 200) (2 * s + 10) (p + 3) x
section
variable {S : List Str} {q m l s p : Nat}
theorem Bd.out {l' s' p' : Nat} {x : PyData} (h : Bd S q m l' s' p' x) (hl : l' ≤ 2 * l + 3 * q + 200) (hs : s' ≤ 2 * s + 10) (hp : p' ≤ p + 3) : Out S q m l s p x :=
  ⟨"", h.wide (fun z hz => List.mem_cons_of_mem _ hz) (by omega) (by omega) hl hs hp⟩
theorem out_str {z : Str} (hl : z.length ≤ 3 * q) (hc : z.cps.toList.all okC = true) : Out S q m l s p (.str z) :=
  ⟨z, (bd_str List.mem_cons_self hl hc).mono (by omega) (by omega) (by omega)⟩
theorem out_int {i : Int} (h : i.natAbs ≤ m + 1) (hm : m + 1 ≤ 10 ^ 41) : Out S q m l s p (.int i) := ⟨"", (bd_int h hm).mono (by omega) (by omega) (by omega)⟩
theorem Bds.take (h : Bds S q m l s p xs) (i : Nat) : Bds S q m l s p (xs.take i) := (h.sub (List.take_append_drop i xs).symm).1
theorem Bds.drop (h : Bds S q m l s p xs) (i : Nat) : Bds S q m l s p (xs.drop i) := (h.sub (List.take_append_drop i xs).symm).2.1
theorem Bds.rev {xs : List PyData} (h : Bds S q m l s p xs) : Bds S q m l s p xs.reverse := by
  have r1 : ∀ zs : List PyData, wls zs.reverse = wls zs := fun zs => by
    induction zs with
    | nil => rfl
    | cons z zs ih => rw [List.reverse_cons, wls_append, ih, wls, wls, wls]; omega
  have r2 : ∀ zs : List PyData, szs zs.reverse = szs zs := fun zs => by
    induction zs with
    | nil => rfl
    | cons z zs ih => rw [List.reverse_cons, szs_append, ih, szs, szs, szs]; omega
  exact ⟨fun y hy => h.els y (List.mem_reverse.mp hy), by rw [r1]; exact h.len, by rw [r2]; exact h.sz⟩
/-- {'a': x} -/
abbrev dicA (x : PyData) : PyData := .dict [(.str "a", x)]
theorem dicA_bd (b : Bs S q m) {x : PyData} (h : Bd S q m l s p x) : Bd S q m (l + 10) 1 (p + 1) (dicA x) := by
  have h1 := h.dep
  have h2 := h.at'
  have ha := (b.w (w := "a") (by decide) 0).at'
  have hl := Nat.le_trans (shown_wl x) h.len
  refine ⟨⟨?_, ?_⟩, ?_, Nat.le_refl _⟩
  · simp only [PyData.depth, PyData.depthKv]
    omega
  · simp only [atB, atBk, h2]
    rw [atB] at ha
    rw [ha]
    rfl
  · rw [wl]
    have e0 : (PyData.str "a").shown.length = 3 := by decide +kernel
    have e1 : (PyData.shown (dicA x)).length = 1 + (Str.join ", " [(PyData.str "a").shown ++ ": " ++ x.shown]).length + 1 := by
      simp only [PyData.shown, PyData.shownKv]
      unfold dictText
      rw [strLen_append, strLen_append]
      rfl
    have e2 := join_length_add [(PyData.str "a").shown ++ ": " ++ x.shown] (List.cons_ne_nil _ _)
    have e3 : ((PyData.str "a").shown ++ (": " : Str) ++ x.shown).length = 3 + 2 + x.shown.length := by
      rw [strLen_append, strLen_append, e0]
      rfl
    have e4 : piled [(PyData.str "a").shown ++ ": " ++ x.shown] = (3 + 2 + x.shown.length) + 2 := by
      rw [← e3]
      simp [piled]
    rw [e4] at e2
    refine Nat.le_trans (Nat.le_of_eq e1) ?_
    omega
end
theorem cut_from' (xs : List V) (j : Nat) : cutV xs (some (j : Int)) none = xs.drop j := by
  by_cases h : j ≤ xs.length
  · exact cut_from h
  · unfold cutV
    rw [HT.sIx_none, six_lo, Nat.min_eq_right (by omega), List.drop_of_length_le (by omega), List.drop_of_length_le (by omega), List.take_nil]
theorem shaped_int (i : Int) : SeqAt.shaped (.int i) = true := by
  unfold SeqAt.shaped
  simp only [PyData.canLay0, PyData.depth, Bool.true_and]
  rfl
theorem shaped_bool (b : Bool) : SeqAt.shaped (.bool b) = true := by
  unfold SeqAt.shaped
  simp only [PyData.canLay0, PyData.depth, Bool.true_and]
  rfl
/-- nor at LL -/
def Off3 (d c LL : Addr) : Addr → Prop := fun b => Off d c b ∧ b ≠ LL
/-- LL is taken, and not the deck's -/
structure Gd3 (H : Hp) (d c LL : Addr) : Prop where
  ex : ∃ o, H LL = some o
  nd : LL ≠ d
  nc : LL ≠ c
theorem Gd3.keep {H H' : Hp} {d c LL : Addr} (h : Gd3 H d c LL) (k : Keep d c H H') : Gd3 H' d c LL := let ⟨o, e⟩ := h.ex; ⟨⟨o, k _ _ h.nd h.nc e⟩, h.nd, h.nc⟩
theorem Gd3.ne {H H' : Hp} {d c LL p : Addr} (h : Gd3 H d c LL) (s : Same H H') (n : H' p = none) : p ≠ LL := fun e => by
  obtain ⟨o, ho⟩ := h.ex
  rw [e, s _ _ ho] at n
  cases n
theorem Keep.off3 {d c LL : Addr} {H H' : Hp} {N : Int} (k : Keep d c H H') (D : Deck H d c N) : KeepO (Off3 d c LL) H H' :=
  have t := k.off D
  ⟨t.1, t.2, fun b o h e => t.3 b o h.1 e⟩
section
variable {P : Program} {w : World} {K : PySem.W.Frag} {mg : Str → Option Value} {base : Heap}
abbrev s_law_step_off : Stmt := topS 57
abbrev N_off : List Str := ["_law_deck_here", "_law_thing", "_law_way", "_law_at", "_law_some"]
theorem sc_law_step_off : FnScope N_off ["_law_deck_here", "_law_thing"] (defScope s_law_step_off) := ⟨rfl, rfl, rfl, by decide +kernel, rfl, by decide +kernel, by decide +kernel⟩
/-- bounds under which a step may be taken -/
structure Sb (S : List Str) (q m l s : Nat) : Prop extends Bs S q m where
  q1 : 50 ≤ q
  q2 : q ≤ 300
  m3 : 10 ^ 39 ≤ m
  m4 : m + 1 ≤ 10 ^ 41
  l4 : l ≤ 8000000
  s4 : s ≤ 1000000
def sp_off (K : PySem.W.Frag) : Sp := fun vs H Q _ => ∃ (d c : Addr) (N : Int) (v : V) (x : PyData) (S : List Str) (q m l s p : Nat) (LL : Addr), vs = [.ref d, v] ∧ Deck H d c N ∧ N < 2 ^ 58 ∧ Gd3 H d c LL ∧ Dd K (Off3 d c LL) H v x ∧ Bd S q m l s p x ∧ Sb S q m l s ∧
  ∀ H' v' x', Keep d c H H' → Deck H' d c (N + 2) → Dd K (Off3 d c LL) H' v' x' → Out S q m l s p x' → Q v' H'
theorem ok_step_off {f fd' fp : Addr} {fd dd dp : FuncData} {k : Nat} (F : Fun K "_law_step_off" "_law_step_off" s_law_step_off f fd)
    (Gd : FnOk P w K mg base CX0 k fd' dd ["_law_deck_here", "_law_most"] sp_draw) (gd : mg "_law_draw" = some (.ref fd')) (Kd : PySem.W.keepIn K (.ref fd') = true) (bd : Binds K dd ["_law_deck_here", "_law_most"] [])
    (Gp : FnOk P w K mg base CX0 k fp dp ["_law_deck_here", "_law_some"] (sp_pick K)) (gp : mg "_law_pick" = some (.ref fp)) (Kp : PySem.W.keepIn K (.ref fp) = true) (bp : Binds K dp ["_law_deck_here", "_law_some"] [])
    (misi : mg "isinstance" = none) (mtuple : mg "tuple" = none) (mlen : mg "len" = none) (mlist : mg "list" = none) (mstr : mg "str" = none) (mint : mg "int" = none) : FnOk P w K mg base CX0 (k + 1) f fd ["_law_deck_here", "_law_thing"] (sp_off K) := by
  have nd := sc_law_step_off.nd
  refine F.ok sc_law_step_off (fun vs H Q E h => ?_) (fun cdv A outer s0 H vs Q E hr h => ?_)
  · obtain ⟨d, c, N, v, x, S, q, m, l, s, p, LL, rfl, _⟩ := h
    rfl
  obtain ⟨d, c, N, v, x, S, q, m, l, s, p, LL, rfl, D, hN, hLL, hd, hb, hS, qq⟩ := h
  refine ⟨_, (pss_cons (ps_set (i := 2) nd rfl (.inl rfl) (pe_call Gd hr (by rfl) gd Kd bd .nil pass0 (pa_cons (pv 0) (pa_cons pe_int pa_nil))))
      (pss_cons (ps_if (pt_cmpR op_eq (pv 2) pe_int (nomark _))
      (pss_one (ps_ret (pe_call Gp hr (by rfl) gp Kp bp .nil pass0 (pa_cons (pv 0) (pa_cons (pe_lst (pa_cons pe_non (pa_cons pe_bl (pa_cons pe_bl (pa_cons (pe_tup pa_nil) (pa_cons (pe_lstS pa_nil) (pa_cons (pe_sys pe_dnewK) (pa_cons pe_str (pa_cons pe_str (pa_cons (pe_un un_neg pe_int) (pa_cons pe_int (pa_cons (pe_tup (pa_cons pe_int pa_nil)) (pa_cons (pe_op op_pow pe_int pe_int) (pa_cons (pe_lstS (pa_cons pe_int pa_nil)) (pa_cons (pe_sys (pe_disp (pps_cons pe_str pe_int pps_nil) (by decide) rfl (by simp) (by decide))) (pa_cons (pe_tup (pa_cons (pe_tup pa_nil) pa_nil)) pa_nil)))))))))))))))) pa_nil)))))
      pss_nil)
      (pss_cons (ps_if (pt_val (pe_callB call_isi (by rfl) misi boot_isinstance (pa_cons (pv 1) (pa_cons (pe_bltn (v := .ty "tuple") (by rfl) mtuple boot_tuple rfl) pa_nil))))
      (pss_cons (ps_set (i := 3) nd rfl (.inl rfl) (pe_call Gd hr (by rfl) gd Kd bd .nil pass0 (pa_cons (pv 0) (pa_cons (pe_op op_add (pe_callB call_len_seq (by rfl) mlen PySem.boot_len (pa_cons (pv 1) pa_nil)) pe_int) pa_nil))))
        (Evl.pss_cut (ps_set (i := 4) nd rfl (.inl rfl) (pe_lst (pa_cons (pe_op op_catA (pe_slice sl_tupA (pv 1) po_none (po_some (pv 3))) (pe_slice sl_tupA (pv 1) (po_some (pe_op op_add (pv 3) pe_int)) po_none)) (pa_cons (pe_op op_catA (pe_op op_catA (pe_slice sl_tupA (pv 1) po_none (po_some (pv 3))) (pe_slice sl_tupA (pv 1) (po_some (pv 3)) (po_some (pe_op op_add (pv 3) pe_int)))) (pe_slice sl_tupA (pv 1) (po_some (pv 3)) po_none)) (pa_cons (pe_callTy call_listS (by rfl) mlist boot_list (pa_cons (pv 1) pa_nil)) (pa_cons (pe_revT (pv 1)) pa_nil))))))
        (pss_one (ps_ret (pe_ix ix_list (pe_op op_cat (pv 4) (pe_lst (pa_cons (pe_op op_catA (pv 1) (pe_tup (pa_cons pe_int pa_nil))) (pa_cons (pe_sys (pe_disp (pps_cons pe_str (pv 1) pps_nil) (by decide) rfl (by simp) (by decide))) (pa_cons (pe_tup (pa_cons (pv 1) pa_nil)) pa_nil))))) (pe_op op_sub (pv 2) pe_int) (fun _ _ => rfl))))))
      pss_nil)
      (pss_cons (ps_if (pt_val (pe_callB call_isi (by rfl) misi boot_isinstance (pa_cons (pv 1) (pa_cons (pe_bltn (v := .ty "str") (by rfl) mstr boot_str rfl) pa_nil))))
      (pss_one (ps_ret (pe_ix ix_list (pe_lst (pa_cons (pe_op op_add_str (pv 1) pe_str) (pa_cons (pe_slice sl_str (pv 1) po_none (po_some (pe_un un_neg pe_int))) (pa_cons (pe_bm0 PySem.F.plainAttrs_str PySem.F.slot_str_upper PySem.F.type_str_upper mt_upper (pv 1)) (pa_cons (pe_tup (pa_cons (pv 1) pa_nil)) (pa_cons (pe_lstS (pa_cons (pv 1) pa_nil)) (pa_cons (pe_op op_add_str (pv 1) (pv 1)) (pa_cons pe_str pa_nil)))))))) (pe_op op_sub (pv 2) pe_int) (fun _ _ => rfl))))
      pss_nil)
      (pss_cons (ps_if (pt_val (pe_callB call_isi (by rfl) misi boot_isinstance (pa_cons (pv 1) (pa_cons (pe_bltn (v := .ty "int") (by rfl) mint boot_int rfl) pa_nil))))
      (pss_one (ps_ret (pe_ix ix_list (pe_lst (pa_cons (pe_op op_addB (pv 1) pe_int) (pa_cons (pe_op op_subB (pv 1) pe_int) (pa_cons (pe_op op_subB2 pe_int (pv 1)) (pa_cons (pe_cmpR (op_eqD hr.units) (pv 1) pe_int (nomark _)) (pa_cons (pe_callTy call_strB (by rfl) mstr boot_str (pa_cons (pv 1) pa_nil)) (pa_cons (pe_tup (pa_cons (pv 1) pa_nil)) (pa_cons pe_non pa_nil)))))))) (pe_op op_sub (pv 2) pe_int) (fun _ _ => rfl))))
      pss_nil)
      (pss_one (ps_ret (pe_ix ix_list (pe_lst (pa_cons pe_int (pa_cons pe_int (pa_cons (pe_un un_neg pe_int) (pa_cons (pe_tup pa_nil) (pa_cons pe_str (pa_cons (pe_lstS (pa_cons (pv 1) pa_nil)) (pa_cons pe_bl pa_nil)))))))) (pe_op op_sub (pv 2) pe_int) (fun _ _ => rfl))))))))), ?_⟩
  have b8 : 7 ≤ sizeLine := small_le (by decide)
  have b1 : 1 ≤ sizeLine := small_le (by decide)
  refine ⟨.ref d, rfl, d, c, N, 8, rfl, D, by omega, by decide, by decide, fun H1 way k1 D1 w0 w1 => ?_⟩
  have hd1 := hd.keep (k1.off3 D)
  have nn : ∀ {Hx : Hp} {p : Addr}, Same H1 Hx → Hx p = none → p ≠ LL := fun s n => (hLL.keep k1).ne s n
  have hq1 := hS.q1
  have hq2 := hS.q2
  have hm3 := hS.m3
  have hm4 := hS.m4
  have hl4 := hS.l4
  have hs4 := hS.s4
  have q1 : ∀ H' v' x', Keep d c H1 H' → Deck H' d c (N + 2) → Dd K (Off3 d c LL) H' v' x' → Out S q m l s p x' → Q v' H' := fun H' v' x' k D' h o => qq H' v' x' (k1.trans k) D' h o
  clear qq
  have fin : ∀ (H' : Hp) (xs : List V) (ys : List PyData), Keep d c H1 H' → Deck H' d c (N + 2) → DdAll K (Off3 d c LL) H' xs ys → xs.length = 7 → way ≠ 0 → (∀ y, y ∈ ys → Out S q m l s p y) → ∃ v', atI xs (way - 1) = some v' ∧ Q v' H' := by
    intro H' xs ys k D' hA hlen hw ho
    obtain ⟨j, hj⟩ := Int.eq_ofNat_of_zero_le (show 0 ≤ way - 1 by omega)
    have hj7 : j < xs.length := by omega
    rw [hj]
    obtain ⟨y, hy, hyd⟩ := dd_at hA (List.getElem?_eq_getElem hj7)
    exact ⟨xs[j], atI_nat (List.getElem?_eq_getElem hj7), q1 H' _ y k D' hyd (ho y (List.mem_of_getElem? hy))⟩
  have o0 : ∀ {l' s' p' : Nat} {x : PyData}, Bd S q m l' s' p' x → l' ≤ 90 → s' ≤ 9 → p' ≤ 3 → Out S q m l s p x := fun h h1 h2 h3 => h.out (by omega) (by omega) (by omega)
  have oi : ∀ i : Int, -1 ≤ i → i ≤ 1 → Out S q m l s p (.int i) := fun i h1 h2 => out_int (by omega) hm4
  have oe : Out S q m l s p (.tuple []) := o0 (Bds.nil (p := 0)).tup (by decide) (by decide) (by decide)
  refine ⟨.int way, rfl, rfl, _, rfl, ite2 (fun e0 => ?_) (fun e0 => ?_)⟩
  · refine ⟨.ref d, rfl, Nat.zero_le _, fun t1 n1 => ⟨Nat.zero_le _, fun l1 m1 f1 => fun d1 e1 g1 => ⟨1, rfl, b1, fun t2 n2 => ⟨10, 39, rfl, rfl, ⟨by decide, by decide, by decide⟩, b1, fun l2 m2 f2 => fun d2 e2 => ⟨upd_same, [(.inr "a", .int 0)], rfl, by decide, fun g2 => ⟨Nat.zero_le _, fun t3 n3 => ⟨b1, fun t4 n4 => ⟨small_le (show 15 ≤ 1000 by decide), fun L nL => ?_⟩⟩⟩⟩⟩⟩⟩⟩
    have a1 := same_upd (o := .tup []) n1
    have a2 := same_upd (o := .lst []) m1
    have a3 := same_upd (o := .dK []) e1
    have a4 := same_upd (o := .tup [.int 0]) n2
    have a5 := same_upd (o := .lst [.int 0]) m2
    have a6 := same_upd2 (o1 := .dK []) (o2 := .dK [(.inr "a", .int 0)]) e2
    have a7 := same_upd (o := .tup []) n3
    have a8 := same_upd (o := .tup [.ref t3]) n4
    have s13 := a1.trans (a2.trans a3)
    have s15 := s13.trans (a4.trans a5)
    have u1 : Dd K (Off3 d c LL) _ (.ref t1) (.tuple []) := dd_newM n1 [] rfl
    have w1' := (D1.same a1).new m1
    have u2 : Dd K (Off3 d c LL) _ (.ref l1) (.list []) := dd_lstM (xs := []) m1 ⟨⟨w1'.1, w1'.2, f1⟩, nn a1 m1⟩ .nil
    have w2' := (D1.same (a1.trans a2)).new e1
    have u3 : Dd K (Off3 d c LL) _ (.ref d1) (.dict []) := dd_dkM (kvs := []) (ds := []) e1 ⟨⟨w2'.1, w2'.2, g1 d1 _ upd_same⟩, nn (a1.trans a2) e1⟩ .nil
    have u4 : Dd K (Off3 d c LL) _ (.ref t2) (.tuple [.int 0]) := dd_newM n2 [.int 0] rfl
    have w3' := (D1.same (s13.trans a4)).new m2
    have u5 : Dd K (Off3 d c LL) _ (.ref l2) (.list [.int 0]) := dd_lstM (xs := [.int 0]) m2 ⟨⟨w3'.1, w3'.2, f2⟩, nn (s13.trans a4) m2⟩ (.cons (.int 0) .nil)
    have w4' := (D1.same s15).new e2
    have u6 : Dd K (Off3 d c LL) _ (.ref d2) (dicA (.int 0)) := dd_dkM2 (o := .dK []) (kvs := [(.inr "a", .int 0)]) (ds := [.int 0]) e2 ⟨⟨w4'.1, w4'.2, g2 d2 _ upd_same⟩, nn s15 e2⟩ (.cons (.int 0) .nil)
    have u7 : Dd K (Off3 d c LL) _ (.ref t3) (.tuple []) := dd_newM n3 [] rfl
    have u8 : Dd K (Off3 d c LL) _ (.ref t4) (.tuple [.tuple []]) := dd_tupM n4 (.cons (u7.keep (KeepO.of a8)) .nil)
    have s68 := a6.trans (a7.trans a8)
    have all : DdAll K (Off3 d c LL) _ [.non, .bl true, .bl false, .ref t1, .ref l1, .ref d1, .str "", .str "let", .int (-1), .int 0, .ref t2, .int (10 ^ 39), .ref l2, .ref d2, .ref t4]
        [.none, .bool true, .bool false, .tuple [], .list [], .dict [], .str "", .str "let", .int (-1), .int 0, .tuple [.int 0], .int (10 ^ 39), .list [.int 0], dicA (.int 0), .tuple [.tuple []]] :=
      .cons .non (.cons (.bl true) (.cons (.bl false) (.cons (u1.keep (KeepO.of ((a2.trans a3).trans ((a4.trans a5).trans s68)))) (.cons (u2.keep (KeepO.of (a3.trans ((a4.trans a5).trans s68)))) (.cons (u3.keep (KeepO.of ((a4.trans a5).trans s68))) (.cons (.str _) (.cons (.str _) (.cons (.int _) (.cons (.int _) (.cons (u4.keep (KeepO.of (a5.trans s68))) (.cons (.int _) (.cons (u5.keep (KeepO.of s68)) (.cons (u6.keep (KeepO.of (a7.trans a8))) (.cons u8 .nil))))))))))))))
    have sAll := s15.trans s68
    have aL := same_upd (o := .lst [.non, .bl true, .bl false, .ref t1, .ref l1, .ref d1, .str "", .str "let", .int (-1), .int 0, .ref t2, .int (10 ^ 39), .ref l2, .ref d2, .ref t4]) nL
    have hL := (D1.same sAll).new nL
    have DL := D1.same (sAll.trans aL)
    refine .inl ⟨d, c, L, N + 1, _, rfl, DL, by omega, .inl (.inl upd_same), List.cons_ne_nil _ _, Nat.le_of_ble_eq_true rfl, hL.1, hL.2, fun H9 v9 k9 D9 hv => ?_⟩
    obtain ⟨y, hy, hyd⟩ := dd_mem ((all.keep (KeepO.of aL)).keep (k9.off3 DL)) hv
    refine q1 H9 v9 y ((Keep.of (sAll.trans aL)).trans k9) (D9.mono (by omega)) hyd ?_
    have i0 := oi 0 (by decide) (by decide)
    have b39 : Bd S q m 43 1 0 (.int (10 ^ 39)) := bd_int (Nat.le_trans (by decide) hm3) hS.m2
    have bi0 : Bd S q m 43 1 0 (.int 0) := bd_int (Nat.zero_le _) hS.m2
    have bT : Bd S q m 48 2 1 (.tuple [.int 0]) := (Bds.two bi0 .nil).tup
    have bL : Bd S q m 48 2 1 (.list [.int 0]) := (Bds.two bi0 .nil).lst
    have be : Bd S q m 3 1 1 (.tuple []) := (Bds.nil (p := 0)).tup
    have bl0 : Bd S q m 3 1 1 (.list []) := (Bds.nil (p := 0)).lst
    have bee : Bd S q m 8 2 2 (.tuple [.tuple []]) := (Bds.two be .nil).tup
    have bd0 : Bd S q m 3 1 1 (.dict []) := ⟨⟨by simp only [PyData.depth, PyData.depthKv]; omega, by rw [atB, atBk]⟩, by rw [wl]; decide +kernel, by decide⟩
    have bda := dicA_bd hS.toBs bi0
    have bw : ∀ w, w ∈ baseS → Bd S q m 7 1 0 (.str w) := fun w hw => hS.w hw 0
    simp only [List.mem_cons, List.not_mem_nil, or_false] at hy
    rcases hy with rfl | rfl | rfl | rfl | rfl | rfl | rfl | rfl | rfl | rfl | rfl | rfl | rfl | rfl | rfl
    · exact o0 bd_none (by decide) (by decide) (by decide)
    · exact o0 (bd_bool _) (by decide) (by decide) (by decide)
    · exact o0 (bd_bool _) (by decide) (by decide) (by decide)
    · exact o0 be (by decide) (by decide) (by decide)
    · exact o0 bl0 (by decide) (by decide) (by decide)
    · exact o0 bd0 (by decide) (by decide) (by decide)
    · exact o0 (bw "" (by decide)) (by decide) (by decide) (by decide)
    · exact o0 (bw "let" (by decide)) (by decide) (by decide) (by decide)
    · exact oi (-1) (by decide) (by decide)
    · exact i0
    · exact o0 bT (by decide) (by decide) (by decide)
    · exact o0 b39 (by decide) (by decide) (by decide)
    · exact o0 bL (by decide) (by decide) (by decide)
    · exact o0 bda (by decide) (by decide) (by decide)
    · exact o0 bee (by decide) (by decide) (by decide)
  have e0 : way ≠ 0 := fun z => e0 (by simpa using z)
  refine ⟨v, rfl, v, .ty "tuple", _, _, _, rfl, .ty "tuple", hd1.ty, kit_t K x, _, rfl, ?_⟩
  have hx := hd1
  have out7 : ∀ {y0 y1 y2 y3 y4 y5 y6 : PyData}, Out S q m l s p y0 → Out S q m l s p y1 → Out S q m l s p y2 → Out S q m l s p y3 → Out S q m l s p y4 → Out S q m l s p y5 → Out S q m l s p y6 → ∀ y, y ∈ [y0, y1, y2, y3, y4, y5, y6] → Out S q m l s p y := by
    intro y0 y1 y2 y3 y4 y5 y6 h0 h1 h2 h3 h4 h5 h6 y hy
    simp only [List.mem_cons, List.not_mem_nil, or_false] at hy
    rcases hy with rfl | rfl | rfl | rfl | rfl | rfl | rfl <;> assumption
  have oN : Out S q m l s p (.str "None") := o0 (hS.w (w := "None") (by decide) 0) (by decide) (by decide) (by decide)
  have oL : Out S q m l s p (.list [x]) := ((Bds.two hb .nil).lst).out (by omega) (by omega) (by omega)
  have oT : Out S q m l s p (.tuple [x]) := ((Bds.two hb .nil).tup).out (by omega) (by omega) (by omega)
  cases x with
  | tuple ds =>
    obtain ⟨a, xs, rfl, hs, ha⟩ := L17.Dd.tup_inv hd1
    have lx := ha.len
    have hbl := hb.len
    have hbs := hb.sz
    have hbd := hb.dep
    rw [wl] at hbl
    rw [L17.sz] at hbs
    simp only [PyData.depth] at hbd
    obtain ⟨p', rfl⟩ : ∃ p', p = p' + 1 := ⟨p - 1, by omega⟩
    have B : Bds S q m (l - 3) (s - 1) p' ds := hb.inv
    have hsz := szs_len ds
    have hxl : xs.length ≤ 1000000 := by omega
    have big : 4000000 ≤ sizeLine := by rw [sizeLine_eq]; omega
    refine iteT ⟨.ref d, rfl, .ref a, rfl, a, xs, rfl, .inr hs, _, 1, rfl, rfl, d, c, N + 1, _, rfl, D1, by omega, by omega, by omega, fun H2 at' k2 D2 c0 c1 => ?_⟩
    obtain ⟨j, rfl⟩ := Int.eq_ofNat_of_zero_le c0
    have hj : j ≤ xs.length := by omega
    have hs2 := (k2.t D1).seqt hs
    have ha2 := ha.keep (k2.off3 D1)
    have tk : ∀ i, DdAll K (Off3 d c LL) H2 (xs.take i) (ds.take i) := fun i => dd_take i ha2
    have dr : ∀ i, DdAll K (Off3 d c LL) H2 (xs.drop i) (ds.drop i) := fun i => dd_drop i ha2
    have ltk : ∀ i, (xs.take i).length ≤ 1000000 := fun i => by rw [List.length_take]; omega
    have ldr : ∀ i, (xs.drop i).length ≤ 1000000 := fun i => by rw [List.length_drop]; omega
    have bt : ∀ {ys : List PyData} {k n : Nat}, Bds S q m k n p' ys → k ≤ 2 * (l - 3) + 190 → n ≤ 2 * (s - 1) + 8 → Out S q m l s (p' + 1) (.tuple ys) := fun h h1 h2 => (h.tup).out (by omega) (by omega) (by omega)
    refine ⟨fun σ' H' => ∃ (L : Addr) (vs : List V) (ys : List PyData), σ' = [some (.ref d), some (.ref a), some (.int way), some (.int (j : Int)), some (.ref L)] ∧ Same H2 H' ∧ H' L = some (.lst vs) ∧ DdAll K (Off3 d c LL) H' vs ys ∧ vs.length = 4 ∧ ∀ y, y ∈ ys → Out S q m l s (p' + 1) y, ?_, ?_⟩
    · refine ⟨.ref a, rfl, .int (j : Int), rfl, (j : Int), rfl, slice_any hs2 fun H4 p4 s4 h4 => ⟨.ref a, rfl, .int (j : Int), rfl, (j : Int), 1, rfl, rfl, (j : Int) + 1, rfl, slice_from ((KeepT.of s4).seqt hs2) fun H5 p5 s5 h5 => ?_⟩⟩
      have h4' : SqT K H4 p4 (xs.take j) := by rw [← cut_to hj]; exact h4
      have h5' : SqT K H5 p5 (xs.drop (j + 1)) := by
        have e : cutV xs (some ((j : Int) + 1)) none = xs.drop (j + 1) := cut_from' xs (j + 1)
        rw [← e]
        exact h5
      have := ltk j
      have := ldr (j + 1)
      refine cat_any ((KeepT.of s5).seqt h4') h5' (by omega) fun H6 p6 s6 h6 => ?_
      have s26 := s4.trans (s5.trans s6)
      have r6 : Dd K (Off3 d c LL) H6 (.ref p6) (.tuple (ds.take j ++ ds.drop (j + 1))) := .tup h6 (((tk j).app (dr (j + 1))).keep (KeepO.of s26))
      have hs6 := (KeepT.of s26).seqt hs2
      refine ⟨.ref a, rfl, .int (j : Int), rfl, (j : Int), rfl, slice_any hs6 fun H7 p7 s7 h7 => ⟨.ref a, rfl, .int (j : Int), rfl, (j : Int), rfl, .int (j : Int), rfl, (j : Int), 1, rfl, rfl, (j : Int) + 1, rfl, slice_any ((KeepT.of s7).seqt hs6) fun H8 p8 s8 h8 => ?_⟩⟩
      have h7' : SqT K H7 p7 (xs.take j) := by rw [← cut_to hj]; exact h7
      have h8' : SqT K H8 p8 ((xs.drop j).take 1) := by
        have e : cutV xs (some (j : Int)) (some ((j : Int) + 1)) = (xs.drop j).take 1 := by
          rw [show (j : Int) + 1 = ((j + 1 : Nat) : Int) from rfl, cut_both hj, show j + 1 - j = 1 by omega]
        rw [← e]
        exact h8
      have l1 : ((xs.drop j).take 1).length ≤ 1 := by rw [List.length_take]; omega
      refine cat_any ((KeepT.of s8).seqt h7') h8' (by omega) fun H9 p9 s9 h9 => ⟨.ref a, rfl, .int (j : Int), rfl, (j : Int), rfl, slice_from ((KeepT.of (s7.trans (s8.trans s9))).seqt hs6) fun Ha pa sa ha' => ?_⟩
      have ha'' : SqT K Ha pa (xs.drop j) := by rw [← cut_from hj]; exact ha'
      have := ldr j
      refine cat_any ((KeepT.of sa).seqt h9) ha'' (by rw [List.length_append]; omega) fun Hb pb sb hb' => ?_
      have s6b := s7.trans (s8.trans (s9.trans (sa.trans sb)))
      have s2b := s26.trans s6b
      have rb : Dd K (Off3 d c LL) Hb (.ref pb) (.tuple ((ds.take j ++ (ds.drop j).take 1) ++ ds.drop j)) := .tup hb' ((((tk j).app (dd_take 1 (dr j))).app (dr j)).keep (KeepO.of s2b))
      have hsb := (KeepT.of s2b).seqt hs2
      refine ⟨.ref a, rfl, a, xs, rfl, hsb, fun lc nlc farc => ?_⟩
      have sc := same_upd (o := .lst xs) nlc
      have hlc := (D2.same s2b).new nlc
      have rc : Dd K (Off3 d c LL) _ (.ref lc) (.list ds) := dd_lstM nlc ⟨⟨hlc.1, hlc.2, farc⟩, ((hLL.keep k1).keep k2).ne s2b nlc⟩ (ha2.keep (KeepO.of (s2b.trans sc)))
      refine ⟨.ref a, rfl, a, xs, rfl, (KeepT.of sc).seqt hsb, fun pd nd' => ⟨small_le (show 4 ≤ 1000 by decide), fun L nL => ?_⟩⟩
      have sd := same_upd (o := .tup xs.reverse) nd'
      have rd : Dd K (Off3 d c LL) _ (.ref pd) (.tuple ds.reverse) := dd_tupM nd' ((dd_rev ha2).keep (KeepO.of ((s2b.trans sc).trans sd)))
      have sL := same_upd (o := .lst [.ref p6, .ref pb, .ref lc, .ref pd]) nL
      refine ⟨L, _, _, rfl, (s2b.trans sc).trans (sd.trans sL), upd_same, .cons (r6.keep (KeepO.of (s6b.trans (sc.trans (sd.trans sL))))) (.cons (rb.keep (KeepO.of (sc.trans (sd.trans sL)))) (.cons (rc.keep (KeepO.of (sd.trans sL))) (.cons (rd.keep (KeepO.of sL)) .nil))), rfl, ?_⟩
      intro y hy
      have hle := B.len
      have hse := B.sz
      have two : Bds S q m (2 * (l - 3)) (2 * (s - 1)) p' (ds.take j ++ ds.drop (j + 1)) := ((B.take j).app (B.drop (j + 1))).mono (by omega) (by omega) (Nat.le_refl _)
      have e1 : ds.take j ++ (ds.drop j).take 1 = ds.take (j + 1) := by
        rw [List.take_add]
      have three : Bds S q m (2 * (l - 3)) (2 * (s - 1)) p' ((ds.take j ++ (ds.drop j).take 1) ++ ds.drop j) := by
        rw [e1]
        exact ((B.take (j + 1)).app (B.drop j)).mono (by omega) (by omega) (Nat.le_refl _)
      simp only [List.mem_cons, List.not_mem_nil, or_false] at hy
      rcases hy with rfl | rfl | rfl | rfl
      · exact bt two (by omega) (by omega)
      · exact bt three (by omega) (by omega)
      · exact (B.lst).out (by omega) (by omega) (by omega)
      · exact bt B.rev (by omega) (by omega)
    · rintro σ' H3 ⟨L, vs, ys, rfl, s3, hL, hvs, l4, ho⟩
      have hs3 := (KeepT.of s3).seqt hs2
      refine ⟨.ref L, rfl, .ref a, rfl, b1, fun t1 n1 => ?_⟩
      have a1 := same_upd (o := .tup [.int 0]) n1
      refine cat_any ((KeepT.of a1).seqt hs3) (.inl (.inl upd_same)) (by rw [List.length_singleton]; omega) fun H5 p5 s5 h5 => ?_
      have s35 := a1.trans s5
      have s25 := s3.trans s35
      have r5 : Dd K (Off3 d c LL) H5 (.ref p5) (.tuple (ds ++ [.int 0])) := .tup h5 ((ha2.keep (KeepO.of s25)).app (.cons (.int 0) .nil))
      refine fun d2 e2 => ⟨.ref a, rfl, upd_same, [(.inr "a", .ref a)], rfl, Nat.le_of_ble_eq_true rfl, fun g2 => ⟨.ref a, rfl, b1, fun t4 n4 => ⟨small_le (show 3 ≤ 1000 by decide), fun L2 nL2 => ?_⟩⟩⟩
      have a6 := same_upd2 (o1 := .dK []) (o2 := .dK [(.inr "a", .ref a)]) e2
      have a7 := same_upd (o := .tup [.ref a]) n4
      have a8 := same_upd (o := .lst [.ref p5, .ref d2, .ref t4]) nL2
      have w2 := (D2.same s25).new e2
      have r6 : Dd K (Off3 d c LL) _ (.ref d2) (dicA (.tuple ds)) := dd_dkM2 (o := .dK []) (kvs := [(.inr "a", .ref a)]) (ds := [.tuple ds]) e2 ⟨⟨w2.1, w2.2, g2 d2 _ upd_same⟩, ((hLL.keep k1).keep k2).ne s25 e2⟩ (.cons (.tup ((KeepT.of (s25.trans a6)).seqt hs2) (ha2.keep (KeepO.of (s25.trans a6)))) .nil)
      have r7 : Dd K (Off3 d c LL) _ (.ref t4) (.tuple [.tuple ds]) := dd_tupM n4 (.cons (.tup ((KeepT.of ((s25.trans a6).trans a7)).seqt hs2) (ha2.keep (KeepO.of ((s25.trans a6).trans a7)))) .nil)
      have s58 := a6.trans (a7.trans a8)
      have hvs2 := hvs.keep (KeepO.of (s35.trans s58))
      have ly := hvs.len
      refine ⟨L, L2, vs, _, rfl, rfl, (s35.trans s58) _ _ hL, upd_same, ?_, fun L3 nL3 => ⟨.int way, rfl, way, 1, rfl, rfl, ?_⟩⟩
      · rw [l4]
        exact b8
      have a9 := same_upd (o := .lst (vs ++ [.ref p5, .ref d2, .ref t4])) nL3
      have s29 := s25.trans (s58.trans a9)
      have ho2 : ∀ y, y ∈ ys ++ [.tuple (ds ++ [.int 0]), dicA (.tuple ds), .tuple [.tuple ds]] → Out S q m l s (p' + 1) y := by
        intro y hy
        have bi0 : Bd S q m 43 1 0 (.int 0) := bd_int (Nat.zero_le _) hS.m2
        have hle := B.len
        have hse := B.sz
        rcases List.mem_append.mp hy with hy | hy
        · exact ho y hy
        · simp only [List.mem_cons, List.not_mem_nil, or_false] at hy
          rcases hy with rfl | rfl | rfl
          · exact bt (B.app (Bds.two (bi0.mono (Nat.le_refl _) (Nat.le_refl _) (Nat.zero_le p')) .nil)) (by omega) (by omega)
          · exact (dicA_bd hS.toBs hb).out (by omega) (by omega) (by omega)
          · exact oT
      obtain ⟨v', hv', qv'⟩ := fin _ (vs ++ [.ref p5, .ref d2, .ref t4]) (ys ++ [.tuple (ds ++ [.int 0]), dicA (.tuple ds), .tuple [.tuple ds]]) (k2.trans (Keep.of s29)) ((D2.same s29).mono (by omega))
        ((hvs2.keep (KeepO.of a9)).app (.cons (r5.keep (KeepO.of (s58.trans a9))) (.cons (r6.keep (KeepO.of (a7.trans (a8.trans a9)))) (.cons (r7.keep (KeepO.of (a8.trans a9))) .nil)))) (by rw [List.length_append, l4]; rfl) e0 ho2
      exact ⟨L3, _, way - 1, v', rfl, rfl, .inl (.inl upd_same), hv', qv'⟩
  | str z =>
    have hat := hb.at'
    rw [atB, Bool.and_eq_true, Bool.and_eq_true, decide_eq_true_eq, decide_eq_true_eq] at hat
    obtain ⟨hzS, hzq, hzc⟩ := hat
    have big : 1000 ≤ sizeLine := small_le (by decide)
    cases hd1
    refine iteF ⟨_, rfl, _, .ty "str", _, _, _, rfl, .ty "str", hx.ty, kit_s K _, _, rfl, iteT ?_⟩
    refine ⟨.str z, rfl, z, "a", rfl, rfl, ?_, .str z, rfl, 1, rfl, -1, rfl, z, rfl, by omega, .str z, rfl, rfl, z, rfl, rfl, by omega, .str z, rfl, b1, fun t nt => ⟨.str z, rfl, b1, fun l1 nl far => ⟨.str z, rfl, .str z, rfl, z, z, rfl, rfl, by omega, b8, fun L nL => ⟨.int way, rfl, way, 1, rfl, rfl, ?_⟩⟩⟩⟩
    · show z.length + 1 ≤ sizeLine
      omega
    have a1 := same_upd (o := .tup [.str z]) nt
    have a2 := same_upd (o := .lst [.str z]) nl
    have a3 := same_upd (o := .lst [.str (z ++ "a"), .str (cutS z none (some (-1))), .str (Txt.upper z), .ref t, .ref l1, .str (z ++ z), .str "in"]) nL
    have hl1 := (D1.same a1).new nl
    have e1 : Dd K (Off3 d c LL) _ (.ref t) (.tuple [.str z]) := dd_newM nt [.str z] rfl
    have e2 : Dd K (Off3 d c LL) _ (.ref l1) (.list [.str z]) := dd_lstM (xs := [.str z]) nl ⟨⟨hl1.1, hl1.2, far⟩, nn a1 nl⟩ (.cons (.str z) .nil)
    have ha := app_ok hzc (y := "a") (by decide)
    have hc2 := cut_ok hzc none (some (-1))
    have hu := upper_ok hzc
    have hul : (Txt.upper z).length ≤ 3 * z.length := PyProof.Rows.len_upper z
    have hzz := app_ok hzc hzc
    have hla : (z ++ "a").length = z.length + 1 := ha.2
    obtain ⟨v', hv', qv'⟩ := fin _ [.str (z ++ "a"), .str (cutS z none (some (-1))), .str (Txt.upper z), .ref t, .ref l1, .str (z ++ z), .str "in"] _ (Keep.of (a1.trans (a2.trans a3))) ((D1.same (a1.trans (a2.trans a3))).mono (by omega))
      (.cons (.str _) (.cons (.str _) (.cons (.str _) (.cons (e1.keep (KeepO.of (a2.trans a3))) (.cons (e2.keep (KeepO.of a3)) (.cons (.str _) (.cons (.str _) .nil))))))) rfl e0
      (out7 (out_str (by omega) ha.1) (out_str (by have := hc2.2; omega) hc2.1) (out_str (by omega) hu) oT oL (out_str (by have := hzz.2; omega) hzz.1) (o0 (hS.w (w := "in") (by decide) 0) (by decide) (by decide) (by decide)))
    exact ⟨L, _, way - 1, v', rfl, rfl, .inl (.inl upd_same), hv', qv'⟩
  | int i =>
    have hat := hb.at'
    have hsw := at_shw hS.m2 _ hat
    simp only [PyData.showable, decide_eq_true_eq] at hsw
    rw [atB, decide_eq_true_eq] at hat
    cases hd1
    refine iteF ⟨_, rfl, _, .ty "str", _, _, _, rfl, .ty "str", hx.ty, kit_s K _, _, rfl, iteF ⟨_, rfl, _, .ty "int", _, _, _, rfl, .ty "int", hx.ty, kit_i K _, _, rfl, iteT ?_⟩⟩
    refine ⟨.int i, rfl, i, 1, rfl, rfl, .int i, rfl, i, 1, rfl, rfl, .int i, rfl, 0, i, rfl, rfl, .int i, rfl, .int i, .int 1, .int i, .int 1, shaped_int i, shaped_int 1, .int i, rfl, .inl ⟨i, rfl, hsw, .int i, rfl, b1, fun t nt => ⟨b8, fun L nL => ⟨.int way, rfl, way, 1, rfl, rfl, ?_⟩⟩⟩⟩
    generalize PyData.eqv (.int i) (.int 1) = be
    have a1 := same_upd (o := .tup [.int i]) nt
    have a3 := same_upd (o := .lst [.int (i + 1), .int (i - 1), .int (0 - i), .bl be, .str (PySem.Str.ofString (toString i)), .ref t, .non]) nL
    have e1 : Dd K (Off3 d c LL) _ (.ref t) (.tuple [.int i]) := dd_newM nt [.int i] rfl
    have hil : (PySem.Str.ofString (toString i)).length ≤ 150 := by
      rw [PySem.ofString_length]
      have := int_text_length_le10 (k := 42) (by decide) (show i.natAbs < 10 ^ 42 by omega)
      omega
    obtain ⟨v', hv', qv'⟩ := fin _ [.int (i + 1), .int (i - 1), .int (0 - i), .bl be, .str (PySem.Str.ofString (toString i)), .ref t, .non] _ (Keep.of (a1.trans a3)) ((D1.same (a1.trans a3)).mono (by omega))
      (.cons (.int _) (.cons (.int _) (.cons (.int _) (.cons (.bl _) (.cons (.str _) (.cons (e1.keep (KeepO.of a3)) (.cons .non .nil))))))) rfl e0
      (out7 (out_int (by omega) hm4) (out_int (by omega) hm4) (out_int (by omega) hm4) (o0 (bd_bool be) (by decide) (by decide) (by decide)) (out_str (by omega) (int_ok i)) oT (o0 bd_none (by decide) (by decide) (by decide)))
    exact ⟨L, _, way - 1, v', rfl, rfl, .inl (.inl upd_same), hv', qv'⟩
  | bool b =>
    cases hd1
    refine iteF ⟨_, rfl, _, .ty "str", _, _, _, rfl, .ty "str", hx.ty, kit_s K _, _, rfl, iteF ⟨_, rfl, _, .ty "int", _, _, _, rfl, .ty "int", hx.ty, kit_i K _, _, rfl, iteT ?_⟩⟩
    refine ⟨.bl b, rfl, _, 1, rfl, rfl, .bl b, rfl, _, 1, rfl, rfl, .bl b, rfl, 0, _, rfl, rfl, .bl b, rfl, .bool b, .int 1, .bl b, .int 1, shaped_bool b, shaped_int 1, .bl b, rfl, .inr ⟨b, rfl, .bl b, rfl, b1, fun t nt => ⟨b8, fun L nL => ⟨.int way, rfl, way, 1, rfl, rfl, ?_⟩⟩⟩⟩
    generalize PyData.eqv (.bool b) (.int 1) = be
    have hi : ∃ i : Int, (if b = true then (1 : Int) else 0) = i ∧ 0 ≤ i ∧ i ≤ 1 := by cases b <;> exact ⟨_, rfl, by decide, by decide⟩
    obtain ⟨i, ei, i0, i1⟩ := hi
    have hz : ∃ z : Str, (if b = true then ("True" : Str) else "False") = z ∧ z.length ≤ 10 ∧ z.cps.toList.all okC = true := by cases b <;> exact ⟨_, rfl, by decide, by decide⟩
    obtain ⟨z, ez, z1, z2⟩ := hz
    rw [ei]
    rw [ez]
    have a1 := same_upd (o := .tup [.bl b]) nt
    have a3 := same_upd (o := .lst [.int (i + 1), .int (i - 1), .int (0 - i), .bl be, .str z, .ref t, .non]) nL
    have e1 : Dd K (Off3 d c LL) _ (.ref t) (.tuple [.bool b]) := dd_newM nt [.bool b] rfl
    obtain ⟨v', hv', qv'⟩ := fin _ [.int (i + 1), .int (i - 1), .int (0 - i), .bl be, .str z, .ref t, .non] _ (Keep.of (a1.trans a3)) ((D1.same (a1.trans a3)).mono (by omega))
      (.cons (.int _) (.cons (.int _) (.cons (.int _) (.cons (.bl _) (.cons (.str _) (.cons (e1.keep (KeepO.of a3)) (.cons .non .nil))))))) rfl e0
      (out7 (out_int (by omega) hm4) (out_int (by omega) hm4) (out_int (by omega) hm4) (o0 (bd_bool be) (by decide) (by decide) (by decide)) (out_str (by omega) z2) oT (o0 bd_none (by decide) (by decide) (by decide)))
    exact ⟨L, _, way - 1, v', rfl, rfl, .inl (.inl upd_same), hv', qv'⟩
  | _ =>
    refine iteF ⟨_, rfl, _, .ty "str", _, _, _, rfl, .ty "str", hx.ty, kit_s K _, _, rfl, iteF ⟨_, rfl, _, .ty "int", _, _, _, rfl, .ty "int", hx.ty, kit_i K _, _, rfl, iteF ?_⟩⟩
    refine ⟨1, rfl, Nat.zero_le _, fun t nt => ⟨_, rfl, b1, fun l1 nl far => ⟨b8, fun L nL => ⟨.int way, rfl, way, 1, rfl, rfl, ?_⟩⟩⟩⟩
    have a1 := same_upd (o := .tup []) nt
    have a2 := same_upd (o := .lst [v]) nl
    have a3 := same_upd (o := .lst [.int 0, .int 1, .int (-1), .ref t, .str "None", .ref l1, .bl false]) nL
    have hl1 := (D1.same a1).new nl
    have e1 : Dd K (Off3 d c LL) _ (.ref t) (.tuple []) := dd_newM nt [] rfl
    have e2 : Dd K (Off3 d c LL) _ (.ref l1) (.list [_]) := dd_lstM (xs := [v]) nl ⟨⟨hl1.1, hl1.2, far⟩, nn a1 nl⟩ (.cons (hx.keep (KeepO.of (a1.trans a2))) .nil)
    obtain ⟨v', hv', qv'⟩ := fin _ [.int 0, .int 1, .int (-1), .ref t, .str "None", .ref l1, .bl false] _ (Keep.of (a1.trans (a2.trans a3))) ((D1.same (a1.trans (a2.trans a3))).mono (by omega))
      (.cons (.int 0) (.cons (.int 1) (.cons (.int (-1)) (.cons (e1.keep (KeepO.of (a2.trans a3))) (.cons (.str _) (.cons (e2.keep (KeepO.of a3)) (.cons (.bl false) .nil))))))) rfl e0
      (out7 (oi 0 (by decide) (by decide)) (oi 1 (by decide) (by decide)) (oi (-1) (by decide) (by decide)) oe oN oL (o0 (bd_bool false) (by decide) (by decide) (by decide)))
    exact ⟨L, _, way - 1, v', rfl, rfl, .inl (.inl upd_same), hv', qv'⟩
end
end L17

namespace L17
open PySem PySem.Spec PyProof.Rows L2 GR AD RZ WX ZE TX RVT BN
section
variable {P : Program} {w : World} {K : PySem.W.Frag} {mg : Str → Option Value} {base : Heap}
abbrev s_law_spoilt : Stmt := topS 58
abbrev N_spo : List Str := ["_law_deck_here", "_law_thing", "_law_deep", "_law_at"]
theorem sc_law_spoilt : FnScope N_spo ["_law_deck_here", "_law_thing", "_law_deep"] (defScope s_law_spoilt) := ⟨rfl, rfl, rfl, by decide +kernel, rfl, by decide +kernel, by decide +kernel⟩
theorem Sb.sub {S : List Str} {q m l s l' s' : Nat} (h : Sb S q m l s) (hl : l' ≤ l) (hs : s' ≤ s) : Sb S q m l' s' := ⟨h.toBs, h.q1, h.q2, h.m3, h.m4, Nat.le_trans hl h.l4, Nat.le_trans hs h.s4⟩
/-- a thing spoilt at most n deep -/
def sp_spo (K : PySem.W.Frag) (n : Nat) : Sp := fun vs H Q _ => ∃ (d c : Addr) (N : Int) (v : V) (x : PyData) (S : List Str) (q m l s p : Nat) (LL : Addr), vs = [.ref d, v, .int (n : Int)] ∧ Deck H d c N ∧ N + 5 * ((n : Int) + 1) < 2 ^ 58 ∧ Gd3 H d c LL ∧ Dd K (Off3 d c LL) H v x ∧ Bd S q m l s p x ∧ Sb S q m l s ∧
  ∀ H' v' x', Keep d c H H' → Deck H' d c (N + 5 * ((n : Int) + 1)) → Dd K (Off3 d c LL) H' v' x' → Out S q m l s p x' → Q v' H'
theorem ok_spoilt_step {n : Nat} {f fd' fo : Addr} {fd dd do' : FuncData} {k : Nat} (F : Fun K "_law_spoilt" "_law_spoilt" s_law_spoilt f fd)
    (Gd : FnOk P w K mg base CX0 k fd' dd ["_law_deck_here", "_law_most"] sp_draw) (gd : mg "_law_draw" = some (.ref fd')) (Kd : PySem.W.keepIn K (.ref fd') = true) (bd : Binds K dd ["_law_deck_here", "_law_most"] [])
    (Go : FnOk P w K mg base CX0 k fo do' ["_law_deck_here", "_law_thing"] (sp_off K)) (go : mg "_law_step_off" = some (.ref fo)) (Ko : PySem.W.keepIn K (.ref fo) = true) (bo : Binds K do' ["_law_deck_here", "_law_thing"] [])
    (Gb0 : FnOk P w K mg base CX0 k f fd ["_law_deck_here", "_law_thing", "_law_deep"] (fun vs H Q E => ∃ m, n = m + 1 ∧ sp_spo K m vs H Q E)) (gb : mg "_law_spoilt" = some (.ref f)) (Kb : PySem.W.keepIn K (.ref f) = true) (bb : Binds K fd ["_law_deck_here", "_law_thing", "_law_deep"] [])
    (misi : mg "isinstance" = none) (mtuple : mg "tuple" = none) (mlen : mg "len" = none) (mint : mg "int" = none) : FnOk P w K mg base CX0 (k + 1) f fd ["_law_deck_here", "_law_thing", "_law_deep"] (sp_spo K n) := by
  have nd := sc_law_spoilt.nd
  refine F.ok sc_law_spoilt (fun vs H Q E h => ?_) (fun cdv A outer s0 H vs Q E hr h => ?_)
  · obtain ⟨d, c, N, v, x, S, q, m, l, s, p, LL, rfl, _⟩ := h
    rfl
  obtain ⟨d, c, N, v, x, S, q, m, l, s, p, LL, rfl, D, hN, hLL, hd, hb, hS, qq⟩ := h
  refine ⟨_, (pss_cons (ps_if (PW.pt (pw_or (pt_cmpR op_eq (pv 2) pe_int (nomark _)) (pw_or (pt_not (pt_val (pe_callB call_isi (by rfl) misi boot_isinstance (pa_cons (pv 1) (pa_cons (pe_bltn (v := .ty "tuple") (by rfl) mtuple boot_tuple rfl) pa_nil))))) (pw_or (pt_cmpR (op_eqT0 hr.units0) (pv 1) (pe_tup pa_nil) (nomark _)) (pw_or1 (pt_cmpR op_eq (pe_call Gd hr (by rfl) gd Kd bd .nil pass0 (pa_cons (pv 0) (pa_cons pe_int pa_nil))) pe_int (nomark _)))))))
      (pss_one (ps_ret (pe_call Go hr (by rfl) go Ko bo .nil pass0 (pa_cons (pv 0) (pa_cons (pv 1) pa_nil)))))
      pss_nil)
      (pss_cons (ps_set (i := 3) nd rfl (.inl rfl) (pe_ix ix_list (pe_lst (pa_cons (pe_call Gd hr (by rfl) gd Kd bd .nil pass0 (pa_cons (pv 0) (pa_cons (pe_callB call_len_seq (by rfl) mlen PySem.boot_len (pa_cons (pv 1) pa_nil)) pa_nil))) (pa_cons (pe_op op_sub (pe_callB call_len_seq (by rfl) mlen PySem.boot_len (pa_cons (pv 1) pa_nil)) pe_int) pa_nil))) (pe_callTy call_int1 (by rfl) mint boot_int (pa_cons (pe_cmpR op_eq (pe_call Gd hr (by rfl) gd Kd bd .nil pass0 (pa_cons (pv 0) (pa_cons pe_int pa_nil))) pe_int (nomark _)) pa_nil)) (fun _ _ => rfl)))
      (pss_one (ps_ret (pe_op op_catA (pe_op op_catA (pe_slice sl_tupA (pv 1) po_none (po_some (pv 3))) (pe_tup (pa_cons (pe_call Gb0 hr (by rfl) gb Kb bb .nil pass0 (pa_cons (pv 0) (pa_cons (pe_ix ix_tup (pv 1) (pv 3) (fun _ _ => rfl)) (pa_cons (pe_op op_sub (pv 2) pe_int) pa_nil)))) pa_nil))) (pe_slice sl_tupA (pv 1) (po_some (pe_op op_add (pv 3) pe_int)) po_none)))))), ?_⟩
  have b1 : 1 ≤ sizeLine := small_le (by decide)
  have off : ∀ (E' : XK) (H2 : Hp) (M : Int), Keep d c H H2 → Deck H2 d c M → M + 2 ≤ N + 5 * ((n : Int) + 1) → sp_off K [.ref d, v] H2 Q E' := fun E' H2 M k2 D2 hM =>
    ⟨d, c, M, v, x, S, q, m, l, s, p, LL, rfl, D2, by omega, hLL.keep k2, hd.keep (k2.off3 D), hb, hS, fun H' v' x' k' D' h' o' => qq H' v' x' (k2.trans k') (D'.mono (by omega)) h' o'⟩
  refine ⟨.int (n : Int), rfl, rfl, _, rfl, ?_⟩
  rw [show decide (V.int (n : Int) = V.int 0) = decide (n = 0) from decide_eq_decide.mpr ⟨fun e => by injection e with e; omega, fun e => by rw [e]; rfl⟩]
  by_cases c0 : n = 0
  · rw [decide_eq_true c0]
    exact iteT (iteT ⟨.ref d, rfl, v, rfl, off E H N (fun b o _ _ e => e) D (by omega)⟩)
  rw [decide_eq_false c0]
  refine iteF ⟨v, rfl, v, .ty "tuple", _, _, _, rfl, .ty "tuple", hd.ty, kit_t K x, _, rfl, ?_⟩
  cases x with
  | tuple ds =>
    obtain ⟨a, xs, rfl, hs, ha⟩ := L17.Dd.tup_inv hd
    refine iteF ⟨.ref a, rfl, Nat.zero_le _, fun e0 ne0 => ?_⟩
    have se := same_upd (o := .tup []) ne0
    refine ⟨a, e0, xs, rfl, rfl, (KeepT.of se).seqt hs, .inl (.inl upd_same), _, rfl, ?_⟩
    have De := D.same se
    revert De se
    generalize upd H e0 (.tup []) = H1
    intro se De
    cases hem : xs.isEmpty with
    | true => exact iteT (iteT ⟨.ref d, rfl, .ref a, rfl, off E H1 N (Keep.of se) De (by omega)⟩)
    | false =>
    have hne : xs ≠ [] := fun e => by rw [e] at hem; cases hem
    have hpos : 0 < xs.length := List.length_pos_iff.mpr hne
    refine iteF ⟨.ref d, rfl, d, c, N, 6, rfl, De, by omega, by decide, by decide, fun H2 r2 k2 D2 _ _ => ⟨rfl, _, rfl, ?_⟩⟩
    have k02 := (Keep.of se).trans k2
    refine ite2 (fun _ => ⟨.ref d, rfl, .ref a, rfl, off E H2 (N + 1) k02 D2 (by omega)⟩) (fun _ => ?_)
    have lx := ha.len
    have hbl := hb.len
    have hbs := hb.sz
    have hbd := hb.dep
    rw [wl] at hbl
    rw [L17.sz] at hbs
    simp only [PyData.depth] at hbd
    obtain ⟨p', rfl⟩ : ∃ p', p = p' + 1 := ⟨p - 1, by omega⟩
    have B : Bds S q m (l - 3) (s - 1) p' ds := hb.inv
    have hsz := szs_len ds
    have hs4 := hS.s4
    have hl4 := hS.l4
    have hxl : xs.length ≤ 1000000 := by omega
    have big : 4000000 ≤ sizeLine := by rw [sizeLine_eq]; omega
    have hs2 := (k02.t D).seqt hs
    refine ⟨.ref d, rfl, .ref a, rfl, a, xs, rfl, .inr hs2, d, c, N + 1, _, rfl, D2, by omega, by omega, by omega, fun H3 at1' k3 D3 c0' c1' => ?_⟩
    have hs3 := (k3.t D2).seqt hs2
    refine ⟨.ref a, rfl, a, xs, rfl, .inr hs3, _, 1, rfl, rfl, small_le (show 2 ≤ 1000 by decide), fun L nL => ?_⟩
    have sL := same_upd (o := .lst [.int at1', .int (((xs.length : Nat) : Int) - 1)]) nL
    have hL : upd H3 L (.lst [.int at1', .int (((xs.length : Nat) : Int) - 1)]) L = some (.lst [.int at1', .int (((xs.length : Nat) : Int) - 1)]) := upd_same
    have hLn := D3.new nL
    have D4 := D3.same sL
    have k24 := k3.trans (Keep.of sL)
    revert hL D4 k24
    generalize upd H3 L (.lst [.int at1', .int (((xs.length : Nat) : Int) - 1)]) = H4
    intro hL D4 k24
    refine ⟨.ref d, rfl, d, c, _, 4, rfl, D4, by omega, by decide, by decide, fun H5 r5 k5 D5 _ _ => ⟨rfl, .inr ⟨_, rfl, ?_⟩⟩⟩
    have hL5 := k5 _ _ hLn.1 hLn.2 hL
    have k05 := (k02.trans k24).trans k5
    obtain ⟨j, hj, hat⟩ : ∃ j : Nat, j < xs.length ∧ atI [V.int at1', V.int (((xs.length : Nat) : Int) - 1)] (if decide (V.int r5 = V.int 0) = true then 1 else 0) = some (.int (j : Int)) := by
      obtain ⟨i, hi⟩ := Int.eq_ofNat_of_zero_le c0'
      by_cases e : V.int r5 = V.int 0
      · rw [decide_eq_true e]
        refine ⟨xs.length - 1, by omega, ?_⟩
        rw [show (((xs.length - 1 : Nat)) : Int) = ((xs.length : Nat) : Int) - 1 by omega]
        exact at1
      · rw [decide_eq_false e]
        exact ⟨i, by omega, hi ▸ at0⟩
    refine ⟨L, _, _, .int (j : Int), rfl, rfl, .inl (.inl hL5), hat, ?_⟩
    have hs5 := (k05.t D).seqt hs
    have ha5 := ha.keep (k05.off3 D)
    obtain ⟨xj, hxj⟩ : ∃ xj, ds[j]? = some xj := ⟨ds[j]'(by omega), List.getElem?_eq_getElem _⟩
    obtain ⟨vj, hvj⟩ : ∃ vj, xs[j]? = some vj := ⟨xs[j], List.getElem?_eq_getElem _⟩
    have ar := B.around hxj
    have arl := ar.len
    have ars := ar.sz
    refine ⟨.ref a, rfl, .int (j : Int), rfl, (j : Int), rfl, slice_any hs5 fun H6 p6 s6 h6 => ⟨.ref d, rfl, .ref a, rfl, .int (j : Int), rfl, a, xs, (j : Int), vj, rfl, rfl, (KeepT.of s6).seqt hs5, atI_nat hvj, .int (n : Int), rfl, (n : Int), 1, rfl, rfl, ?_⟩⟩
    have h6' : SqT K H6 p6 (xs.take j) := by rw [← cut_to (Nat.le_of_lt hj)]; exact h6
    obtain ⟨y, hy, hyd⟩ := dd_at (ha5.keep (KeepO.of (ok := Off3 d c LL) s6)) hvj
    rw [hxj] at hy
    obtain rfl : xj = y := Option.some.inj hy
    have D6 := D5.same s6
    have hby : Bd S q m (wl xj) (L17.sz xj) p' xj := ⟨ar.elx, Nat.le_refl _, Nat.le_refl _⟩
    have en : ((n - 1 : Nat) : Int) = (n : Int) - 1 := by omega
    refine ⟨n - 1, by omega, d, c, _, vj, xj, S, q, m, wl xj, L17.sz xj, p', LL, by rw [en]; rfl, D6, by omega, (hLL.keep k05).keep (Keep.of s6), hyd, hby, hS.sub (by omega) (by omega), fun H7 v7 x7 k7 D7 hd7 ho7 => ⟨b1, fun t8 n8 => ?_⟩⟩
    have s8 := same_upd (o := .tup [v7]) n8
    have kT : KeepT H6 H7 := k7.t D6
    have l1 : (xs.take j).length ≤ 1000000 := by rw [List.length_take]; omega
    have l2 : (xs.drop (j + 1)).length ≤ 1000000 := by rw [List.length_drop]; omega
    refine cat_any ((kT.trans (KeepT.of s8)).seqt h6') (.inl (.inl upd_same)) (by rw [List.length_singleton]; omega) fun H9 p9 s9 h9 => ⟨.ref a, rfl, .int (j : Int), rfl, (j : Int), 1, rfl, rfl, (j : Int) + 1, rfl, slice_from ((((KeepT.of s6).trans kT).trans (KeepT.of (s8.trans s9))).seqt hs5) fun Ha pa sa ha' => ?_⟩
    have ha'' : SqT K Ha pa (xs.drop (j + 1)) := by
      have e : cutV xs (some ((j : Int) + 1)) none = xs.drop (j + 1) := cut_from' xs (j + 1)
      rw [← e]
      exact ha'
    refine cat_any ((KeepT.of sa).seqt h9) ha'' (by rw [List.length_append, List.length_singleton]; omega) fun Hb pb sb hb' => ?_
    have s7b := s8.trans (s9.trans (sa.trans sb))
    have k5b : Keep d c H5 Hb := (Keep.of s6).trans (k7.trans (Keep.of s7b))
    have hk5 := ha5.keep (k5b.off3 D5)
    have dall : DdAll K (Off3 d c LL) Hb ((xs.take j ++ [v7]) ++ xs.drop (j + 1)) ((ds.take j ++ [x7]) ++ ds.drop (j + 1)) := ((dd_take j hk5).app (.cons (hd7.keep (KeepO.of s7b)) .nil)).app (dd_drop (j + 1) hk5)
    refine qq Hb (.ref pb) _ (k05.trans k5b) ((D7.same s7b).mono (by omega)) (.tup hb' dall) ?_
    obtain ⟨z, hz⟩ := ho7
    have Bw : Bds (z :: S) (3 * q) (m + 1) (l - 3) (s - 1) p' ds := B.wide (fun u hu => List.mem_cons_of_mem _ hu) (by omega) (by omega) (Nat.le_refl _) (Nat.le_refl _) (Nat.le_refl _)
    have bp := bend_put (k := 3 * q + 200) (n := 10) (r := 3) (Bw.around hxj) (hz.mono (by omega) (by omega) (Nat.le_refl _))
    exact ⟨z, (bp.tup).mono (by omega) (by omega) (by omega)⟩
  | _ => exact iteT (iteT ⟨.ref d, rfl, v, rfl, off E H N (fun b o _ _ e => e) D (by omega)⟩)
theorem ok_spoilt {f fd' fo : Addr} {fd dd do' : FuncData} {k : Nat} (F : Fun K "_law_spoilt" "_law_spoilt" s_law_spoilt f fd)
    (Gd : FnOk P w K mg base CX0 k fd' dd ["_law_deck_here", "_law_most"] sp_draw) (gd : mg "_law_draw" = some (.ref fd')) (Kd : PySem.W.keepIn K (.ref fd') = true) (bd : Binds K dd ["_law_deck_here", "_law_most"] [])
    (Go : FnOk P w K mg base CX0 k fo do' ["_law_deck_here", "_law_thing"] (sp_off K)) (go : mg "_law_step_off" = some (.ref fo)) (Ko : PySem.W.keepIn K (.ref fo) = true) (bo : Binds K do' ["_law_deck_here", "_law_thing"] [])
    (gb : mg "_law_spoilt" = some (.ref f)) (Kb : PySem.W.keepIn K (.ref f) = true) (bb : Binds K fd ["_law_deck_here", "_law_thing", "_law_deep"] [])
    (misi : mg "isinstance" = none) (mtuple : mg "tuple" = none) (mlen : mg "len" = none) (mint : mg "int" = none) : ∀ n : Nat, FnOk P w K mg base CX0 (k + n + 1) f fd ["_law_deck_here", "_law_thing", "_law_deep"] (sp_spo K n)
  | 0 => ok_spoilt_step (n := 0) (k := k) F Gd gd Kd bd Go go Ko bo (ok_none fun vs H Q E ⟨m, h, _⟩ => by omega) gb Kb bb misi mtuple mlen mint
  | n + 1 => by
    have ih := ok_spoilt F Gd gd Kd bd Go go Ko bo gb Kb bb misi mtuple mlen mint n
    refine ok_spoilt_step (n := n + 1) (k := k + n + 1) F (Gd.mono (by omega)) gd Kd bd (Go.mono (by omega)) go Ko bo (ih.imp ?_) gb Kb bb misi mtuple mlen mint
    rintro vs H Q E ⟨m, hm, h⟩
    obtain rfl : n = m := by omega
    exact h
end
end L17

namespace L17
open PySem PySem.Spec PyProof.Rows L2 GR AD RZ WX ZE TX RVT BN
/-! ### expressions that give known data -/
/-- whatever the heap behind H0, the expression gives x -/
def Gv (K : PySem.W.Frag) (ok : Addr → Prop) (H0 : Hp) (σ : L2.St) (t : TE) (x : PyData) : Prop := ∀ (H : Hp) (Q : VK), Same H0 H → (∀ H' v, Same H H' → Dd K ok H' v x → Q v H') → t σ H Q
def Ga (K : PySem.W.Frag) (ok : Addr → Prop) (H0 : Hp) (σ : L2.St) (t : TA) (xs : List PyData) : Prop := ∀ (H : Hp) (R : List V → Hp → Prop), Same H0 H → (∀ H' vs, Same H H' → DdAll K ok H' vs xs → R vs H') → t σ H R
theorem cut_to' (xs : List V) (j : Nat) : cutV xs none (some (j : Int)) = xs.take j := by
  unfold cutV
  rw [HT.sIx_none, six_hi, List.drop_zero, Nat.sub_zero]
  by_cases h : j ≤ xs.length
  · rw [Nat.min_eq_left h]
  · rw [Nat.min_eq_right (by omega), List.take_of_length_le (Nat.le_refl _), List.take_of_length_le (by omega)]
theorem atD0 {α : Type} {x : α} {l : List α} : atI (x :: l) 0 = some x := atI_nat (j := 0) rfl
theorem atD1 {α : Type} {x y : α} {l : List α} : atI (x :: y :: l) 1 = some y := atI_nat (j := 1) rfl
theorem dd_atI {K : PySem.W.Frag} {ok : Addr → Prop} {H : Hp} {vs : List V} {xs : List PyData} (h : DdAll K ok H vs xs) {i : Int} {x : PyData} (hx : atI xs i = some x) : ∃ v, atI vs i = some v ∧ Dd K ok H v x := by
  have hl := h.len
  unfold atI at hx ⊢
  rw [hl]
  cases e : ixN xs.length i with
  | none => rw [e] at hx; cases hx
  | some j =>
    rw [e] at hx
    have hx' : xs[j]? = some x := hx
    have hj := (List.getElem?_eq_some_iff.mp hx').1
    obtain ⟨y, hy, hyd⟩ := dd_at h (List.getElem?_eq_getElem (show j < vs.length by omega))
    rw [hx'] at hy
    obtain rfl : x = y := Option.some.inj hy
    exact ⟨vs[j], List.getElem?_eq_getElem _, hyd⟩
theorem dd_tup {K : PySem.W.Frag} {ok : Addr → Prop} {H : Hp} {a : Addr} {us : List V} {xs : List PyData} (h : SqT K H a us) (h2 : DdAll K ok H us xs) : Dd K ok H (.ref a) (.tuple xs) := .tup h h2
section
variable {K : PySem.W.Frag} {ok : Addr → Prop} {H0 : Hp} {σ : L2.St}
theorem gv_c {v : V} {x : PyData} (h : ∀ H, Dd K ok H v x) : Gv K ok H0 σ (tC v) x := fun H Q _ q => q H v (fun _ _ e => e) (h H)
theorem gv_i (i : Int) : Gv K ok H0 σ (tC (.int i)) (.int i) := gv_c fun _ => .int i
theorem gv_s (z : Str) : Gv K ok H0 σ (tC (.str z)) (.str z) := gv_c fun _ => .str z
theorem gv_b (b : Bool) : Gv K ok H0 σ (tC (.bl b)) (.bool b) := gv_c fun _ => .bl b
theorem gv_var {i : Nat} {v : V} {x : PyData} (h : σ[i]? = some (some v)) (hd : Dd K ok H0 v x) : Gv K ok H0 σ (tVar i) x := fun H Q s q => ⟨v, h, q H v (fun _ _ e => e) (hd.keep (KeepO.of s))⟩
theorem ga_nil : Ga K ok H0 σ tNil [] := fun H R _ q => q H [] (fun _ _ e => e) .nil
theorem ga_cons {t : TE} {ta : TA} {x : PyData} {xs : List PyData} (h : Gv K ok H0 σ t x) (h2 : Ga K ok H0 σ ta xs) : Ga K ok H0 σ (tCons t ta) (x :: xs) := fun H R s q =>
  h H _ s fun H1 v s1 hv => h2 H1 _ (s.trans s1) fun H2 vs s2 hvs => q H2 (v :: vs) (s1.trans s2) (.cons (hv.keep (KeepO.of s2)) hvs)
theorem gv_tup {t : TA} {xs : List PyData} (h : Ga K ok H0 σ t xs) (hl : xs.length ≤ 1000 := by exact Nat.le_of_ble_eq_true rfl) : Gv K ok H0 σ (tTup t) (.tuple xs) := fun H Q s q =>
  h H _ s fun H1 vs s1 hvs => ⟨small_le (by rw [hvs.len]; exact hl), fun p np => by
    have sp := same_upd (o := .tup vs) np
    exact q _ _ (s1.trans sp) (.tup (.inl (.inl upd_same)) (hvs.keep (KeepO.of sp)))⟩
theorem gv_cat {t u : TE} {xs ys : List PyData} (h : Gv K ok H0 σ t (.tuple xs)) (h2 : Gv K ok H0 σ u (.tuple ys)) (hl : xs.length + ys.length ≤ 4000000 := by (try simp only [List.length_append, List.length_cons, List.length_nil, List.length_take, List.length_drop]); omega) : Gv K ok H0 σ (tOp (rCatA K) t u) (.tuple (xs ++ ys)) := fun H Q s q =>
  h H _ s fun H1 v s1 hv => h2 H1 _ (s.trans s1) fun H2 v2 s2 hv2 => by
    obtain ⟨a, us, rfl, ha, hau⟩ := L17.Dd.tup_inv (hv.keep (KeepO.of s2))
    obtain ⟨b, ws, rfl, hb, hbw⟩ := L17.Dd.tup_inv hv2
    have l1 := hau.len
    have l2 := hbw.len
    exact cat_any ha hb (by rw [l1, l2, sizeLine_eq]; omega) fun H3 p s3 hp => q H3 (.ref p) (s1.trans (s2.trans s3)) (.tup hp ((hau.app hbw).keep (KeepO.of s3)))
theorem gv_add {t u : TE} {i j : Int} (h : Gv K ok H0 σ t (.int i)) (h2 : Gv K ok H0 σ u (.int j)) : Gv K ok H0 σ (tOp (rI0 fun i j => .int (i + j)) t u) (.int (i + j)) := fun H Q s q =>
  h H _ s fun H1 v s1 hv => h2 H1 _ (s.trans s1) fun H2 v2 s2 hv2 => by
    cases hv
    cases hv2
    exact ⟨i, j, rfl, rfl, q H2 _ (s1.trans s2) (.int _)⟩
theorem gv_neg {t : TE} {i : Int} (h : Gv K ok H0 σ t (.int i)) : Gv K ok H0 σ (tUn (rU fun i => .int (-i)) t) (.int (-i)) := fun H Q s q =>
  h H _ s fun H1 v s1 hv => by
    cases hv
    exact ⟨i, rfl, q H1 _ s1 (.int _)⟩
theorem gv_ix {t u : TE} {xs : List PyData} {i : Int} {x : PyData} (h : Gv K ok H0 σ t (.tuple xs)) (h2 : Gv K ok H0 σ u (.int i)) (hx : atI xs i = some x) : Gv K ok H0 σ (tOp (rIxT K) t u) x := fun H Q s q =>
  h H _ s fun H1 v s1 hv => h2 H1 _ (s.trans s1) fun H2 v2 s2 hv2 => by
    obtain ⟨a, us, rfl, ha, hau⟩ := L17.Dd.tup_inv (hv.keep (KeepO.of s2))
    cases hv2
    obtain ⟨w, hw, hwd⟩ := dd_atI hau hx
    exact ⟨a, us, i, w, rfl, rfl, ha, hw, q H2 w (s1.trans s2) hwd⟩
theorem gv_to {t u : TE} {xs : List PyData} {j : Nat} (h : Gv K ok H0 σ t (.tuple xs)) (h2 : Gv K ok H0 σ u (.int (j : Int))) : Gv K ok H0 σ (L2.tSl (rSlA K) t tNoPart (tPart u)) (.tuple (xs.take j)) := fun H Q s q =>
  h H _ s fun H1 v s1 hv => by
    obtain ⟨a, us, rfl, ha, hau⟩ := L17.Dd.tup_inv hv
    have l1 := hau.len
    exact h2 H1 _ (s.trans s1) fun H2 v2 s2 hv2 => by
      cases hv2
      refine ⟨(j : Int), rfl, slice_any ((KeepT.of s2).seqt ha) fun H3 p s3 hp => ?_⟩
      rw [cut_to'] at hp
      exact q H3 _ (s1.trans (s2.trans s3)) (.tup hp ((dd_take j hau).keep (KeepO.of (s2.trans s3))))
theorem gv_from {t u : TE} {xs : List PyData} {j : Nat} (h : Gv K ok H0 σ t (.tuple xs)) (h2 : Gv K ok H0 σ u (.int (j : Int))) : Gv K ok H0 σ (L2.tSl (rSlA K) t (tPart u) tNoPart) (.tuple (xs.drop j)) := fun H Q s q =>
  h H _ s fun H1 v s1 hv => by
    obtain ⟨a, us, rfl, ha, hau⟩ := L17.Dd.tup_inv hv
    exact h2 H1 _ (s.trans s1) fun H2 v2 s2 hv2 => by
      cases hv2
      refine ⟨(j : Int), rfl, slice_from ((KeepT.of s2).seqt ha) fun H3 p s3 hp => ?_⟩
      rw [cut_from'] at hp
      exact q H3 _ (s1.trans (s2.trans s3)) (.tup hp ((dd_drop j hau).keep (KeepO.of (s2.trans s3))))
theorem gv_rev {t : TE} {xs : List PyData} (h : Gv K ok H0 σ t (.tuple xs)) : Gv K ok H0 σ (tRevT K t) (.tuple xs.reverse) := fun H Q s q =>
  h H _ s fun H1 v s1 hv => by
    obtain ⟨a, us, rfl, ha, hau⟩ := L17.Dd.tup_inv hv
    refine ⟨a, us, rfl, ha, fun p np => ?_⟩
    have sp := same_upd (o := .tup us.reverse) np
    exact q _ _ (s1.trans sp) (.tup (.inl (.inl upd_same)) ((dd_rev hau).keep (KeepO.of sp)))
def rListS (K : PySem.W.Frag) : List V → Hp → VK → Prop := fun xs H Q => ∃ p ys, xs = [.ref p] ∧ SqT K H p ys ∧ ∀ l, H l = none → l ≠ sysModules → Q (.ref l) (upd H l (.lst ys))
theorem gv_list {t : TE} {xs : List PyData} (h : Gv K ok H0 σ t (.tuple xs)) (hok : ∀ H p, Same H0 H → H p = none → p ≠ sysModules → ok p) : Gv K ok H0 σ (tCB (rListS K) (tCons t tNil)) (.list xs) := fun H Q s q =>
  h H _ s fun H1 v s1 hv => by
    obtain ⟨a, us, rfl, ha, hau⟩ := L17.Dd.tup_inv hv
    refine ⟨a, us, rfl, ha, fun p np far => ?_⟩
    have sp := same_upd (o := .lst us) np
    exact q _ _ (s1.trans sp) (.lst upd_same (hok _ p (s.trans s1) np far) (hau.keep (KeepO.of sp)))
/-- a new list of such -/
theorem gl_lst {t : TA} {xs : List PyData} (h : Ga K ok H0 σ t xs) (hl : xs.length ≤ 1000) {H : Hp} {Q : VK} (s : Same H0 H) (q : ∀ H' L vs, Same H H' → H L = none → H' L = some (.lst vs) → DdAll K ok H' vs xs → Q (.ref L) H') : tLst t σ H Q :=
  h H _ s fun H1 vs s1 hvs => ⟨small_le (by rw [hvs.len]; exact hl), fun p np => by
    have sp := same_upd (o := .lst vs) np
    exact q _ p vs (s1.trans sp) (s1.free np) upd_same (hvs.keep (KeepO.of sp))⟩
/-- a list, and more behind it -/
theorem gl_more {i : Nat} {L : Addr} {us : List V} {ys : List PyData} {t : TA} {xs : List PyData} (hi : σ[i]? = some (some (.ref L))) (hL : H0 L = some (.lst us)) (hu : DdAll K ok H0 us ys) (h : Ga K ok H0 σ t xs) (hl : ys.length + xs.length ≤ 1000) {H : Hp} {Q : VK} (s : Same H0 H)
    (q : ∀ H' L' vs, Same H H' → H L' = none → H' L' = some (.lst vs) → DdAll K (fun b => ok b ∧ b ≠ L') H' vs (ys ++ xs) → Q (.ref L') H') : tOp rCat (tVar i) (tLst t) σ H Q := by
  refine ⟨.ref L, hi, gl_lst h (by omega) s fun H1 L1 vs s1 n1 hL1 hvs => ?_⟩
  have l1 := hu.len
  have l2 := hvs.len
  refine ⟨L, L1, us, vs, rfl, rfl, s1 _ _ (s _ _ hL), hL1, small_le (by omega), fun p np => ?_⟩
  have sp := same_upd (o := .lst (us ++ vs)) np
  exact q _ p _ (s1.trans sp) (s1.free np) upd_same ((((hu.keep (KeepO.of (s.trans s1))).app hvs).off np).keep (KeepO.of sp))
end
/-- what is new behind is new before -/
theorem fresh_back {H H' : Hp} {d c L : Addr} {N : Int} (k : Keep d c H H') (D : Deck H' d c N) (h : H' L = none) : H L = none := by
  cases e : H L with
  | none => rfl
  | some o =>
    by_cases h1 : L = d
    · subst h1
      exact absurd rfl (D.new h).1
    · by_cases h2 : L = c
      · subst h2
        exact absurd rfl (D.new h).2
      · rw [k _ _ h1 h2 e] at h
        cases h
end L17

set_option maxHeartbeats 8000000
namespace L17
open PySem PySem.Spec PyProof.Rows L2 GR AD RZ WX ZE TX RVT BN
/-! ### what is forged -/
abbrev prD (a b : List PyData) : PyData := .tuple [.tuple a, .tuple b]
abbrev ltD (z : Str) (i : Int) : PyData := .tuple [.str "let", .str z, .tuple [.str "int", .int i]]
abbrev tlD (z : Str) : PyData := .tuple [.str "tell", .tuple [.str "var", .str z]]
abbrev ndD : PyData := .tuple [.str "need", .tuple [.str "int", .int 1]]
abbrev lnD (i : Int) (x : PyData) : PyData := .tuple [.int i, x]
abbrev fo1 (M E : List PyData) (mv : List PyData) : List PyData := [prD mv E, prD (M ++ [.int 10001]) E, prD (M ++ [.int 10000]) E, prD (M.drop 1) E]
abbrev fo2 (M E : List PyData) : List PyData := [prD ([.int 0] ++ M) E, prD (M ++ M.take 1) E]
abbrev fo3 (M E : List PyData) (en : Int) : List PyData := [prD M (E ++ [lnD en ndD])]
abbrev fo4 (M E : List PyData) (en : Int) (tw : List PyData) : List PyData := [prD (M ++ [.int (en + 2)]) tw, prD (M ++ [.int (en + 1), .int (en + 2)]) tw, prD M E.reverse]
abbrev fo5 (M E : List PyData) : List PyData := [prD M (E.take 1 ++ E), .tuple [.list M, .tuple E], .tuple [.tuple M, .list E], .tuple [.tuple M, .tuple E, .tuple []]]
abbrev fo6 (M E : List PyData) (en : Int) (us : List PyData) : List PyData := [prD (M ++ [.int (en + 2)]) (E ++ us), prD (M ++ [.int (en + 1), .int (en + 2)]) (E ++ us)]
abbrev fo7 (M E : List PyData) (en : Int) (z : Str) : List PyData := [prD (M ++ [.int (en + 2)]) (E ++ [lnD en (tlD z), lnD (en + 1) (ltD z 1)]), .tuple [.bool true, .tuple E], .tuple [.tuple M]]
/-- what the slots hold -/
structure FoF (K : PySem.W.Frag) (H : Hp) (mp ep : Addr) (v4 v5 v7 : V) (M E mv lt tw : List PyData) : Prop where
  hM : Dd K F0 H (.ref mp) (.tuple M)
  hE : Dd K F0 H (.ref ep) (.tuple E)
  hv : Dd K F0 H v4 (.tuple mv)
  hl : Dd K F0 H v5 (.tuple lt)
  ht : Dd K F0 H v7 (.tuple tw)
theorem FoF.keep {K : PySem.W.Frag} {H H' : Hp} {mp ep : Addr} {v4 v5 v7 : V} {M E mv lt tw : List PyData} (h : FoF K H mp ep v4 v5 v7 M E mv lt tw) (k : KeepT H H') : FoF K H' mp ep v4 v5 v7 M E mv lt tw :=
  have ko : KeepO F0 H H' := ⟨k.1, k.2, fun _ _ h => h.elim⟩
  ⟨h.hM.keep ko, h.hE.keep ko, h.hv.keep ko, h.hl.keep ko, h.ht.keep ko⟩
section
variable {P : Program} {w : World} {K : PySem.W.Frag} {mg : Str → Option Value} {base : Heap}
abbrev s_law_forged : Stmt := topS 59
abbrev N_fo : List Str := ["_law_deck_here", "_law_made", "_law_name", "_law_marks", "_law_lines", "_law_at", "_law_step", "_law_moved", "_law_let", "_law_end", "_law_twice", "_law_some", "_law_used"]
theorem sc_law_forged : FnScope N_fo ["_law_deck_here", "_law_made", "_law_name"] (defScope s_law_forged) := ⟨rfl, rfl, rfl, by decide +kernel, rfl, by decide +kernel, by decide +kernel⟩
def sp_fo (K : PySem.W.Frag) : Sp := fun vs H Q _ => ∃ (d c pm : Addr) (N : Int) (z : Str) (M E : List PyData) (en : Int), vs = [.ref d, .ref pm, .str z] ∧ Deck H d c N ∧ N < 2 ^ 58 ∧ Dd K F0 H (.ref pm) (.tuple [.tuple M, .tuple E]) ∧ M ≠ [] ∧ M.all isI = true ∧ M.length ≤ 10 ∧ E.length ≤ 100 ∧ atI M (-1) = some (.int en) ∧
  ∀ H' L vs (j : Nat) (i : Int) (st : Int), Keep d c H H' → Deck H' d c (N + 2) → H L = none → H' L = some (.lst vs) → M[j]? = some (.int i) → (st = 1 ∨ st = -1) →
    DdAll K (fun b => Off d c b ∧ b ≠ L) H' vs (fo1 M E ((M.take j ++ [.int (i + st)]) ++ M.drop (j + 1)) ++ fo2 M E ++ fo3 M E en ++ fo4 M E en (E ++ [lnD en (ltD z 1), lnD (en + 1) (ltD z 2)]) ++ fo5 M E ++ fo6 M E en [lnD en (ltD z 1), lnD (en + 1) (tlD z)] ++ fo7 M E en z) → Q (.ref L) H'
theorem ok_forged {f fd' fp : Addr} {fd dd dp : FuncData} {k : Nat} (F : Fun K "_law_forged" "_law_forged" s_law_forged f fd)
    (Gd : FnOk P w K mg base CX0 k fd' dd ["_law_deck_here", "_law_most"] sp_draw) (gd : mg "_law_draw" = some (.ref fd')) (Kd : PySem.W.keepIn K (.ref fd') = true) (bd : Binds K dd ["_law_deck_here", "_law_most"] [])
    (Gp : FnOk P w K mg base CX0 k fp dp ["_law_deck_here", "_law_some"] (sp_pick K)) (gp : mg "_law_pick" = some (.ref fp)) (Kp : PySem.W.keepIn K (.ref fp) = true) (bp : Binds K dp ["_law_deck_here", "_law_some"] [])
    (mlen : mg "len" = none) (mlist : mg "list" = none) : FnOk P w K mg base CX0 (k + 1) f fd ["_law_deck_here", "_law_made", "_law_name"] (sp_fo K) := by
  have nd := sc_law_forged.nd
  refine F.ok sc_law_forged (fun vs H Q E h => ?_) (fun cdv A outer s0 H vs Q E' hr h => ?_)
  · obtain ⟨d, c, pm, N, z, M, E, en, rfl, _⟩ := h
    rfl
  obtain ⟨d, c, pm, N, z, M, E, en, rfl, D, hN, hpm, hne, hMi, hM10, hE100, hen, qq⟩ := h
  refine ⟨_, (pss_cons (ps_asg (pv 1) (pg_tup rfl (pgs_cons (pg_name (i := 3) (x := "_law_marks") nd rfl (Or.inl rfl)) (pgs_cons (pg_name (i := 4) (x := "_law_lines") nd rfl (Or.inl rfl)) pgs_nil))))
      (pss_cons (ps_set (i := 5) nd rfl (.inl rfl) (pe_call Gd hr (by rfl) gd Kd bd .nil pass0 (pa_cons (pv 0) (pa_cons (pe_callB call_len_seq (by rfl) mlen PySem.boot_len (pa_cons (pv 3) pa_nil)) pa_nil))))
      (pss_cons (ps_set (i := 6) nd rfl (.inl rfl) (pe_call Gp hr (by rfl) gp Kp bp .nil pass0 (pa_cons (pv 0) (pa_cons (pe_lst (pa_cons pe_int (pa_cons (pe_un un_neg pe_int) pa_nil))) pa_nil))))
      (pss_cons (ps_set (i := 7) nd rfl (.inl rfl) (pe_op op_catA (pe_op op_catA (pe_slice sl_tupA (pv 3) po_none (po_some (pv 5))) (pe_tup (pa_cons (pe_op op_add (pe_ix ix_tup (pv 3) (pv 5) (fun _ _ => rfl)) (pv 6)) pa_nil))) (pe_slice sl_tupA (pv 3) (po_some (pe_op op_add (pv 5) pe_int)) po_none)))
      (pss_cons (ps_set (i := 8) nd rfl (.inl rfl) (pe_tup (pa_cons (pe_tup (pa_cons pe_str (pa_cons (pv 2) (pa_cons (pe_tup (pa_cons pe_str (pa_cons pe_int pa_nil))) pa_nil)))) (pa_cons (pe_tup (pa_cons pe_str (pa_cons (pv 2) (pa_cons (pe_tup (pa_cons pe_str (pa_cons pe_int pa_nil))) pa_nil)))) pa_nil))))
      (pss_cons (ps_set (i := 9) nd rfl (.inl rfl) (pe_ix ix_tup (pv 3) (pe_un un_neg pe_int) (fun _ _ => rfl)))
      (pss_cons (ps_set (i := 10) nd rfl (.inl rfl) (pe_op op_catA (pv 4) (pe_tup (pa_cons (pe_tup (pa_cons (pv 9) (pa_cons (pe_ix ix_tup (pv 8) pe_int (fun _ _ => rfl)) pa_nil))) (pa_cons (pe_tup (pa_cons (pe_op op_add (pv 9) pe_int) (pa_cons (pe_ix ix_tup (pv 8) pe_int (fun _ _ => rfl)) pa_nil))) pa_nil)))))
      (Evl.pss_cut (ps_set (i := 11) nd rfl (.inl rfl) (pe_lst (pa_cons (pe_tup (pa_cons (pv 7) (pa_cons (pv 4) pa_nil))) (pa_cons (pe_tup (pa_cons (pe_op op_catA (pv 3) (pe_tup (pa_cons pe_int pa_nil))) (pa_cons (pv 4) pa_nil))) (pa_cons (pe_tup (pa_cons (pe_op op_catA (pv 3) (pe_tup (pa_cons pe_int pa_nil))) (pa_cons (pv 4) pa_nil))) (pa_cons (pe_tup (pa_cons (pe_slice sl_tupA (pv 3) (po_some pe_int) po_none) (pa_cons (pv 4) pa_nil))) pa_nil))))))
      (Evl.pss_cut (ps_set (i := 11) nd rfl (.inl rfl) (pe_op op_cat (pv 11) (pe_lst (pa_cons (pe_tup (pa_cons (pe_op op_catA (pe_tup (pa_cons pe_int pa_nil)) (pv 3)) (pa_cons (pv 4) pa_nil))) (pa_cons (pe_tup (pa_cons (pe_op op_catA (pv 3) (pe_slice sl_tupA (pv 3) po_none (po_some pe_int))) (pa_cons (pv 4) pa_nil))) pa_nil)))))
      (Evl.pss_cut (ps_expr (pe_bm PySem.F.plainAttrs_list PySem.F.slot_list_append PySem.F.type_list_append mt_append (pv 11) (pa_cons (pe_tup (pa_cons (pv 3) (pa_cons (pe_op op_catA (pv 4) (pe_tup (pa_cons (pe_tup (pa_cons (pv 9) (pa_cons (pe_tup (pa_cons pe_str (pa_cons (pe_tup (pa_cons pe_str (pa_cons pe_int pa_nil))) pa_nil))) pa_nil))) pa_nil))) pa_nil))) pa_nil)))
      (Evl.pss_cut (ps_set (i := 11) nd rfl (.inl rfl) (pe_op op_cat (pv 11) (pe_lst (pa_cons (pe_tup (pa_cons (pe_op op_catA (pv 3) (pe_tup (pa_cons (pe_op op_add (pv 9) pe_int) pa_nil))) (pa_cons (pv 10) pa_nil))) (pa_cons (pe_tup (pa_cons (pe_op op_catA (pv 3) (pe_tup (pa_cons (pe_op op_add (pv 9) pe_int) (pa_cons (pe_op op_add (pv 9) pe_int) pa_nil)))) (pa_cons (pv 10) pa_nil))) (pa_cons (pe_tup (pa_cons (pv 3) (pa_cons (pe_revT (pv 4)) pa_nil))) pa_nil))))))
      (Evl.pss_cut (ps_set (i := 11) nd rfl (.inl rfl) (pe_op op_cat (pv 11) (pe_lst (pa_cons (pe_tup (pa_cons (pv 3) (pa_cons (pe_op op_catA (pe_slice sl_tupA (pv 4) po_none (po_some pe_int)) (pv 4)) pa_nil))) (pa_cons (pe_tup (pa_cons (pe_callTy (r := rListS K) call_listS (by rfl) mlist boot_list (pa_cons (pv 3) pa_nil)) (pa_cons (pv 4) pa_nil))) (pa_cons (pe_tup (pa_cons (pv 3) (pa_cons (pe_callTy (r := rListS K) call_listS (by rfl) mlist boot_list (pa_cons (pv 4) pa_nil)) pa_nil))) (pa_cons (pe_tup (pa_cons (pv 3) (pa_cons (pv 4) (pa_cons (pe_tup pa_nil) pa_nil)))) pa_nil)))))))
      (Evl.pss_cut (ps_set (i := 12) nd rfl (.inl rfl) (pe_tup (pa_cons (pe_tup (pa_cons (pv 9) (pa_cons (pe_ix ix_tup (pv 8) pe_int (fun _ _ => rfl)) pa_nil))) (pa_cons (pe_tup (pa_cons (pe_op op_add (pv 9) pe_int) (pa_cons (pe_tup (pa_cons pe_str (pa_cons (pe_tup (pa_cons pe_str (pa_cons (pv 2) pa_nil))) pa_nil))) pa_nil))) pa_nil))))
      (Evl.pss_cut (ps_set (i := 11) nd rfl (.inl rfl) (pe_op op_cat (pv 11) (pe_lst (pa_cons (pe_tup (pa_cons (pe_op op_catA (pv 3) (pe_tup (pa_cons (pe_op op_add (pv 9) pe_int) pa_nil))) (pa_cons (pe_op op_catA (pv 4) (pv 12)) pa_nil))) (pa_cons (pe_tup (pa_cons (pe_op op_catA (pv 3) (pe_tup (pa_cons (pe_op op_add (pv 9) pe_int) (pa_cons (pe_op op_add (pv 9) pe_int) pa_nil)))) (pa_cons (pe_op op_catA (pv 4) (pv 12)) pa_nil))) pa_nil)))))
      (pss_one (ps_ret (pe_op op_cat (pv 11) (pe_lst (pa_cons (pe_tup (pa_cons (pe_op op_catA (pv 3) (pe_tup (pa_cons (pe_op op_add (pv 9) pe_int) pa_nil))) (pa_cons (pe_op op_catA (pv 4) (pe_tup (pa_cons (pe_tup (pa_cons (pv 9) (pa_cons (pe_ix ix_tup (pe_ix ix_tup (pv 12) pe_int (fun _ _ => rfl)) pe_int (fun _ _ => rfl)) pa_nil))) (pa_cons (pe_tup (pa_cons (pe_op op_add (pv 9) pe_int) (pa_cons (pe_ix ix_tup (pv 8) pe_int (fun _ _ => rfl)) pa_nil))) pa_nil)))) pa_nil))) (pa_cons (pe_tup (pa_cons pe_bl (pa_cons (pv 4) pa_nil))) (pa_cons (pe_tup (pa_cons (pv 3) pa_nil)) pa_nil))))))))))))))))))))), ?_⟩
  obtain ⟨pa, us0, e0, hps, hpa⟩ := L17.Dd.tup_inv hpm
  cases e0
  cases hpa with
  | cons g0 hpa =>
  cases hpa with
  | cons g1 hpa =>
  cases hpa
  obtain ⟨mp, um, rfl, hm, hma⟩ := L17.Dd.tup_inv g0
  obtain ⟨ep, ue, rfl, he, hea⟩ := L17.Dd.tup_inv g1
  have lm := hma.len
  have lpos : 0 < M.length := List.length_pos_iff.mpr hne
  refine ⟨.ref pm, rfl, pm, _, rfl, hps, rfl, _, _, rfl, _, _, rfl, rfl, .ref d, rfl, .ref mp, rfl, mp, um, rfl, .inr hm, d, c, N, _, rfl, D, by omega, by omega, by omega, fun H1 at' k1 D1 a0 a1 => ⟨.ref d, rfl, 1, rfl, le2, fun l nl => ?_⟩⟩
  have sl := same_upd (o := .lst [.int 1, .int (-1)]) nl
  have hl := D1.new nl
  refine .inl ⟨d, c, l, N + 1, _, rfl, D1.same sl, by omega, .inl (.inl upd_same), List.cons_ne_nil _ _, Nat.le_of_ble_eq_true rfl, hl.1, hl.2, fun H3 v3 k3 D3 hv3 => ?_⟩
  obtain ⟨st, rfl, hst⟩ : ∃ st : Int, v3 = .int st ∧ (st = 1 ∨ st = -1) := by
    rcases List.mem_cons.mp hv3 with rfl | hv3
    · exact ⟨1, rfl, .inl rfl⟩
    · rw [List.mem_singleton.mp hv3]
      exact ⟨-1, rfl, .inr rfl⟩
  obtain ⟨j, rfl⟩ := Int.eq_ofNat_of_zero_le a0
  have hj : j < M.length := by omega
  obtain ⟨i, hi⟩ : ∃ i, M[j]? = some (.int i) := by
    have := List.all_eq_true.mp hMi M[j] (List.getElem_mem _)
    rw [List.getElem?_eq_getElem hj]
    cases hmj : M[j] with
    | int i => exact ⟨i, rfl⟩
    | _ => rw [hmj] at this; cases this
  have k03 : Keep d c H H3 := k1.trans ((Keep.of sl).trans k3)
  have hM3 : Dd K F0 H3 (.ref mp) (.tuple M) := g0.keep ⟨(k03.t D).1, (k03.t D).2, fun _ _ h => h.elim⟩
  have hE3 : Dd K F0 H3 (.ref ep) (.tuple E) := g1.keep ⟨(k03.t D).1, (k03.t D).2, fun _ _ h => h.elim⟩
  -- the moved marks, the lets, the end, the lines twice
  have G3 := gv_cat (K := K) (ok := F0) (H0 := H3) (σ := [some (.ref d), some (.ref pm), some (.str z), some (.ref mp), some (.ref ep), some (.int (j : Int)), some (.int st), none, none, none, none, none, none])
    (gv_cat (gv_to (gv_var (i := 3) rfl hM3) (gv_var (i := 5) rfl (.int (j : Int)))) (gv_tup (ga_cons (gv_add (gv_ix (gv_var (i := 3) rfl hM3) (gv_var (i := 5) rfl (.int (j : Int))) (atI_nat hi)) (gv_var (i := 6) rfl (.int st))) ga_nil))) (gv_from (j := j + 1) (gv_var (i := 3) rfl hM3) (gv_add (gv_var (i := 5) rfl (.int (j : Int))) (gv_i 1)))
    (by rw [List.length_append, List.length_take, List.length_drop, List.length_cons, List.length_nil]; omega)
  delta gName tSeq tAsg
  dsimp only
  refine G3 H3 _ (fun _ _ e => e) fun H4 v4 s4 hv4 => ?_
  clear G3
  have G4 := gv_tup (K := K) (ok := F0) (H0 := H4) (σ := [some (.ref d), some (.ref pm), some (.str z), some (.ref mp), some (.ref ep), some (.int (j : Int)), some (.int st), some v4, none, none, none, none, none])
    (ga_cons (gv_tup (ga_cons (gv_s "let") (ga_cons (gv_var (i := 2) rfl (.str z)) (ga_cons (gv_tup (ga_cons (gv_s "int") (ga_cons (gv_i 1) ga_nil))) ga_nil)))) (ga_cons (gv_tup (ga_cons (gv_s "let") (ga_cons (gv_var (i := 2) rfl (.str z)) (ga_cons (gv_tup (ga_cons (gv_s "int") (ga_cons (gv_i 2) ga_nil))) ga_nil)))) ga_nil))
  refine G4 H4 _ (fun _ _ e => e) fun H5 v5 s5 hv5 => ?_
  clear G4
  have hM5 := hM3.keep (KeepO.of (s4.trans s5))
  have hE5 := hE3.keep (KeepO.of (s4.trans s5))
  have G5 := gv_ix (K := K) (ok := F0) (H0 := H5) (σ := [some (.ref d), some (.ref pm), some (.str z), some (.ref mp), some (.ref ep), some (.int (j : Int)), some (.int st), some v4, some v5, none, none, none, none])
    (gv_var (i := 3) rfl hM5) (gv_neg (gv_i 1)) hen
  refine G5 H5 _ (fun _ _ e => e) fun H6 v6 s6 hv6 => ?_
  clear G5
  cases hv6
  have hv56 := hv5.keep (KeepO.of s6)
  have G6 := gv_cat (K := K) (ok := F0) (H0 := H6) (σ := [some (.ref d), some (.ref pm), some (.str z), some (.ref mp), some (.ref ep), some (.int (j : Int)), some (.int st), some v4, some v5, some (.int en), none, none, none])
    (gv_var (i := 4) rfl (hE5.keep (KeepO.of s6))) (gv_tup (ga_cons (gv_tup (ga_cons (gv_var (i := 9) rfl (.int en)) (ga_cons (gv_ix (gv_var (i := 8) rfl hv56) (gv_i 0) atD0) ga_nil))) (ga_cons (gv_tup (ga_cons (gv_add (gv_var (i := 9) rfl (.int en)) (gv_i 1)) (ga_cons (gv_ix (gv_var (i := 8) rfl hv56) (gv_i 1) atD1) ga_nil))) ga_nil)))
    (by rw [List.length_cons, List.length_cons, List.length_nil]; omega)
  refine G6 H6 _ (fun _ _ e => e) fun H7 v7 s7 hv7 => ?_
  clear G6
  have s37 := s4.trans (s5.trans (s6.trans s7))
  have ff7 : FoF K H7 mp ep v4 v5 v7 M E ((M.take j ++ [.int (i + st)]) ++ M.drop (j + 1)) [ltD z 1, ltD z 2] (E ++ [lnD en (ltD z 1), lnD (en + 1) (ltD z 2)]) := ⟨hM3.keep (KeepO.of s37), hE3.keep (KeepO.of s37), hv4.keep (KeepO.of (s5.trans (s6.trans s7))), hv56.keep (KeepO.of s7), hv7⟩
  have k07 := k03.trans (Keep.of s37)
  have D7 := D3.same s37
  clear hM3 hE3 hM5 hE5 hv4 hv5 hv56 hv7 s4 s5 s6 s7 s37
  revert ff7
  generalize hmv : (M.take j ++ [.int (i + st)]) ++ M.drop (j + 1) = mv
  generalize htw : E ++ [lnD en (ltD z 1), lnD (en + 1) (ltD z 2)] = tw
  intro ff7
  have step : ∀ {H1' : Hp} {okk : Addr → Prop} {L : Addr} {us : List V} {u : Option V} {ys : List PyData} {xs : List PyData} {t : TA} {Q' : VK}, H1' L = some (.lst us) → DdAll K okk H1' us ys → Ga K okk H1' [some (.ref d), some (.ref pm), some (.str z), some (.ref mp), some (.ref ep), some (.int (j : Int)), some (.int st), some v4, some v5, some (.int en), some v7, some (.ref L), u] t xs → ys.length + xs.length ≤ 1000 →
      (∀ H' L' vs, Same H1' H' → H1' L' = none → H' L' = some (.lst vs) → DdAll K (fun b => okk b ∧ b ≠ L') H' vs (ys ++ xs) → Q' (.ref L') H') → tOp rCat (tVar 11) (tLst t) [some (.ref d), some (.ref pm), some (.str z), some (.ref mp), some (.ref ep), some (.int (j : Int)), some (.int st), some v4, some v5, some (.int en), some v7, some (.ref L), u] H1' Q' :=
    fun hL hu g hl q => gl_more (i := 11) rfl hL hu g hl (fun _ _ e => e) q
  refine ⟨fun σ' H' => ∃ L vs, σ' = [some (.ref d), some (.ref pm), some (.str z), some (.ref mp), some (.ref ep), some (.int (j : Int)), some (.int st), some v4, some v5, some (.int en), some v7, some (.ref L), none] ∧ Keep d c H H' ∧ Deck H' d c (N + 2) ∧ H L = none ∧ H' L = some (.lst vs) ∧ DdAll K F0 H' vs (fo1 M E mv) ∧ FoF K H' mp ep v4 v5 v7 M E mv [ltD z 1, ltD z 2] tw, ?_, ?_⟩
  · have M0 : Gv K F0 H7 [some (.ref d), some (.ref pm), some (.str z), some (.ref mp), some (.ref ep), some (.int (j : Int)), some (.int st), some v4, some v5, some (.int en), some v7, none, none] (tVar 3) (.tuple M) := gv_var rfl ff7.hM
    have E0 : Gv K F0 H7 [some (.ref d), some (.ref pm), some (.str z), some (.ref mp), some (.ref ep), some (.int (j : Int)), some (.int st), some v4, some v5, some (.int en), some v7, none, none] (tVar 4) (.tuple E) := gv_var rfl ff7.hE
    have V0 : Gv K F0 H7 [some (.ref d), some (.ref pm), some (.str z), some (.ref mp), some (.ref ep), some (.int (j : Int)), some (.int st), some v4, some v5, some (.int en), some v7, none, none] (tVar 7) (.tuple mv) := gv_var rfl ff7.hv
    have L0 : Gv K F0 H7 [some (.ref d), some (.ref pm), some (.str z), some (.ref mp), some (.ref ep), some (.int (j : Int)), some (.int st), some v4, some v5, some (.int en), some v7, none, none] (tVar 8) (.tuple [ltD z 1, ltD z 2]) := gv_var rfl ff7.hl
    have T0 : Gv K F0 H7 [some (.ref d), some (.ref pm), some (.str z), some (.ref mp), some (.ref ep), some (.int (j : Int)), some (.int st), some v4, some v5, some (.int en), some v7, none, none] (tVar 10) (.tuple tw) := gv_var rfl ff7.ht
    have N0 : Gv K F0 H7 [some (.ref d), some (.ref pm), some (.str z), some (.ref mp), some (.ref ep), some (.int (j : Int)), some (.int st), some v4, some v5, some (.int en), some v7, none, none] (tVar 9) (.int en) := gv_var rfl (Dd.int (K := K) (ok := F0) (H := H7) en)
    have Z0 : Gv K F0 H7 [some (.ref d), some (.ref pm), some (.str z), some (.ref mp), some (.ref ep), some (.int (j : Int)), some (.int st), some v4, some v5, some (.int en), some v7, none, none] (tVar 2) (.str z) := gv_var rfl (Dd.str (K := K) (ok := F0) (H := H7) z)
    have G := (ga_cons (gv_tup (ga_cons V0 (ga_cons E0 ga_nil))) (ga_cons (gv_tup (ga_cons (gv_cat M0 (gv_tup (ga_cons (gv_i 10001) ga_nil))) (ga_cons E0 ga_nil))) (ga_cons (gv_tup (ga_cons (gv_cat M0 (gv_tup (ga_cons (gv_i 10000) ga_nil))) (ga_cons E0 ga_nil))) (ga_cons (gv_tup (ga_cons (gv_from (j := 1) M0 (gv_i 1)) (ga_cons E0 ga_nil))) ga_nil))))
    exact gl_lst G (Nat.le_of_ble_eq_true rfl) (fun _ _ e => e) fun H8 L8 vs8 s8 n8 h8 d8 => ⟨L8, vs8, rfl, k07.trans (Keep.of s8), (D7.same s8).mono (by omega), fresh_back k07 D7 n8, h8, d8, ff7.keep (KeepT.of s8)⟩
  rintro σ1 G1 ⟨L1, vs1, rfl, k1', E1, n1, h1, hv1, f1⟩
  clear ff7 D7 k07
  refine ⟨fun σ' H' => ∃ L vs, σ' = [some (.ref d), some (.ref pm), some (.str z), some (.ref mp), some (.ref ep), some (.int (j : Int)), some (.int st), some v4, some v5, some (.int en), some v7, some (.ref L), none] ∧ Keep d c H H' ∧ Deck H' d c (N + 2) ∧ H L = none ∧ H' L = some (.lst vs) ∧ DdAll K F0 H' vs (fo1 M E mv ++ fo2 M E) ∧ FoF K H' mp ep v4 v5 v7 M E mv [ltD z 1, ltD z 2] tw, ?_, ?_⟩
  · have M0 : Gv K F0 G1 [some (.ref d), some (.ref pm), some (.str z), some (.ref mp), some (.ref ep), some (.int (j : Int)), some (.int st), some v4, some v5, some (.int en), some v7, some (.ref L1), none] (tVar 3) (.tuple M) := gv_var rfl f1.hM
    have E0 : Gv K F0 G1 [some (.ref d), some (.ref pm), some (.str z), some (.ref mp), some (.ref ep), some (.int (j : Int)), some (.int st), some v4, some v5, some (.int en), some v7, some (.ref L1), none] (tVar 4) (.tuple E) := gv_var rfl f1.hE
    have V0 : Gv K F0 G1 [some (.ref d), some (.ref pm), some (.str z), some (.ref mp), some (.ref ep), some (.int (j : Int)), some (.int st), some v4, some v5, some (.int en), some v7, some (.ref L1), none] (tVar 7) (.tuple mv) := gv_var rfl f1.hv
    have L0 : Gv K F0 G1 [some (.ref d), some (.ref pm), some (.str z), some (.ref mp), some (.ref ep), some (.int (j : Int)), some (.int st), some v4, some v5, some (.int en), some v7, some (.ref L1), none] (tVar 8) (.tuple [ltD z 1, ltD z 2]) := gv_var rfl f1.hl
    have T0 : Gv K F0 G1 [some (.ref d), some (.ref pm), some (.str z), some (.ref mp), some (.ref ep), some (.int (j : Int)), some (.int st), some v4, some v5, some (.int en), some v7, some (.ref L1), none] (tVar 10) (.tuple tw) := gv_var rfl f1.ht
    have N0 : Gv K F0 G1 [some (.ref d), some (.ref pm), some (.str z), some (.ref mp), some (.ref ep), some (.int (j : Int)), some (.int st), some v4, some v5, some (.int en), some v7, some (.ref L1), none] (tVar 9) (.int en) := gv_var rfl (Dd.int (K := K) (ok := F0) (H := G1) en)
    have Z0 : Gv K F0 G1 [some (.ref d), some (.ref pm), some (.str z), some (.ref mp), some (.ref ep), some (.int (j : Int)), some (.int st), some v4, some v5, some (.int en), some v7, some (.ref L1), none] (tVar 2) (.str z) := gv_var rfl (Dd.str (K := K) (ok := F0) (H := G1) z)
    have G := (ga_cons (gv_tup (ga_cons (gv_cat (gv_tup (ga_cons (gv_i 0) ga_nil)) M0) (ga_cons E0 ga_nil))) (ga_cons (gv_tup (ga_cons (gv_cat M0 (gv_to (j := 1) M0 (gv_i 1))) (ga_cons E0 ga_nil))) ga_nil))
    exact step h1 hv1 G (by simp only [List.length_append, List.length_cons, List.length_nil]; omega) fun H8 L8 vs8 s8 n8 h8 d8 => ⟨L8, vs8, rfl, k1'.trans (Keep.of s8), E1.same s8, fresh_back k1' E1 n8, h8, d8.mono (fun _ h => h.1), f1.keep (KeepT.of s8)⟩
  rintro σ2 G2 ⟨L2, vs2, rfl, k2', E2, n2, h2, hv2, f2⟩
  clear f1 E1 k1'
  refine ⟨fun σ' H' => ∃ L vs, σ' = [some (.ref d), some (.ref pm), some (.str z), some (.ref mp), some (.ref ep), some (.int (j : Int)), some (.int st), some v4, some v5, some (.int en), some v7, some (.ref L), none] ∧ Keep d c H H' ∧ Deck H' d c (N + 2) ∧ H L = none ∧ H' L = some (.lst vs) ∧ DdAll K F0 H' vs (fo1 M E mv ++ fo2 M E ++ fo3 M E en) ∧ FoF K H' mp ep v4 v5 v7 M E mv [ltD z 1, ltD z 2] tw, ?_, ?_⟩
  · have M0 : Gv K F0 G2 [some (.ref d), some (.ref pm), some (.str z), some (.ref mp), some (.ref ep), some (.int (j : Int)), some (.int st), some v4, some v5, some (.int en), some v7, some (.ref L2), none] (tVar 3) (.tuple M) := gv_var rfl f2.hM
    have E0 : Gv K F0 G2 [some (.ref d), some (.ref pm), some (.str z), some (.ref mp), some (.ref ep), some (.int (j : Int)), some (.int st), some v4, some v5, some (.int en), some v7, some (.ref L2), none] (tVar 4) (.tuple E) := gv_var rfl f2.hE
    have V0 : Gv K F0 G2 [some (.ref d), some (.ref pm), some (.str z), some (.ref mp), some (.ref ep), some (.int (j : Int)), some (.int st), some v4, some v5, some (.int en), some v7, some (.ref L2), none] (tVar 7) (.tuple mv) := gv_var rfl f2.hv
    have L0 : Gv K F0 G2 [some (.ref d), some (.ref pm), some (.str z), some (.ref mp), some (.ref ep), some (.int (j : Int)), some (.int st), some v4, some v5, some (.int en), some v7, some (.ref L2), none] (tVar 8) (.tuple [ltD z 1, ltD z 2]) := gv_var rfl f2.hl
    have T0 : Gv K F0 G2 [some (.ref d), some (.ref pm), some (.str z), some (.ref mp), some (.ref ep), some (.int (j : Int)), some (.int st), some v4, some v5, some (.int en), some v7, some (.ref L2), none] (tVar 10) (.tuple tw) := gv_var rfl f2.ht
    have N0 : Gv K F0 G2 [some (.ref d), some (.ref pm), some (.str z), some (.ref mp), some (.ref ep), some (.int (j : Int)), some (.int st), some v4, some v5, some (.int en), some v7, some (.ref L2), none] (tVar 9) (.int en) := gv_var rfl (Dd.int (K := K) (ok := F0) (H := G2) en)
    have Z0 : Gv K F0 G2 [some (.ref d), some (.ref pm), some (.str z), some (.ref mp), some (.ref ep), some (.int (j : Int)), some (.int st), some v4, some v5, some (.int en), some v7, some (.ref L2), none] (tVar 2) (.str z) := gv_var rfl (Dd.str (K := K) (ok := F0) (H := G2) z)
    have G := (gv_tup (ga_cons M0 (ga_cons (gv_cat E0 (gv_tup (ga_cons (gv_tup (ga_cons N0 (ga_cons (gv_tup (ga_cons (gv_s "need") (ga_cons (gv_tup (ga_cons (gv_s "int") (ga_cons (gv_i 1) ga_nil))) ga_nil))) ga_nil))) ga_nil))) ga_nil)))
    refine ⟨.ref L2, rfl, .inl ⟨rfl, _, .inl (.inl h2)⟩, G G2 _ (fun _ _ e => e) fun H8 v8 s8 hv8 => ?_⟩
    have h28 := s8 _ _ h2
    have l2 := hv2.len
    have kt : KeepT H8 (upd H8 L2 (.lst (vs2 ++ [v8]))) := KeepT.lst h28
    have ko : KeepO F0 H8 (upd H8 L2 (.lst (vs2 ++ [v8]))) := ⟨kt.1, kt.2, fun _ _ h => h.elim⟩
    have hLd : L2 ≠ d ∧ L2 ≠ c := D.new n2
    refine ⟨L2, vs2, v8, rfl, rfl, h28, ?_, L2, vs2 ++ [v8], rfl, fun b o hb1 hb2 e => ?_, (E2.same s8).upd hLd.1 hLd.2, n2, upd_same, ?_, (f2.keep (KeepT.of s8)).keep kt⟩
    · rw [l2, sizeLine_eq]
      simp only [List.length_append, List.length_cons, List.length_nil]
      omega
    · rw [upd_ne (ne_of_none e n2)]
      exact s8 _ _ (k2' _ _ hb1 hb2 e)
    · exact ((hv2.keep (KeepO.of s8)).app (.cons hv8 .nil)).keep ko
  rintro σ3 G3 ⟨L3, vs3, rfl, k3', E3, n3, h3, hv3, f3⟩
  clear f2 E2 k2'
  refine ⟨fun σ' H' => ∃ L vs, σ' = [some (.ref d), some (.ref pm), some (.str z), some (.ref mp), some (.ref ep), some (.int (j : Int)), some (.int st), some v4, some v5, some (.int en), some v7, some (.ref L), none] ∧ Keep d c H H' ∧ Deck H' d c (N + 2) ∧ H L = none ∧ H' L = some (.lst vs) ∧ DdAll K F0 H' vs (fo1 M E mv ++ fo2 M E ++ fo3 M E en ++ fo4 M E en tw) ∧ FoF K H' mp ep v4 v5 v7 M E mv [ltD z 1, ltD z 2] tw, ?_, ?_⟩
  · have M0 : Gv K F0 G3 [some (.ref d), some (.ref pm), some (.str z), some (.ref mp), some (.ref ep), some (.int (j : Int)), some (.int st), some v4, some v5, some (.int en), some v7, some (.ref L3), none] (tVar 3) (.tuple M) := gv_var rfl f3.hM
    have E0 : Gv K F0 G3 [some (.ref d), some (.ref pm), some (.str z), some (.ref mp), some (.ref ep), some (.int (j : Int)), some (.int st), some v4, some v5, some (.int en), some v7, some (.ref L3), none] (tVar 4) (.tuple E) := gv_var rfl f3.hE
    have V0 : Gv K F0 G3 [some (.ref d), some (.ref pm), some (.str z), some (.ref mp), some (.ref ep), some (.int (j : Int)), some (.int st), some v4, some v5, some (.int en), some v7, some (.ref L3), none] (tVar 7) (.tuple mv) := gv_var rfl f3.hv
    have L0 : Gv K F0 G3 [some (.ref d), some (.ref pm), some (.str z), some (.ref mp), some (.ref ep), some (.int (j : Int)), some (.int st), some v4, some v5, some (.int en), some v7, some (.ref L3), none] (tVar 8) (.tuple [ltD z 1, ltD z 2]) := gv_var rfl f3.hl
    have T0 : Gv K F0 G3 [some (.ref d), some (.ref pm), some (.str z), some (.ref mp), some (.ref ep), some (.int (j : Int)), some (.int st), some v4, some v5, some (.int en), some v7, some (.ref L3), none] (tVar 10) (.tuple tw) := gv_var rfl f3.ht
    have N0 : Gv K F0 G3 [some (.ref d), some (.ref pm), some (.str z), some (.ref mp), some (.ref ep), some (.int (j : Int)), some (.int st), some v4, some v5, some (.int en), some v7, some (.ref L3), none] (tVar 9) (.int en) := gv_var rfl (Dd.int (K := K) (ok := F0) (H := G3) en)
    have Z0 : Gv K F0 G3 [some (.ref d), some (.ref pm), some (.str z), some (.ref mp), some (.ref ep), some (.int (j : Int)), some (.int st), some v4, some v5, some (.int en), some v7, some (.ref L3), none] (tVar 2) (.str z) := gv_var rfl (Dd.str (K := K) (ok := F0) (H := G3) z)
    have G := (ga_cons (gv_tup (ga_cons (gv_cat M0 (gv_tup (ga_cons (gv_add N0 (gv_i 2)) ga_nil))) (ga_cons T0 ga_nil))) (ga_cons (gv_tup (ga_cons (gv_cat M0 (gv_tup (ga_cons (gv_add N0 (gv_i 1)) (ga_cons (gv_add N0 (gv_i 2)) ga_nil)))) (ga_cons T0 ga_nil))) (ga_cons (gv_tup (ga_cons M0 (ga_cons (gv_rev E0) ga_nil))) ga_nil)))
    exact step h3 hv3 G (by simp only [List.length_append, List.length_cons, List.length_nil]; omega) fun H8 L8 vs8 s8 n8 h8 d8 => ⟨L8, vs8, rfl, k3'.trans (Keep.of s8), E3.same s8, fresh_back k3' E3 n8, h8, d8.mono (fun _ h => h.1), f3.keep (KeepT.of s8)⟩
  rintro σ4 G4 ⟨L4, vs4, rfl, k4', E4, n4, h4, hv4, f4⟩
  clear f3 E3 k3'
  refine ⟨fun σ' H' => ∃ L vs, σ' = [some (.ref d), some (.ref pm), some (.str z), some (.ref mp), some (.ref ep), some (.int (j : Int)), some (.int st), some v4, some v5, some (.int en), some v7, some (.ref L), none] ∧ Keep d c H H' ∧ Deck H' d c (N + 2) ∧ H L = none ∧ H' L = some (.lst vs) ∧ DdAll K (Off d c) H' vs (fo1 M E mv ++ fo2 M E ++ fo3 M E en ++ fo4 M E en tw ++ fo5 M E) ∧ FoF K H' mp ep v4 v5 v7 M E mv [ltD z 1, ltD z 2] tw, ?_, ?_⟩
  · have M0 : Gv K (Off d c) G4 [some (.ref d), some (.ref pm), some (.str z), some (.ref mp), some (.ref ep), some (.int (j : Int)), some (.int st), some v4, some v5, some (.int en), some v7, some (.ref L4), none] (tVar 3) (.tuple M) := gv_var rfl (Dd.mono (fun _ h => h.elim) (f4.hM))
    have E0 : Gv K (Off d c) G4 [some (.ref d), some (.ref pm), some (.str z), some (.ref mp), some (.ref ep), some (.int (j : Int)), some (.int st), some v4, some v5, some (.int en), some v7, some (.ref L4), none] (tVar 4) (.tuple E) := gv_var rfl (Dd.mono (fun _ h => h.elim) (f4.hE))
    have V0 : Gv K (Off d c) G4 [some (.ref d), some (.ref pm), some (.str z), some (.ref mp), some (.ref ep), some (.int (j : Int)), some (.int st), some v4, some v5, some (.int en), some v7, some (.ref L4), none] (tVar 7) (.tuple mv) := gv_var rfl (Dd.mono (fun _ h => h.elim) (f4.hv))
    have L0 : Gv K (Off d c) G4 [some (.ref d), some (.ref pm), some (.str z), some (.ref mp), some (.ref ep), some (.int (j : Int)), some (.int st), some v4, some v5, some (.int en), some v7, some (.ref L4), none] (tVar 8) (.tuple [ltD z 1, ltD z 2]) := gv_var rfl (Dd.mono (fun _ h => h.elim) (f4.hl))
    have T0 : Gv K (Off d c) G4 [some (.ref d), some (.ref pm), some (.str z), some (.ref mp), some (.ref ep), some (.int (j : Int)), some (.int st), some v4, some v5, some (.int en), some v7, some (.ref L4), none] (tVar 10) (.tuple tw) := gv_var rfl (Dd.mono (fun _ h => h.elim) (f4.ht))
    have N0 : Gv K (Off d c) G4 [some (.ref d), some (.ref pm), some (.str z), some (.ref mp), some (.ref ep), some (.int (j : Int)), some (.int st), some v4, some v5, some (.int en), some v7, some (.ref L4), none] (tVar 9) (.int en) := gv_var rfl (Dd.mono (fun _ h => h.elim) ((Dd.int (K := K) (ok := F0) (H := G4) en)))
    have Z0 : Gv K (Off d c) G4 [some (.ref d), some (.ref pm), some (.str z), some (.ref mp), some (.ref ep), some (.int (j : Int)), some (.int st), some v4, some v5, some (.int en), some v7, some (.ref L4), none] (tVar 2) (.str z) := gv_var rfl (Dd.mono (fun _ h => h.elim) ((Dd.str (K := K) (ok := F0) (H := G4) z)))
    have hok : ∀ H p, Same G4 H → H p = none → p ≠ sysModules → Off d c p := fun H p s n far => ⟨((E4.same s).new n).1, ((E4.same s).new n).2, far⟩
    have G := (ga_cons (gv_tup (ga_cons M0 (ga_cons (gv_cat (gv_to (j := 1) E0 (gv_i 1)) E0) ga_nil))) (ga_cons (gv_tup (ga_cons (gv_list M0 hok) (ga_cons E0 ga_nil))) (ga_cons (gv_tup (ga_cons M0 (ga_cons (gv_list E0 hok) ga_nil))) (ga_cons (gv_tup (ga_cons M0 (ga_cons E0 (ga_cons (gv_tup ga_nil) ga_nil)))) ga_nil))))
    exact step h4 (hv4.mono (fun _ h => h.elim)) G (by simp only [List.length_append, List.length_cons, List.length_nil]; omega) fun H8 L8 vs8 s8 n8 h8 d8 => ⟨L8, vs8, rfl, k4'.trans (Keep.of s8), E4.same s8, fresh_back k4' E4 n8, h8, d8.mono (fun _ h => h.1), f4.keep (KeepT.of s8)⟩
  rintro σ5 G5 ⟨L5, vs5, rfl, k5', E5, n5, h5, hv5, f5⟩
  clear f4 E4 k4'
  refine ⟨fun σ' H' => ∃ L vs v12, σ' = [some (.ref d), some (.ref pm), some (.str z), some (.ref mp), some (.ref ep), some (.int (j : Int)), some (.int st), some v4, some v5, some (.int en), some v7, some (.ref L), some v12] ∧ Keep d c H H' ∧ Deck H' d c (N + 2) ∧ H L = none ∧ H' L = some (.lst vs) ∧ DdAll K (Off d c) H' vs (fo1 M E mv ++ fo2 M E ++ fo3 M E en ++ fo4 M E en tw ++ fo5 M E) ∧ FoF K H' mp ep v4 v5 v7 M E mv [ltD z 1, ltD z 2] tw ∧ Dd K F0 H' v12 (.tuple [lnD en (ltD z 1), lnD (en + 1) (tlD z)]), ?_, ?_⟩
  · have M0 : Gv K F0 G5 [some (.ref d), some (.ref pm), some (.str z), some (.ref mp), some (.ref ep), some (.int (j : Int)), some (.int st), some v4, some v5, some (.int en), some v7, some (.ref L5), none] (tVar 3) (.tuple M) := gv_var rfl f5.hM
    have E0 : Gv K F0 G5 [some (.ref d), some (.ref pm), some (.str z), some (.ref mp), some (.ref ep), some (.int (j : Int)), some (.int st), some v4, some v5, some (.int en), some v7, some (.ref L5), none] (tVar 4) (.tuple E) := gv_var rfl f5.hE
    have V0 : Gv K F0 G5 [some (.ref d), some (.ref pm), some (.str z), some (.ref mp), some (.ref ep), some (.int (j : Int)), some (.int st), some v4, some v5, some (.int en), some v7, some (.ref L5), none] (tVar 7) (.tuple mv) := gv_var rfl f5.hv
    have L0 : Gv K F0 G5 [some (.ref d), some (.ref pm), some (.str z), some (.ref mp), some (.ref ep), some (.int (j : Int)), some (.int st), some v4, some v5, some (.int en), some v7, some (.ref L5), none] (tVar 8) (.tuple [ltD z 1, ltD z 2]) := gv_var rfl f5.hl
    have T0 : Gv K F0 G5 [some (.ref d), some (.ref pm), some (.str z), some (.ref mp), some (.ref ep), some (.int (j : Int)), some (.int st), some v4, some v5, some (.int en), some v7, some (.ref L5), none] (tVar 10) (.tuple tw) := gv_var rfl f5.ht
    have N0 : Gv K F0 G5 [some (.ref d), some (.ref pm), some (.str z), some (.ref mp), some (.ref ep), some (.int (j : Int)), some (.int st), some v4, some v5, some (.int en), some v7, some (.ref L5), none] (tVar 9) (.int en) := gv_var rfl (Dd.int (K := K) (ok := F0) (H := G5) en)
    have Z0 : Gv K F0 G5 [some (.ref d), some (.ref pm), some (.str z), some (.ref mp), some (.ref ep), some (.int (j : Int)), some (.int st), some v4, some v5, some (.int en), some v7, some (.ref L5), none] (tVar 2) (.str z) := gv_var rfl (Dd.str (K := K) (ok := F0) (H := G5) z)
    have G := (gv_tup (ga_cons (gv_tup (ga_cons N0 (ga_cons (gv_ix L0 (gv_i 0) atD0) ga_nil))) (ga_cons (gv_tup (ga_cons (gv_add N0 (gv_i 1)) (ga_cons (gv_tup (ga_cons (gv_s "tell") (ga_cons (gv_tup (ga_cons (gv_s "var") (ga_cons Z0 ga_nil))) ga_nil))) ga_nil))) ga_nil)))
    exact G G5 _ (fun _ _ e => e) fun H8 v8 s8 hv8 => ⟨L5, vs5, v8, rfl, k5'.trans (Keep.of s8), E5.same s8, n5, s8 _ _ h5, hv5.keep (KeepO.of s8), f5.keep (KeepT.of s8), hv8⟩
  rintro σ6 G6 ⟨L6, vs6, v12, rfl, k6', E6, n6, h6, hv6, f6, u5⟩
  clear f5 E5 k5'
  refine ⟨fun σ' H' => ∃ L vs v12, σ' = [some (.ref d), some (.ref pm), some (.str z), some (.ref mp), some (.ref ep), some (.int (j : Int)), some (.int st), some v4, some v5, some (.int en), some v7, some (.ref L), some v12] ∧ Keep d c H H' ∧ Deck H' d c (N + 2) ∧ H L = none ∧ H' L = some (.lst vs) ∧ DdAll K (Off d c) H' vs (fo1 M E mv ++ fo2 M E ++ fo3 M E en ++ fo4 M E en tw ++ fo5 M E ++ fo6 M E en [lnD en (ltD z 1), lnD (en + 1) (tlD z)]) ∧ FoF K H' mp ep v4 v5 v7 M E mv [ltD z 1, ltD z 2] tw ∧ Dd K F0 H' v12 (.tuple [lnD en (ltD z 1), lnD (en + 1) (tlD z)]), ?_, ?_⟩
  · have M0 : Gv K (Off d c) G6 [some (.ref d), some (.ref pm), some (.str z), some (.ref mp), some (.ref ep), some (.int (j : Int)), some (.int st), some v4, some v5, some (.int en), some v7, some (.ref L6), some v12] (tVar 3) (.tuple M) := gv_var rfl (Dd.mono (fun _ h => h.elim) (f6.hM))
    have E0 : Gv K (Off d c) G6 [some (.ref d), some (.ref pm), some (.str z), some (.ref mp), some (.ref ep), some (.int (j : Int)), some (.int st), some v4, some v5, some (.int en), some v7, some (.ref L6), some v12] (tVar 4) (.tuple E) := gv_var rfl (Dd.mono (fun _ h => h.elim) (f6.hE))
    have V0 : Gv K (Off d c) G6 [some (.ref d), some (.ref pm), some (.str z), some (.ref mp), some (.ref ep), some (.int (j : Int)), some (.int st), some v4, some v5, some (.int en), some v7, some (.ref L6), some v12] (tVar 7) (.tuple mv) := gv_var rfl (Dd.mono (fun _ h => h.elim) (f6.hv))
    have L0 : Gv K (Off d c) G6 [some (.ref d), some (.ref pm), some (.str z), some (.ref mp), some (.ref ep), some (.int (j : Int)), some (.int st), some v4, some v5, some (.int en), some v7, some (.ref L6), some v12] (tVar 8) (.tuple [ltD z 1, ltD z 2]) := gv_var rfl (Dd.mono (fun _ h => h.elim) (f6.hl))
    have T0 : Gv K (Off d c) G6 [some (.ref d), some (.ref pm), some (.str z), some (.ref mp), some (.ref ep), some (.int (j : Int)), some (.int st), some v4, some v5, some (.int en), some v7, some (.ref L6), some v12] (tVar 10) (.tuple tw) := gv_var rfl (Dd.mono (fun _ h => h.elim) (f6.ht))
    have N0 : Gv K (Off d c) G6 [some (.ref d), some (.ref pm), some (.str z), some (.ref mp), some (.ref ep), some (.int (j : Int)), some (.int st), some v4, some v5, some (.int en), some v7, some (.ref L6), some v12] (tVar 9) (.int en) := gv_var rfl (Dd.mono (fun _ h => h.elim) ((Dd.int (K := K) (ok := F0) (H := G6) en)))
    have Z0 : Gv K (Off d c) G6 [some (.ref d), some (.ref pm), some (.str z), some (.ref mp), some (.ref ep), some (.int (j : Int)), some (.int st), some v4, some v5, some (.int en), some v7, some (.ref L6), some v12] (tVar 2) (.str z) := gv_var rfl (Dd.mono (fun _ h => h.elim) ((Dd.str (K := K) (ok := F0) (H := G6) z)))
    have U0 : Gv K (Off d c) G6 [some (.ref d), some (.ref pm), some (.str z), some (.ref mp), some (.ref ep), some (.int (j : Int)), some (.int st), some v4, some v5, some (.int en), some v7, some (.ref L6), some v12] (tVar 12) (.tuple [lnD en (ltD z 1), lnD (en + 1) (tlD z)]) := gv_var rfl (Dd.mono (fun _ h => h.elim) (u5))
    have G := (ga_cons (gv_tup (ga_cons (gv_cat M0 (gv_tup (ga_cons (gv_add N0 (gv_i 2)) ga_nil))) (ga_cons (gv_cat E0 U0) ga_nil))) (ga_cons (gv_tup (ga_cons (gv_cat M0 (gv_tup (ga_cons (gv_add N0 (gv_i 1)) (ga_cons (gv_add N0 (gv_i 2)) ga_nil)))) (ga_cons (gv_cat E0 U0) ga_nil))) ga_nil))
    exact step h6 hv6 G (by simp only [List.length_append, List.length_cons, List.length_nil]; omega) fun H8 L8 vs8 s8 n8 h8 d8 => ⟨L8, vs8, v12, rfl, k6'.trans (Keep.of s8), E6.same s8, fresh_back k6' E6 n8, h8, d8.mono (fun _ h => h.1), f6.keep (KeepT.of s8), u5.keep (KeepO.of s8)⟩
  rintro σ7 G7 ⟨L7, vs7, w12, rfl, k7', E7, n7, h7, hv7, f7, u7⟩
  clear f6 E6 k6'
  have M0 : Gv K (Off d c) G7 [some (.ref d), some (.ref pm), some (.str z), some (.ref mp), some (.ref ep), some (.int (j : Int)), some (.int st), some v4, some v5, some (.int en), some v7, some (.ref L7), some w12] (tVar 3) (.tuple M) := gv_var rfl (Dd.mono (fun _ h => h.elim) (f7.hM))
  have E0 : Gv K (Off d c) G7 [some (.ref d), some (.ref pm), some (.str z), some (.ref mp), some (.ref ep), some (.int (j : Int)), some (.int st), some v4, some v5, some (.int en), some v7, some (.ref L7), some w12] (tVar 4) (.tuple E) := gv_var rfl (Dd.mono (fun _ h => h.elim) (f7.hE))
  have V0 : Gv K (Off d c) G7 [some (.ref d), some (.ref pm), some (.str z), some (.ref mp), some (.ref ep), some (.int (j : Int)), some (.int st), some v4, some v5, some (.int en), some v7, some (.ref L7), some w12] (tVar 7) (.tuple mv) := gv_var rfl (Dd.mono (fun _ h => h.elim) (f7.hv))
  have L0 : Gv K (Off d c) G7 [some (.ref d), some (.ref pm), some (.str z), some (.ref mp), some (.ref ep), some (.int (j : Int)), some (.int st), some v4, some v5, some (.int en), some v7, some (.ref L7), some w12] (tVar 8) (.tuple [ltD z 1, ltD z 2]) := gv_var rfl (Dd.mono (fun _ h => h.elim) (f7.hl))
  have T0 : Gv K (Off d c) G7 [some (.ref d), some (.ref pm), some (.str z), some (.ref mp), some (.ref ep), some (.int (j : Int)), some (.int st), some v4, some v5, some (.int en), some v7, some (.ref L7), some w12] (tVar 10) (.tuple tw) := gv_var rfl (Dd.mono (fun _ h => h.elim) (f7.ht))
  have N0 : Gv K (Off d c) G7 [some (.ref d), some (.ref pm), some (.str z), some (.ref mp), some (.ref ep), some (.int (j : Int)), some (.int st), some v4, some v5, some (.int en), some v7, some (.ref L7), some w12] (tVar 9) (.int en) := gv_var rfl (Dd.mono (fun _ h => h.elim) ((Dd.int (K := K) (ok := F0) (H := G7) en)))
  have Z0 : Gv K (Off d c) G7 [some (.ref d), some (.ref pm), some (.str z), some (.ref mp), some (.ref ep), some (.int (j : Int)), some (.int st), some v4, some v5, some (.int en), some v7, some (.ref L7), some w12] (tVar 2) (.str z) := gv_var rfl (Dd.mono (fun _ h => h.elim) ((Dd.str (K := K) (ok := F0) (H := G7) z)))
  have U0 : Gv K (Off d c) G7 [some (.ref d), some (.ref pm), some (.str z), some (.ref mp), some (.ref ep), some (.int (j : Int)), some (.int st), some v4, some v5, some (.int en), some v7, some (.ref L7), some w12] (tVar 12) (.tuple [lnD en (ltD z 1), lnD (en + 1) (tlD z)]) := gv_var rfl (Dd.mono (fun _ h => h.elim) (u7))
  have G := (ga_cons (gv_tup (ga_cons (gv_cat M0 (gv_tup (ga_cons (gv_add N0 (gv_i 2)) ga_nil))) (ga_cons (gv_cat E0 (gv_tup (ga_cons (gv_tup (ga_cons N0 (ga_cons (gv_ix (gv_ix U0 (gv_i 1) atD1) (gv_i 1) atD1) ga_nil))) (ga_cons (gv_tup (ga_cons (gv_add N0 (gv_i 1)) (ga_cons (gv_ix L0 (gv_i 0) atD0) ga_nil))) ga_nil)))) ga_nil))) (ga_cons (gv_tup (ga_cons (gv_b true) (ga_cons E0 ga_nil))) (ga_cons (gv_tup (ga_cons M0 ga_nil)) ga_nil)))
  refine step h7 hv7 G (by simp only [List.length_append, List.length_cons, List.length_nil]; omega) fun H8 L8 vs8 s8 n8 h8 d8 => ?_
  refine qq H8 L8 vs8 j i st (k7'.trans (Keep.of s8)) (E7.same s8) (fresh_back k7' E7 n8) h8 hi hst ?_
  rw [hmv, htw]
  exact d8
end
end L17

namespace L17
open PySem PySem.Spec PyProof.Rows L2 GR AD RZ WX ZE TX RVT BN
/-- all that is forged -/
abbrev forD (M E : List PyData) (z : Str) (en : Int) (mv : List PyData) : List PyData := fo1 M E mv ++ fo2 M E ++ fo3 M E en ++ fo4 M E en (E ++ [lnD en (ltD z 1), lnD (en + 1) (ltD z 2)]) ++ fo5 M E ++ fo6 M E en [lnD en (ltD z 1), lnD (en + 1) (tlD z)] ++ fo7 M E en z
theorem for_bd {S : List Str} {q m : Nat} (b : Bs S q m) {M E mv : List PyData} {z : Str} {en : Int} (hM : Bds S q m 280 6 14 M) (hE : Bds S q m 1753440 175440 14 E) (hmv : Bds S q m 800 50 14 mv) (hz : Nm z ∧ z ∈ S) (h0 : 0 ≤ en) (h1 : en ≤ 10000) : ∀ y, y ∈ forD M E z en mv → Bd S q m 4000000 400000 20 y := by
  have iB : ∀ k : Int, 0 ≤ k → k ≤ 20000 → ∀ p, Bd S q m 43 1 p (.int k) := fun k h1 h2 p => b.i (by omega) (by omega) p
  have pr : ∀ {A B : List PyData} {k1 n1 k2 n2 : Nat}, Bds S q m k1 n1 14 A → Bds S q m k2 n2 14 B → k1 ≤ 2000 → n1 ≤ 100 → k2 ≤ 3600000 → n2 ≤ 360000 → Bd S q m 4000000 400000 20 (prD A B) := fun ha hb a1 a2 a3 a4 => (((ha.tup).two ((hb.tup).two .nil)).tup).mono (by omega) (by omega) (by omega)
  have one : ∀ {x : PyData} {k n p : Nat}, Bd S q m k n p x → k ≤ 400 → n ≤ 20 → p ≤ 14 → Bds S q m 402 20 14 [x] := fun h h1 h2 h3 => ((h.mono (Nat.le_refl _) (Nat.le_refl _) h3).two .nil).mono (by omega) (by omega) (Nat.le_refl _)
  have two : ∀ {x y : PyData} {k n p k' n' p' : Nat}, Bd S q m k n p x → Bd S q m k' n' p' y → k ≤ 400 → n ≤ 20 → p ≤ 14 → k' ≤ 400 → n' ≤ 20 → p' ≤ 14 → Bds S q m 804 40 14 [x, y] := fun h h' h1 h2 h3 h4 h5 h6 => ((h.mono (Nat.le_refl _) (Nat.le_refl _) h3).two ((h'.mono (Nat.le_refl _) (Nat.le_refl _) h6).two .nil)).mono (by omega) (by omega) (Nat.le_refl _)
  have intD : ∀ k : Int, 0 ≤ k → k ≤ 20000 → Bd S q m 70 3 1 (.tuple [.str "int", .int k]) := fun k h1 h2 => (((b.w (w := "int") (by decide) 0).two ((iB k h1 h2 0).two .nil)).tup).mono (by omega) (by omega) (Nat.le_refl _)
  have lt : ∀ k : Int, 0 ≤ k → k ≤ 20000 → Bd S q m 110 7 2 (ltD z k) := fun k h1 h2 => (((b.w (w := "let") (by decide) 1).two ((b.n hz 1).two ((intD k h1 h2).two .nil))).tup).mono (by omega) (by omega) (Nat.le_refl _)
  have vz : Bd S q m 40 3 1 (.tuple [.str "var", .str z]) := (((b.w (w := "var") (by decide) 0).two ((b.n hz 0).two .nil)).tup).mono (by omega) (by omega) (Nat.le_refl _)
  have tl : Bd S q m 110 7 2 (tlD z) := (((b.w (w := "tell") (by decide) 1).two (vz.two .nil)).tup).mono (by omega) (by omega) (Nat.le_refl _)
  have nn : Bd S q m 110 7 2 ndD := (((b.w (w := "need") (by decide) 1).two ((intD 1 (by decide) (by decide)).two .nil)).tup).mono (by omega) (by omega) (Nat.le_refl _)
  have ln : ∀ {k : Int} {x : PyData}, 0 ≤ k → k ≤ 20000 → Bd S q m 110 7 2 x → Bd S q m 200 10 3 (lnD k x) := fun h1 h2 h => (((iB _ h1 h2 2).two (h.two .nil)).tup).mono (by omega) (by omega) (Nat.le_refl _)
  have l1 := ln (k := en) (x := ltD z 1) (by omega) (by omega) (lt 1 (by decide) (by decide))
  have l2 := ln (k := en + 1) (x := ltD z 2) (by omega) (by omega) (lt 2 (by decide) (by decide))
  have l3 := ln (k := en + 1) (x := tlD z) (by omega) (by omega) tl
  have l4 := ln (k := en) (x := tlD z) (by omega) (by omega) tl
  have l5 := ln (k := en + 1) (x := ltD z 1) (by omega) (by omega) (lt 1 (by decide) (by decide))
  have l6 := ln (k := en) (x := ndD) (by omega) (by omega) nn
  have i2 := iB (en + 2) (by omega) (by omega) 0
  have i1 := iB (en + 1) (by omega) (by omega) 0
  have tw := hE.app (two l1 l2 (by decide) (by decide) (by decide) (by decide) (by decide) (by decide))
  have us := two l1 l3 (by decide) (by decide) (by decide) (by decide) (by decide) (by decide)
  have n1 := one i2 (by decide) (by decide) (by decide)
  have n2 := two i1 i2 (by decide) (by decide) (by decide) (by decide) (by decide) (by decide)
  intro y hy
  simp only [List.mem_append, List.mem_cons, List.not_mem_nil, or_false] at hy
  rcases hy with ((((((hy | hy) | hy) | hy) | hy) | hy) | hy)
  · rcases hy with rfl | rfl | rfl | rfl
    · exact pr hmv hE (by decide) (by decide) (by decide) (by decide)
    · exact pr (hM.app (one (iB 10001 (by decide) (by decide) 0) (by decide) (by decide) (by decide))) hE (by decide) (by decide) (by decide) (by decide)
    · exact pr (hM.app (one (iB 10000 (by decide) (by decide) 0) (by decide) (by decide) (by decide))) hE (by decide) (by decide) (by decide) (by decide)
    · exact pr (hM.drop 1) hE (by decide) (by decide) (by decide) (by decide)
  · rcases hy with rfl | rfl
    · exact pr ((one (iB 0 (by decide) (by decide) 0) (by decide) (by decide) (by decide)).app hM) hE (by decide) (by decide) (by decide) (by decide)
    · exact pr (hM.app (hM.take 1)) hE (by decide) (by decide) (by decide) (by decide)
  · subst hy
    exact pr hM (hE.app (one l6 (by decide) (by decide) (by decide))) (by decide) (by decide) (by decide) (by decide)
  · rcases hy with rfl | rfl | rfl
    · exact pr (hM.app n1) tw (by decide) (by decide) (by decide) (by decide)
    · exact pr (hM.app n2) tw (by decide) (by decide) (by decide) (by decide)
    · exact pr hM hE.rev (by decide) (by decide) (by decide) (by decide)
  · rcases hy with rfl | rfl | rfl | rfl
    · exact pr hM ((hE.take 1).app hE) (by decide) (by decide) (by decide) (by decide)
    · exact (((hM.lst).two ((hE.tup).two .nil)).tup).mono (by decide) (by decide) (by decide)
    · exact (((hM.tup).two ((hE.lst).two .nil)).tup).mono (by decide) (by decide) (by decide)
    · have e0 : Bd S q m 3 1 15 (.tuple []) := (Bds.nil (S := S) (q := q) (m := m) (p := 14)).tup
      exact (((hM.tup).two ((hE.tup).two (e0.two .nil))).tup).mono (by decide) (by decide) (by decide)
  · rcases hy with rfl | rfl
    · exact pr (hM.app n1) (hE.app us) (by decide) (by decide) (by decide) (by decide)
    · exact pr (hM.app n2) (hE.app us) (by decide) (by decide) (by decide) (by decide)
  · rcases hy with rfl | rfl | rfl
    · exact pr (hM.app n1) (hE.app (two l4 l5 (by decide) (by decide) (by decide) (by decide) (by decide) (by decide))) (by decide) (by decide) (by decide) (by decide)
    · exact ((((bd_bool true).mono (Nat.le_refl _) (Nat.le_refl _) (Nat.zero_le 15)).two ((hE.tup).two .nil)).tup).mono (by decide) (by decide) (by decide)
    · exact (((hM.tup).two .nil).tup).mono (by decide) (by decide) (by decide)
section
variable {P : Program} {w : World} {K : PySem.W.Frag} {mg : Str → Option Value} {base : Heap}
abbrev s_law_right : Stmt := topS 60
abbrev N_ri : List Str := ["_law_thing", "_law_before", "_law_found"]
theorem sc_law_right : FnScope N_ri ["_law_thing"] (defScope s_law_right) := ⟨rfl, rfl, rfl, by decide +kernel, rfl, by decide +kernel, by decide +kernel⟩
/-- what may be asked about -/
structure Ask (K : PySem.W.Frag) (ok : Addr → Prop) (H : Hp) (v : V) (d : PyData) (S : List Str) : Prop where
  dd : Dd K ok H v d
  far : ∀ a, ok a → a ≠ sysModules
  lp : Lp S d
  s60 : S.length ≤ 60
  shw : Shw d
  so : PyData.strOk d.shown = true
def sp_right (K : PySem.W.Frag) : Sp := fun vs H Q _ => ∃ (v : V) (d : PyData) (ok : Addr → Prop) (S : List Str), vs = [v] ∧ Ask K ok H v d S ∧ ∀ H', Same H H' → Q (.bl true) H'
theorem ok_right {f fl fx : Addr} {fd dl dx : FuncData} {k : Nat} (F : Fun K "_law_right" "_law_right" s_law_right f fd)
    (Gl : FnOk P w K mg base CX0 k fl dl ["_law_thing"] (sp_il K)) (gl : mg "_law_is_log" = some (.ref fl)) (Kl : PySem.W.keepIn K (.ref fl) = true) (bl : Binds K dl ["_law_thing"] [])
    (Gx : FnOk P w K mg base CX0 k fx dx ["thing"] (sp_il K)) (gx : mg "is_log" = some (.ref fx)) (Kx : PySem.W.keepIn K (.ref fx) = true) (bx : Binds K dx ["thing"] [])
    (mrepr : mg "repr" = none) (misi : mg "isinstance" = none) (mbool : mg "bool" = none) : FnG P w K mg base CX0 (k + 1) f fd ["_law_thing"] (sp_right K) := by
  have nd := sc_law_right.nd
  refine ok_g F sc_law_right (fun vs H Q E h => ?_) (fun cdv A outer s H vs Q E hg hr h => ?_)
  · obtain ⟨v, d, ok, S, rfl, _⟩ := h
    rfl
  obtain ⟨v, d, ok, S, rfl, a, q⟩ := h
  refine ⟨_, (pss_cons (ps_set (i := 1) nd rfl (.inl rfl) (pe_callB (call_reprA hg hr) (by rfl) mrepr boot_repr (pa_cons (pv 0) pa_nil)))
      (pss_cons (ps_set (i := 2) nd rfl (.inl rfl) (pe_call Gx hr (by rfl) gx Kx bx .nil pass0 (pa_cons (pv 0) pa_nil)))
      (pss_one (ps_ret (pe_and (pe_callB call_isi (by rfl) misi boot_isinstance (pa_cons (pv 2) (pa_cons (pe_bltn (v := .ty "bool") (by rfl) mbool boot_bool rfl) pa_nil))) (pe_and (pe_cmpR op_eq (pv 2) (pe_call Gl hr (by rfl) gl Kl bl .nil pass0 (pa_cons (pv 0) pa_nil)) (nomark _)) (pe_one (pe_cmpR op_eq (pe_callB (call_reprA hg hr) (by rfl) mrepr boot_repr (pa_cons (pv 0) pa_nil)) (pv 1) (nomark _))))))))), ?_⟩
  refine ⟨v, rfl, v, d, ok, rfl, a.far, a.dd, a.shw, v, rfl, v, d, ok, S, rfl, a.dd, a.lp, a.s60, fun H1 s1 => ?_⟩
  refine ⟨.bl (logB d), rfl, .bl (logB d), .ty "bool", _, _, _, rfl, .ty "bool", (Dd.bl (K := K) (ok := ok) (H := H1) (logB d)).ty, kit_b K _, _, rfl, iteT ?_⟩
  refine ⟨.bl (logB d), rfl, v, rfl, v, d, ok, S, rfl, a.dd.keep (KeepO.of s1), a.lp, a.s60, fun H2 s2 => ⟨rfl, _, rfl, ?_⟩⟩
  have s02 := s1.trans s2
  rw [decide_eq_true (rfl : V.bl (logB d) = V.bl (logB d))]
  refine iteT ⟨v, rfl, v, d, ok, rfl, a.far, a.dd.keep (KeepO.of s02), a.shw, .str d.shown, rfl, rfl, ?_⟩
  rw [decide_eq_true (rfl : V.str d.shown = V.str d.shown)]
  exact q H2 s02
end
end L17

namespace L17
open PySem PySem.Spec PyProof.Rows L2 GR AD RZ WX ZE TX RVT BN
theorem parts_mem {es : List En} {e : En} (he : e ∈ es) : ∀ {ms : List Int} {m : Int}, m ≤ e.1 → (∃ x, x ∈ m :: ms ∧ e.1 < x) → ∃ q, q ∈ partsOf (m :: ms) es ∧ e.2.2 ∈ q
  | [], m, h1, ⟨x, hx, hlt⟩ => by
    rw [List.mem_singleton.mp hx] at hlt
    omega
  | m' :: ms, m, h1, ⟨x, hx, hlt⟩ => by
    by_cases c : e.1 < m'
    · refine ⟨between m m' es, by rw [partsOf]; exact List.mem_cons_self, ?_⟩
      unfold between
      exact List.mem_map.mpr ⟨e, List.mem_filter.mpr ⟨he, by rw [decide_eq_true h1, decide_eq_true c]; rfl⟩, rfl⟩
    · have hx' : ∃ x, x ∈ m' :: ms ∧ e.1 < x := by
        rcases List.mem_cons.mp hx with rfl | hx
        · omega
        · exact ⟨x, hx, hlt⟩
      obtain ⟨q, h2, h3⟩ := parts_mem he (by omega) hx'
      exact ⟨q, by rw [partsOf]; exact List.mem_cons_of_mem _ h2, h3⟩
theorem made_mem {ms : List Int} {es : List En} (ok : OkL ms es) (hlt : ∀ e, e ∈ es → ∃ m, m ∈ ms ∧ e.1 < m) {e : En} (he : e ∈ es) : ∃ q, q ∈ partsOf ms es ∧ e.2.2 ∈ q := by
  obtain ⟨m, hm, hl⟩ := hlt e he
  cases ms with
  | nil => cases hm
  | cons m0 mr =>
    refine parts_mem he ?_ ⟨m, hm, hl⟩
    have h1 := (List.pairwise_cons.mp ok.mono).1
    have h2 := ok.eb e he
    rcases List.mem_cons.mp ok.m0 with e0 | e0
    · omega
    · have := h1 0 e0
      have := ok.mb m0 List.mem_cons_self
      omega
theorem svs_zip {K : PySem.W.Frag} {H : Hp} : ∀ {us : List V} {ds : List PyData}, SVs K H us ds → ∃ l : List St1, l.map (·.1) = us ∧ l.map (·.2) = ds ∧ ∀ s, s ∈ l → SV K H s.1 s.2
  | _, _, .nil => ⟨[], rfl, rfl, fun s hs => (nomatch hs)⟩
  | _, _, .cons (a := v) (b := d) h t => by
    obtain ⟨l, h1, h2, h3⟩ := svs_zip t
    refine ⟨(v, d) :: l, by rw [List.map_cons, h1], by rw [List.map_cons, h2], fun s hs => ?_⟩
    rcases List.mem_cons.mp hs with rfl | hs
    · exact h
    · exact h3 s hs
section
variable {K : PySem.W.Frag} {H : Hp}
theorem sv_dd {v : V} {x : PyData} (h : SV K H v x) : Dd K F0 H v x := by
  obtain ⟨p, w, v1, vs, rfl, h1, h2, h3, h4⟩ := h
  exact dd_of _ _ h4.flat h3
theorem ens_dd : ∀ {rs : List Addr} {es : List En}, EnsOk K H rs es → DdAll K F0 H (rs.map V.ref) (es.map enT)
  | _, _, .nil => .nil
  | _, _, .cons h t => by
    obtain ⟨h1, h2⟩ := h
    exact .cons (.tup (.inl (.inl h1)) (.cons (.int _) (.cons (sv_dd h2) .nil))) (ens_dd t)
theorem ints_dd : ∀ ms : List Int, DdAll K F0 H (ms.map V.int) (ms.map PyData.int)
  | [] => .nil
  | m :: ms => .cons (.int m) (ints_dd ms)
theorem lgF_dd {p : Addr} {ms : List Int} {es : List En} (h : LgF K H p ms es) : Dd K F0 H (.ref p) (madeD ms es) := by
  obtain ⟨mp, ep, rs, h1, h2, h3, h4⟩ := h
  exact .tup (.inl (.inl h1)) (.cons (.tup (.inl (.inl h2)) (ints_dd ms)) (.cons (.tup h3.sq (ens_dd h4)) .nil))
end
theorem off_far {d c : Addr} : ∀ a, Off d c a → a ≠ sysModules := fun a h => h.2.2
theorem off3_far {d c L : Addr} : ∀ a, Off3 d c L a → a ≠ sysModules := fun a h => h.1.2.2
/-- it may be asked about -/
def Ak (x : PyData) : Prop := ∃ S q m l s p, Bd S q m l s p x ∧ S.length ≤ 60 ∧ q ≤ 1000 ∧ m ≤ 10 ^ 41 ∧ l ≤ 16000000 ∧ s ≤ 4000000 ∧ p < 40
theorem Ak.ask {x : PyData} (h : Ak x) {K : PySem.W.Frag} {ok : Addr → Prop} {H : Hp} {v : V} (hd : Dd K ok H v x) (hf : ∀ a, ok a → a ≠ sysModules) : ∃ S, Ask K ok H v x S := by
  obtain ⟨S, q, m, l, s, p, hb, h1, h2, h3, h4, h5, h6⟩ := h
  exact ⟨S, hd, hf, hb.lp h2 h6 h5, h1, ⟨at_shw h3 x hb.at', Nat.le_trans hb.dep (by omega), Nat.le_trans (shown_wl x) (Nat.le_trans hb.len (Nat.le_trans h4 (by decide)))⟩, so_iff.mpr (at_so x hb.at')⟩
/-- the texts of a round -/
abbrev roundS (ts cs ns ls : List Str) : List Str := baseS ++ (ts ++ (cs ++ (ns ++ ls)))
theorem round_len {ts cs ns ls : List Str} (h1 : ts.length = 2) (h2 : cs.length = 3) (h3 : ns.length = 3) (h4 : ls.length ≤ 24) : (roundS ts cs ns ls).length ≤ 56 := by
  rw [List.length_append, List.length_append, List.length_append, List.length_append, h1, h2, h3]
  have : baseS.length = 24 := rfl
  omega
theorem round_bs {ts cs ns ls : List Str} : Bs (roundS ts cs ns ls) 50 (10 ^ 39) := ⟨fun w hw => List.mem_append_left _ hw, by decide, by decide, by decide⟩
theorem round_wz {ts cs ns ls : List Str} (h1 : ∀ z, z ∈ ts → Nm z) (h2 : ∀ z, z ∈ cs → Nm z) : Wz (roundS ts cs ns ls) ts cs :=
  ⟨fun z hz => ⟨h1 z hz, List.mem_append_right _ (List.mem_append_left _ hz)⟩, fun z hz => ⟨h2 z hz, List.mem_append_right _ (List.mem_append_right _ (List.mem_append_left _ hz))⟩, List.mem_append_left _ (by decide)⟩
theorem round_ns {ts cs ns ls : List Str} {z : Str} (h : z ∈ ns) : z ∈ roundS ts cs ns ls := List.mem_append_right _ (List.mem_append_right _ (List.mem_append_right _ (List.mem_append_left _ h)))
theorem round_ls {ts cs ns ls : List Str} {z : Str} (h : z ∈ ls) : z ∈ roundS ts cs ns ls := List.mem_append_right _ (List.mem_append_right _ (List.mem_append_right _ (List.mem_append_right _ h)))
theorem lets_le (ds : List PyData) : (letsD ds).length ≤ ds.length := List.length_filterMap_le _ _
theorem lets_all : ∀ {T : List (List PyData)}, (∀ t, t ∈ T → t.length ≤ 6) → (T.flatMap letsD).length ≤ 6 * T.length
  | [], _ => Nat.le_refl _
  | t :: T, h => by
    have h1 := lets_le t
    have h2 := h t List.mem_cons_self
    have ih := lets_all (T := T) fun x hx => h x (List.mem_cons_of_mem _ hx)
    rw [List.flatMap_cons, List.length_append, List.length_cons]
    omega
/-- all of a round's log -/
structure Rd2 (S : List Str) (ms : List Int) (es : List En) : Prop where
  ok : OkL ms es
  log : logB (madeD ms es) = true
  bm : Bds S 50 (10 ^ 39) 280 6 14 (ms.map PyData.int)
  be : Bds S 50 (10 ^ 39) 1753440 175440 14 (es.map enT)
theorem round_ok {ts cs ns : List Str} (h1 : ∀ z, z ∈ ts → Nm z) (h2 : ∀ z, z ∈ cs → Nm z) {T : List (List PyData)} (hT : ∀ t, t ∈ T → Chain ts cs t) {ms : List Int} {es : List En} (ok : OkL ms es) (hp : partsOf ms es = T) (hlt : ∀ e, e ∈ es → ∃ m, m ∈ ms ∧ e.1 < m) :
    Rd2 (roundS ts cs ns (T.flatMap letsD)) ms es := by
  have w : Wz (roundS ts cs ns (T.flatMap letsD)) ts cs := round_wz h1 h2
  have hl : ∀ t, t ∈ T → ∀ z, z ∈ letsD t → z ∈ roundS ts cs ns (T.flatMap letsD) := fun t ht z hz => round_ls (List.mem_flatMap.mpr ⟨t, ht, hz⟩)
  obtain ⟨b1, b2⟩ := made_bd round_bs ok fun e he => by
    obtain ⟨q, hq, hx⟩ := made_mem ok hlt he
    rw [hp] at hq
    exact (hT q hq).bd round_bs w (hl q hq) _ hx
  exact ⟨ok, made_ok ok hlt fun t ht => by rw [hp] at ht; exact (hT t ht).ok w (hl t ht), b1, b2⟩
end L17

set_option maxHeartbeats 8000000
namespace L17
open PySem PySem.Spec PyProof.Rows L2 GR AD RZ WX ZE TX RVT BN
theorem Wd.keepB {H H' : Hp} {d c u tl cl nl B : Addr} {ts cs ns : List Str} (W : Wd H d c u tl cl nl ts cs ns) (k : ∀ b o, b ≠ d → b ≠ c → b ≠ B → H b = some o → H' b = some o) (n : H B = none) : Wd H' d c u tl cl nl ts cs ns :=
  ⟨k _ _ W.u0.1 W.u0.2 (ne_of_none W.dct n) W.dct, k _ _ W.t0.1 W.t0.2 (ne_of_none W.ht n) W.ht, k _ _ W.c0.1 W.c0.2 (ne_of_none W.hc n) W.hc, k _ _ W.n0.1 W.n0.2 (ne_of_none W.hn n) W.hn, W.t0, W.c0, W.n0, W.u0, W.lt, W.lc, W.ln, W.at', W.ac, W.an⟩
/-- the things of the end -/
abbrev needD : PyData := .tuple [.str "need", .tuple [.str "int", .int 1]]
abbrev end1 : List PyData := [.tuple [.tuple [.int 0], .tuple []], .tuple [.tuple [.tuple [.int 0], .tuple []]], .tuple [.tuple [.bool false], .tuple []], .tuple [.tuple [.int 0, .int 0, .int 0], .tuple []], .tuple [.tuple [.int 0, .int 10000], .tuple []], .tuple [.tuple [], .tuple []], .tuple [.tuple [.int 0], .none]]
abbrev end2 : List PyData := [.tuple [.int 0, .tuple []], .none, .bool true, .int 0, .str "marks 0", .tuple [], .list [], .dict [], .tuple [.tuple [.int 0, .int 1], .tuple [.tuple [.int 0, .tuple []]]], .tuple [.tuple [.int 0, .int 1], .tuple [.int 0]]]
abbrev end3 : PyData := .tuple [.tuple [.int 0, .int 2], .tuple [.tuple [.bool true, needD]]]
abbrev end4 : PyData := .tuple [.tuple [.int 0, .int 1], .tuple [.tuple [.int 0, needD]]]
def bdB (S : List Str) (q m l s p : Nat) (x : PyData) : Bool := decide (x.depth ≤ p) && (atB S q m x && (decide (wl x ≤ l) && decide (L17.sz x ≤ s)))
theorem bd_of {S : List Str} {q m l s p : Nat} {x : PyData} (h : bdB S q m l s p x = true) : Bd S q m l s p x := by
  unfold bdB at h
  simp only [Bool.and_eq_true, decide_eq_true_eq] at h
  exact ⟨⟨h.1, h.2.1⟩, h.2.2.1, h.2.2.2⟩
theorem end_ak : ∀ x, x ∈ end1 ++ end2 ++ [end3] ++ [end4] → Ak x := by
  have : (end1 ++ end2 ++ [end3] ++ [end4]).all (bdB ["need", "int", "marks 0"] 20 20000 200 30 10) = true := by decide +kernel
  exact fun x hx => ⟨_, _, _, _, _, _, bd_of (List.all_eq_true.mp this x hx), by decide, by decide, by decide, by decide, by decide, by decide⟩
section
variable {K : PySem.W.Frag} {ok : Addr → Prop} {H0 : Hp} {σ : L2.St}
theorem gv_n : Gv K ok H0 σ (tC .non) .none := gv_c fun _ => .non
theorem gv_l0 (hok : ∀ H p, Same H0 H → H p = none → p ≠ sysModules → ok p) : Gv K ok H0 σ (tLstS tNil) (.list []) := fun H Q s q =>
  ⟨Nat.zero_le _, fun p np far => q _ _ (same_upd np) (.lst upd_same (hok H p s np far) .nil)⟩
theorem gv_d0 (hok : ∀ H p, Same H0 H → H p = none → p ≠ sysModules → ok p) : Gv K ok H0 σ (tSys tDNewK) (.dict []) := fun H Q s q =>
  fun p np far => q _ _ (same_upd np) (.dk (kvs := []) (ds := []) upd_same (hok H p s np (far p _ upd_same)) .nil)
end
section
variable {P : Program} {w : World} {K : PySem.W.Frag} {mg : Str → Option Value} {base : Heap}
abbrev s_law : Stmt := topS 61
abbrev N_law : List Str := ["_law_script", "_law_deck_here", "_law_turn", "_law_world_here", "_law_k", "_law_some", "_law_made", "_law_things", "_law_thing"]
theorem sc_law : FnScope N_law ["_law_script"] (defScope s_law) := ⟨rfl, rfl, rfl, by decide +kernel, rfl, by decide +kernel, by decide +kernel⟩
def sp_law (K : PySem.W.Frag) : Sp := fun vs H Q _ => ∃ (a : Addr) (ns : List Int), vs = [.ref a] ∧ SqL K H a (ns.map V.int) ∧ ∀ H', Q (.bl true) H'
theorem ok_law {f f_deck f_draw f_world f_tran f_right f_spr f_il f_fo f_spo : Addr} {fd d_deck d_draw d_world d_tran d_right d_spr d_il d_fo d_spo : FuncData} {k : Nat} (F : Fun K "law" "law" s_law f fd)
    (G_deck : FnOk P w K mg base CX0 k f_deck d_deck ["_law_script"] (sp_deck K)) (g_deck : mg "_law_deck" = some (.ref f_deck)) (K_deck : PySem.W.keepIn K (.ref f_deck) = true) (b_deck : Binds K d_deck ["_law_script"] [])
    (G_draw : FnOk P w K mg base CX0 k f_draw d_draw ["_law_deck_here", "_law_most"] sp_draw) (g_draw : mg "_law_draw" = some (.ref f_draw)) (K_draw : PySem.W.keepIn K (.ref f_draw) = true) (b_draw : Binds K d_draw ["_law_deck_here", "_law_most"] [])
    (G_world : FnOk P w K mg base CX0 k f_world d_world ["_law_deck_here"] sp_world) (g_world : mg "_law_world" = some (.ref f_world)) (K_world : PySem.W.keepIn K (.ref f_world) = true) (b_world : Binds K d_world ["_law_deck_here"] [])
    (G_tran : FnOk P w K mg base CX0 k f_tran d_tran ps_tr (sp_tran K)) (g_tran : mg "_law_transaction" = some (.ref f_tran)) (K_tran : PySem.W.keepIn K (.ref f_tran) = true) (b_tran : Binds K d_tran ps_tr [])
    (G_right : FnG P w K mg base CX0 k f_right d_right ["_law_thing"] (sp_right K)) (g_right : mg "_law_right" = some (.ref f_right)) (K_right : PySem.W.keepIn K (.ref f_right) = true) (b_right : Binds K d_right ["_law_thing"] [])
    (G_spr : FnOk P w K mg base CX0 k f_spr d_spr ["_law_deck_here", "_law_some"] (sp_spread K)) (g_spr : mg "_law_spread" = some (.ref f_spr)) (K_spr : PySem.W.keepIn K (.ref f_spr) = true) (b_spr : Binds K d_spr ["_law_deck_here", "_law_some"] [])
    (G_il : FnOk P w K mg base CX0 k f_il d_il ["thing"] (sp_il K)) (g_il : mg "is_log" = some (.ref f_il)) (K_il : PySem.W.keepIn K (.ref f_il) = true) (b_il : Binds K d_il ["thing"] [])
    (G_fo : FnOk P w K mg base CX0 k f_fo d_fo ["_law_deck_here", "_law_made", "_law_name"] (sp_fo K)) (g_fo : mg "_law_forged" = some (.ref f_fo)) (K_fo : PySem.W.keepIn K (.ref f_fo) = true) (b_fo : Binds K d_fo ["_law_deck_here", "_law_made", "_law_name"] [])
    (G_s6 : FnOk P w K mg base CX0 k f_spo d_spo ["_law_deck_here", "_law_thing", "_law_deep"] (sp_spo K 6)) (G_s4 : FnOk P w K mg base CX0 k f_spo d_spo ["_law_deck_here", "_law_thing", "_law_deep"] (sp_spo K 4)) (g_spo : mg "_law_spoilt" = some (.ref f_spo)) (K_spo : PySem.W.keepIn K (.ref f_spo) = true) (b_spo : Binds K d_spo ["_law_deck_here", "_law_thing", "_law_deep"] [])
    (mrange : mg "range" = none) (mmax : mg "max" = none) (mmin : mg "min" = none) (mlen : mg "len" = none) : FnG P w K mg base CX0 (k + 1) f fd ["_law_script"] (sp_law K) := by
  have nd := sc_law.nd
  refine ok_g F sc_law (fun vs H Q E h => ?_) (fun cdv A outer s H vs Q E hg hr h => ?_)
  · obtain ⟨a, ns, rfl, _⟩ := h
    rfl
  obtain ⟨a, ns, rfl, hS, q⟩ := h
  have hu0 := hr.units0
  have hu1 := hu_of hr
  refine ⟨_, (pss_cons (ps_set (i := 1) nd rfl (.inr rfl) (pe_call G_deck hr (by rfl) g_deck K_deck b_deck .nil pass0 (pa_cons (pv 0) pa_nil)))
      (Evl.pss_cut (ps_for PassesOwn.never rfl (pi_range1 rfl mrange (pa_cons (pe_callB (call_max2 rfl) (by rfl) mmax boot_max (pa_cons pe_int (pa_cons (pe_callB (call_min2 rfl) (by rfl) mmin boot_min (pa_cons (pe_callB call_len_seq (by rfl) mlen PySem.boot_len (pa_cons (pv 0) pa_nil)) (pa_cons pe_int pa_nil))) pa_nil))) pa_nil)) (pg_name (i := 2) nd rfl (Or.inl rfl))
      (pss_cons (ps_set (i := 3) nd rfl (.inr rfl) (pe_call G_world hr (by rfl) g_world K_world b_world .nil pass0 (pa_cons (pv 1) pa_nil)))
        (Evl.pss_cut (ps_setLc (i := 5) (own := [("_law_k", 4)]) (te := tCall (sp_tran K) [] E0 (tCons (tVar 1) (tCons (tVar 3) (tCons (tC (.int 4)) (tCons (tC (.int 2)) tNil))))) rfl nd rfl rfl (sw_true rfl rfl rfl (by decide +kernel)) (pi_range1 rfl mrange (pa_cons (pe_call G_draw hr (by rfl) g_draw K_draw b_draw .nil pass0 (pa_cons (pv 1) (pa_cons pe_int pa_nil))) pa_nil)) (blkOk_by (N := N_law) (sc := defScope s_law) (by decide +kernel)) (fun _ _ _ _ _ => (pg_name (i := 4) nd rfl (Or.inl rfl))) (fun _ _ _ _ _ => pts_nil) (fun _ _ _ _ _ => (pe_call G_tran hr (by rfl) g_tran K_tran b_tran .nil pass0 (pa_cons (pv 1) (pa_cons (pv 3) (pa_cons pe_int (pa_cons pe_int pa_nil)))))))
        (pss_cons (ps_set (i := 6) nd rfl (.inl rfl) (pe_call G_spr hr (by rfl) g_spr K_spr b_spr .nil pass0 (pa_cons (pv 1) (pa_cons (pv 5) pa_nil))))
        (pss_cons (ps_if (pt_cmpR op_notBl (pe_call G_il hr (by rfl) g_il K_il b_il .nil pass0 (pa_cons (pv 6) pa_nil)) pe_bl (nomark _))
        (pss_one (ps_ret pe_bl))
        pss_nil)
        (pss_cons (ps_set (i := 7) nd rfl (.inl rfl) (pe_call G_fo hr (by rfl) g_fo K_fo b_fo .nil pass0 (pa_cons (pv 1) (pa_cons (pv 6) (pa_cons (pe_ix ix_list (pe_dget hu1 (pv 3) pe_str noSl_str) pe_int (fun _ _ => rfl)) pa_nil)))))
        (Evl.pss_cut (ps_for PassesOwn.never rfl (pi_range1 rfl mrange (pa_cons pe_int pa_nil)) (pg_name (i := 4) nd rfl (Or.inl rfl))
        (Evl.pss_cut (ps_expr (pe_bm PySem.F.plainAttrs_list PySem.F.slot_list_append PySem.F.type_list_append mt_append (pv 7) (pa_cons (pe_call G_s6 hr (by rfl) g_spo K_spo b_spo .nil pass0 (pa_cons (pv 1) (pa_cons (pv 6) (pa_cons pe_int pa_nil)))) pa_nil)))
          (pss_one (ps_if (pt_cmpR op_eq (pe_call G_draw hr (by rfl) g_draw K_draw b_draw .nil pass0 (pa_cons (pv 1) (pa_cons pe_int pa_nil))) pe_int (nomark _))
          (pss_one (ps_asg (pe_call G_s4 hr (by rfl) g_spo K_spo b_spo .nil pass0 (pa_cons (pv 1) (pa_cons (pe_ix ix_list (pv 7) (pe_un un_neg pe_int) (fun _ _ => rfl)) (pa_cons pe_int pa_nil)))) (pg_sub (pv 7) (pe_un un_neg pe_int) set_list)))
          pss_nil))))
        (pss_one (ps_if (pt_cmpR (op_neL0 hu0) (pe_lc (own := [("_law_thing", 8)]) (tt := tNot (tB (tCall (sp_right K) [] E0 (tCons (tVar 8) tNil)))) (te := tVar 8) rfl nd (pi_list (pe_op op_cat (pv 7) (pe_lst (pa_cons (pv 6) pa_nil)))) (blkOk_by (N := N_law) (sc := defScope s_law) (by decide +kernel)) (fun _ _ _ _ _ => (pg_name (i := 8) nd rfl (Or.inl rfl))) (fun _ _ _ _ _ => (pts_one (pt_not (pt_val (pe_callG G_right hg hr (by rfl) g_right K_right b_right pass0 (pa_cons (pv 8) pa_nil)))))) (fun _ _ _ _ _ => (pv 8))) (pe_lst pa_nil) (nomark _))
        (pss_one (ps_ret pe_bl))
        pss_nil)))))))))
      (Evl.pss_cut (ps_set (i := 5) nd rfl (.inl rfl) (pe_lst (pa_cons (pe_tup (pa_cons (pe_tup (pa_cons pe_int pa_nil)) (pa_cons (pe_tup pa_nil) pa_nil))) (pa_cons (pe_tup (pa_cons (pe_tup (pa_cons (pe_tup (pa_cons pe_int pa_nil)) (pa_cons (pe_tup pa_nil) pa_nil))) pa_nil)) (pa_cons (pe_tup (pa_cons (pe_tup (pa_cons pe_bl pa_nil)) (pa_cons (pe_tup pa_nil) pa_nil))) (pa_cons (pe_tup (pa_cons (pe_tup (pa_cons pe_int (pa_cons pe_int (pa_cons pe_int pa_nil)))) (pa_cons (pe_tup pa_nil) pa_nil))) (pa_cons (pe_tup (pa_cons (pe_tup (pa_cons pe_int (pa_cons pe_int pa_nil))) (pa_cons (pe_tup pa_nil) pa_nil))) (pa_cons (pe_tup (pa_cons (pe_tup pa_nil) (pa_cons (pe_tup pa_nil) pa_nil))) (pa_cons (pe_tup (pa_cons (pe_tup (pa_cons pe_int pa_nil)) (pa_cons pe_non pa_nil))) pa_nil)))))))))
      (Evl.pss_cut (ps_set (i := 5) nd rfl (.inl rfl) (pe_op op_cat (pv 5) (pe_lst (pa_cons (pe_tup (pa_cons pe_int (pa_cons (pe_tup pa_nil) pa_nil))) (pa_cons pe_non (pa_cons pe_bl (pa_cons pe_int (pa_cons pe_str (pa_cons (pe_tup pa_nil) (pa_cons (pe_lstS pa_nil) (pa_cons (pe_sys pe_dnewK) (pa_cons (pe_tup (pa_cons (pe_tup (pa_cons pe_int (pa_cons pe_int pa_nil))) (pa_cons (pe_tup (pa_cons (pe_tup (pa_cons pe_int (pa_cons (pe_tup pa_nil) pa_nil))) pa_nil)) pa_nil))) (pa_cons (pe_tup (pa_cons (pe_tup (pa_cons pe_int (pa_cons pe_int pa_nil))) (pa_cons (pe_tup (pa_cons pe_int pa_nil)) pa_nil))) pa_nil)))))))))))))
      (Evl.pss_cut (ps_expr (pe_bm PySem.F.plainAttrs_list PySem.F.slot_list_append PySem.F.type_list_append mt_append (pv 5) (pa_cons (pe_tup (pa_cons (pe_tup (pa_cons pe_int (pa_cons pe_int pa_nil))) (pa_cons (pe_tup (pa_cons (pe_tup (pa_cons pe_bl (pa_cons (pe_tup (pa_cons pe_str (pa_cons (pe_tup (pa_cons pe_str (pa_cons pe_int pa_nil))) pa_nil))) pa_nil))) pa_nil)) pa_nil))) pa_nil)))
      (pss_one (ps_ret (pe_cmpR (op_eqL0 hu0) (pe_lc (own := [("_law_thing", 8)]) (tt := tNot (tB (tCall (sp_right K) [] E0 (tCons (tVar 8) tNil)))) (te := tVar 8) rfl nd (pi_list (pe_op op_cat (pv 5) (pe_lst (pa_cons (pe_tup (pa_cons (pe_tup (pa_cons pe_int (pa_cons pe_int pa_nil))) (pa_cons (pe_tup (pa_cons (pe_tup (pa_cons pe_int (pa_cons (pe_tup (pa_cons pe_str (pa_cons (pe_tup (pa_cons pe_str (pa_cons pe_int pa_nil))) pa_nil))) pa_nil))) pa_nil)) pa_nil))) pa_nil)))) (blkOk_by (N := N_law) (sc := defScope s_law) (by decide +kernel)) (fun _ _ _ _ _ => (pg_name (i := 8) nd rfl (Or.inl rfl))) (fun _ _ _ _ _ => (pts_one (pt_not (pt_val (pe_callG G_right hg hr (by rfl) g_right K_right b_right pass0 (pa_cons (pv 8) pa_nil)))))) (fun _ _ _ _ _ => (pv 8))) (pe_lst pa_nil) (nomark _))))))))), ?_⟩
  refine ⟨.ref a, rfl, a, ns, rfl, hS, fun H1 d c s1 n1 D1 => ?_⟩
  have hS1 : SqL K H1 a (ns.map V.int) := s1.seq hS
  obtain ⟨m, hm, hm3⟩ : ∃ m : Nat, (if (if (3 : Int) < ((ns.map V.int).length : Int) then 3 else ((ns.map V.int).length : Int)) > 1 then (if (3 : Int) < ((ns.map V.int).length : Int) then 3 else ((ns.map V.int).length : Int)) else 1) = (m : Int) ∧ m ≤ 3 := by
    refine ⟨(if (if (3 : Int) < ((ns.map V.int).length : Int) then 3 else ((ns.map V.int).length : Int)) > 1 then (if (3 : Int) < ((ns.map V.int).length : Int) then 3 else ((ns.map V.int).length : Int)) else 1).toNat, ?_⟩
    split <;> split <;> omega
  refine ⟨fun σ' H' => ∃ y2 y3 y4 y5 y6 y7, σ' = [some (.ref a), some (.ref d), y2, y3, y4, y5, y6, y7, none] ∧ Deck H' d c 6000000, ?_, ?_⟩
  · refine ⟨.ref a, rfl, a, _, rfl, .inl hS1, _, _, rfl, _, _, rfl, ?_⟩
    rw [hm]
    refine ⟨(m : Int), rfl, by omega, by omega, ?_⟩
    rw [show ((m : Int)).toNat = m by omega]
    refine for_range (n := m) (fun i σ H' => ∃ y2 y3 y4 y5 y6 y7, σ = [some (.ref a), some (.ref d), y2, y3, y4, y5, y6, y7, none] ∧ Deck H' d c (2000000 * (i : Int))) ?_ ?_ ?_
    · exact ⟨none, none, none, none, none, none, rfl, D1.mono (by omega)⟩
    · rintro i σ H2 hi ⟨y2, y3, y4, y5, y6, y7, rfl, D2⟩
      refine ⟨.ref d, rfl, d, c, _, rfl, D2, by omega, fun H3 u tl cl nl ts cs nms k3 D3 nu W3 => ?_⟩
      refine ⟨fun σ' H' => ∃ y2 y4 so T, σ' = [some (.ref a), some (.ref d), y2, some (.ref u), y4, some (.ref so), y6, y7, none] ∧ Deck H' d c (2000000 * (i : Int) + 900000) ∧ Sm K H' so T ∧ so ≠ d ∧ so ≠ c ∧ (∀ t, t ∈ T → Chain ts cs (tdat t) ∧ t.2.length ≤ 6) ∧ Wd H' d c u tl cl nl ts cs nms, ?_, ?_⟩
      · refine ⟨.ref d, rfl, d, c, _, 5, rfl, D3, by omega, by decide, by decide, fun H4 r k4 D4 r0 r6 => ?_⟩
        obtain ⟨n, rfl⟩ := Int.eq_ofNat_of_zero_le r0
        refine ⟨(n : Int), rfl, by omega, by omega, fun B nB => ?_⟩
        rw [show ((n : Int)).toNat = n by omega]
        have hBd := D4.new nB
        have W4 := W3.keep k4
        refine lc_range (n := n) (fun j H' => ∃ T : List (Addr × List St1), H' B = some (.lst (T.map fun t => V.ref t.1)) ∧ T.length = j ∧ (∀ t, t ∈ T → H' t.1 = some (.tup (t.2.map (·.1))) ∧ t.2.length ≤ 6 ∧ (∀ s, s ∈ t.2 → SV K H' s.1 s.2) ∧ Chain ts cs (tdat t)) ∧ Deck H' d c (2000000 * (i : Int) + 31 + 200000 * (j : Int)) ∧ ∀ b o, b ≠ d → b ≠ c → b ≠ B → H4 b = some o → H' b = some o) ?_ ?_ ?_
        · have sB := same_upd (o := .lst []) nB
          exact ⟨[], upd_same, rfl, fun t ht => (nomatch ht), (D4.same sB).mono (by omega), fun b o _ _ _ e => sB _ _ e⟩
        · rintro j H5 hj ⟨T, hB, hTl, hT, D5, kB⟩
          have W5 := W4.keepB kB nB
          refine ⟨rfl, yes_then ⟨.ref d, rfl, .ref u, rfl, d, c, u, tl, cl, nl, _, 2, 4, ts, cs, nms, rfl, by decide, by decide, D5, by omega, W5, fun H6 p us ds k6 D6 hp hus hul hch => ?_⟩⟩
          obtain ⟨l, hl1, hl3, hl2⟩ := svs_zip hus
          have hB6 := k6 _ _ hBd.1 hBd.2 hB
          have kt6 := k6.t D5
          have ktB : KeepT H6 (upd H6 B (.lst ((T.map fun t => V.ref t.1) ++ [.ref p]))) := KeepT.lst hB6
          refine ⟨_, hB6, small1000 (by rw [List.length_map]; omega), T ++ [(p, l)], by rw [List.map_append]; exact upd_same, by rw [List.length_append, hTl]; rfl, fun t ht => ?_, (D6.upd hBd.1 hBd.2).mono (by omega), ?_⟩
          · rcases List.mem_append.mp ht with ht | ht
            · obtain ⟨g1, g2, g3, g4⟩ := hT t ht
              exact ⟨ktB.1 _ _ (kt6.1 _ _ g1), g2, fun s hs => ((g3 s hs).keep kt6).keep ktB, g4⟩
            · rw [List.mem_singleton.mp ht]
              refine ⟨ktB.1 _ _ (by rw [hp, ← hl1]), by rw [← List.length_map (f := (·.1)), hl1]; exact hul, fun s hs => (hl2 s hs).keep ktB, ?_⟩
              show Chain ts cs (l.map (·.2))
              rw [hl3]
              exact hch
          · exact fun b o n1 n2 n3 e => by rw [upd_ne n3]; exact k6 _ _ n1 n2 (kB b o n1 n2 n3 e)
        · rintro H5 ⟨T, hB, hTl, hT, D5, kB⟩
          exact ⟨_, _, B, T, rfl, D5.mono (by omega), ⟨hB, fun t ht => ⟨(hT t ht).1, (hT t ht).2.1, (hT t ht).2.2.1⟩, by omega⟩, hBd.1, hBd.2, fun t ht => ⟨(hT t ht).2.2.2, (hT t ht).2.1⟩, W4.keepB kB nB⟩
      rintro σ1 H5 ⟨y2', y4', so, T, rfl, D5, S5, hsd, hsc, hT, W5⟩
      clear W3 D3 D2 k3
      refine ⟨.ref d, rfl, .ref so, rfl, d, c, so, _, T, rfl, D5, by omega, S5, hsd, hsc, fun H6 pm ms es k6 D6 L6 ok6 hp6 hlt6 => ?_⟩
      have R := round_ok (ns := nms) (ts := ts) (cs := cs) W5.at' W5.ac (T := T.map tdat) (fun t ht => by
        obtain ⟨t', ht', rfl⟩ := List.mem_map.mp ht
        exact (hT t' ht').1) ok6 hp6 hlt6
      have hS56 : (roundS ts cs nms ((T.map tdat).flatMap letsD)).length ≤ 56 := round_len W5.lt W5.lc W5.ln (Nat.le_trans (lets_all fun t ht => by
        obtain ⟨t', ht', rfl⟩ := List.mem_map.mp ht
        show (t'.2.map (·.2)).length ≤ 6
        rw [List.length_map]
        exact (hT t' ht').2) (by have := S5.len; rw [List.length_map]; omega))
      have hbs := round_bs (ts := ts) (cs := cs) (ns := nms) (ls := (T.map tdat).flatMap letsD)
      have hns : ∀ z, z ∈ nms → Nm z ∧ z ∈ roundS ts cs nms ((T.map tdat).flatMap letsD) := fun z hz => ⟨W5.an z hz, round_ns hz⟩
      revert R hS56 hbs hns
      generalize roundS ts cs nms ((T.map tdat).flatMap letsD) = S
      intro R hS56 hbs hns
      have W6 := W5.keep k6
      have M6 := lgF_dd L6
      have bM : Bd S 50 (10 ^ 39) 1753800 175460 16 (madeD ms es) := ((R.bm.tup.two (R.be.tup.two .nil)).tup).mono (by decide) (by decide) (by decide)
      refine ⟨.ref pm, rfl, .ref pm, madeD ms es, F0, S, rfl, M6, bM.lp (by decide) (by decide) (by decide), by omega, fun H7 s7 => ⟨true, true, by rw [R.log], rfl, _, rfl, iteF ?_⟩⟩
      have D7 := D6.same s7
      have W7 := W6.keep (Keep.of s7)
      have M7 := M6.keep (KeepO.of s7)
      obtain ⟨z0, zr, hz0⟩ : ∃ z0 zr, nms = z0 :: zr := by
        cases e : nms with
        | nil =>
          have := W5.ln
          rw [e] at this
          cases this
        | cons a b => exact ⟨a, b, rfl⟩
      have hne : ms ≠ [] := fun e => by have := ok6.m0; rw [e] at this; cases this
      obtain ⟨fr, la, hfl⟩ : ∃ fr la, ms = fr ++ [la] := ⟨_, _, (List.dropLast_concat_getLast hne).symm⟩
      have hla := ok6.mb la (by rw [hfl]; exact List.mem_append_right _ (List.mem_singleton.mpr rfl))
      have hn19 : atI (nms.map V.str) 0 = some (.str z0) := by rw [hz0]; exact at0
      refine ⟨.ref d, rfl, .ref pm, rfl, .ref u, rfl, u, .ref nl, rfl, ?_, nl, nms.map V.str, 0, .str z0, rfl, rfl, .inl (.inl W7.hn), hn19, d, c, pm, _, z0, ms.map PyData.int, es.map enT, la, rfl, D7, by omega, M7, ?_, ?_, ?_, ?_, ?_, fun H8 L vs8 j i8 st k8 D8 nL hL hj hst hd8 => ?_⟩
      · rw [← wD_n tl cl nl]
        exact DGet.k (k := .inr "names") W7.dct
      · intro e
        exact hne (List.map_eq_nil_iff.mp e)
      · rw [List.all_map, List.all_eq_true]
        intro x _
        rfl
      · rw [List.length_map]
        have := ok6.ml
        omega
      · rw [List.length_map]
        have := ok6.el
        omega
      · rw [hfl, List.map_append]
        exact atI_last _ _
      have hLd := D7.new nL
      have hmv : Bds S 50 (10 ^ 39) 800 50 14 (((ms.map PyData.int).take j ++ [.int (i8 + st)]) ++ (ms.map PyData.int).drop (j + 1)) := by
        have hi8 : 0 ≤ i8 ∧ i8 ≤ 10000 := by
          rw [List.getElem?_map] at hj
          obtain ⟨x, hx, e⟩ := Option.map_eq_some_iff.mp hj
          cases e
          exact ok6.mb i8 (List.mem_of_getElem? hx)
        have b1 : Bd S 50 (10 ^ 39) 43 1 14 (.int (i8 + st)) := hbs.i (by omega) (by omega) 14
        exact (((R.bm.take j).app (b1.two .nil)).app (R.bm.drop (j + 1))).mono (by decide) (by decide) (Nat.le_refl _)
      have ak8 : ∀ y, y ∈ forD (ms.map PyData.int) (es.map enT) z0 la (((ms.map PyData.int).take j ++ [.int (i8 + st)]) ++ (ms.map PyData.int).drop (j + 1)) → Ak y := fun y hy =>
        ⟨S, 50, 10 ^ 39, 4000000, 400000, 20, for_bd hbs R.bm R.be hmv (hns z0 (by rw [hz0]; exact List.mem_cons_self)) hla.1 hla.2 y hy, by omega, by decide, by decide, by decide, by decide, by decide⟩
      have l19 : vs8.length = 19 := by rw [hd8.len]; rfl
      have M8 := M7.keep (⟨(k8.t D7).1, (k8.t D7).2, fun _ _ h => h.elim⟩ : KeepO F0 H7 H8)
      have hd8' : DdAll K (Off3 d c L) H8 vs8 (forD (ms.map PyData.int) (es.map enT) z0 la (((ms.map PyData.int).take j ++ [.int (i8 + st)]) ++ (ms.map PyData.int).drop (j + 1))) := hd8
      revert hd8' ak8
      generalize forD (ms.map PyData.int) (es.map enT) z0 la (((ms.map PyData.int).take j ++ [.int (i8 + st)]) ++ (ms.map PyData.int).drop (j + 1)) = ys8
      intro ak8 hd8'
      clear hd8 hmv hj W7 W6 W5 M7 D7 M6 s7 k8
      have hSb : Sb S 50 (10 ^ 39) 1753800 175460 := ⟨hbs, by decide, by decide, by decide, by decide, by decide, by decide⟩
      refine ⟨fun σ' H' => ∃ y4 vs ys, σ' = [some (.ref a), some (.ref d), y2', some (.ref u), y4, some (.ref so), some (.ref pm), some (.ref L), none] ∧ Deck H' d c (2000000 * (i : Int) + 901000) ∧ Dd K F0 H' (.ref pm) (madeD ms es) ∧ H' L = some (.lst vs) ∧ DdAll K (Off3 d c L) H' vs ys ∧ (∀ y, y ∈ ys → Ak y) ∧ vs.length ≤ 30, ?_, ?_⟩
      · refine ⟨6, rfl, by decide, by decide, ?_⟩
        refine for_range (n := 6) (fun e σ H' => ∃ y4 vs ys, σ = [some (.ref a), some (.ref d), y2', some (.ref u), y4, some (.ref so), some (.ref pm), some (.ref L), none] ∧ Deck H' d c (2000000 * (i : Int) + 900110 + 100 * (e : Int)) ∧ Dd K F0 H' (.ref pm) (madeD ms es) ∧ H' L = some (.lst vs) ∧ DdAll K (Off3 d c L) H' vs ys ∧ (∀ y, y ∈ ys → Ak y) ∧ vs.length ≤ 19 + e) ?_ ?_ ?_
        · exact ⟨_, vs8, ys8, rfl, D8.mono (by omega), M8, hL, hd8', ak8, by omega⟩
        · rintro e σ H9 he ⟨y4, vs, ys, rfl, D9, M9, hL9, hd9, ak9, l9⟩
          have g9 : Gd3 H9 d c L := ⟨⟨_, hL9⟩, hLd.1, hLd.2⟩
          refine ⟨fun σ' H' => ∃ y4 v x, σ' = [some (.ref a), some (.ref d), y2', some (.ref u), y4, some (.ref so), some (.ref pm), some (.ref L), none] ∧ Deck H' d c (2000000 * (i : Int) + 900110 + 100 * (e : Int) + 40) ∧ Dd K F0 H' (.ref pm) (madeD ms es) ∧ H' L = some (.lst (vs ++ [v])) ∧ DdAll K (Off3 d c L) H' (vs ++ [v]) (ys ++ [x]) ∧ Out S 50 (10 ^ 39) 1753800 175460 16 x, ?_, ?_⟩
          · refine ⟨.ref L, rfl, .inl ⟨rfl, _, .inl (.inl hL9)⟩, .ref d, rfl, .ref pm, rfl, d, c, _, .ref pm, madeD ms es, S, 50, 10 ^ 39, 1753800, 175460, 16, L, rfl, D9, by omega, g9, M9.mono fun _ h => h.elim, bM, hSb, fun H10 v10 x10 k10 D10 hd10 ho10 => ?_⟩
            have hL10 := k10 _ _ hLd.1 hLd.2 hL9
            have kt : KeepT H10 (upd H10 L (.lst (vs ++ [v10]))) := KeepT.lst hL10
            have ko : KeepO (Off3 d c L) H10 (upd H10 L (.lst (vs ++ [v10]))) := ⟨kt.1, kt.2, fun b o hb e => by rw [upd_ne hb.2]; exact e⟩
            refine ⟨L, vs, v10, rfl, rfl, hL10, small1000 (by omega), _, v10, x10, rfl, (D10.upd hLd.1 hLd.2).mono (by omega), (M9.keep (⟨(k10.t D9).1, (k10.t D9).2, fun _ _ h => h.elim⟩ : KeepO F0 H9 H10)).keep ⟨kt.1, kt.2, fun _ _ h => h.elim⟩, upd_same, ((hd9.keep (k10.off3 D9)).app (.cons hd10 .nil)).keep ko, ho10⟩
          rintro σ3 H10 ⟨y4', v, x, rfl, D10, M10, hL10, hd10, z1, hz1⟩
          have hSb2 : Sb (z1 :: S) 150 (10 ^ 39 + 1) 3507950 350930 := ⟨⟨fun w hw => List.mem_cons_of_mem _ (hbs.base w hw), by decide, by decide, by decide⟩, by decide, by decide, by decide, by decide, by decide, by decide⟩
          have hz2 : Bd (z1 :: S) 150 (10 ^ 39 + 1) 3507950 350930 19 x := hz1.mono (by decide) (by decide) (by decide)
          have akx : Ak x := ⟨z1 :: S, 150, 10 ^ 39 + 1, 3507950, 350930, 19, hz2, by rw [List.length_cons]; omega, by decide, by decide, by decide, by decide, by decide⟩
          have g10 : Gd3 H10 d c L := ⟨⟨_, hL10⟩, hLd.1, hLd.2⟩
          have lv := hd9.len
          obtain ⟨x', hx', hxd⟩ := dd_at hd10 (show (vs ++ [v])[vs.length]? = some v by simp)
          rw [lv, List.getElem?_append_right (Nat.le_refl _), Nat.sub_self] at hx'
          obtain rfl : x = x' := Option.some.inj hx'
          refine ⟨.ref d, rfl, d, c, _, 2, rfl, D10, by omega, by decide, by decide, fun H11 r k11 D11 r0 r1 => ⟨rfl, _, rfl, ite2 (fun _ => ?_) (fun _ => ?_)⟩⟩
          · have hL11 := k11 _ _ hLd.1 hLd.2 hL10
            refine ⟨.ref d, rfl, .ref L, rfl, 1, rfl, L, vs ++ [v], -1, v, rfl, rfl, .inl (.inl hL11), atI_last _ _, d, c, _, v, x, z1 :: S, 150, 10 ^ 39 + 1, 3507950, 350930, 19, L, rfl, D11, by omega, g10.keep k11, hxd.keep (k11.off3 D10), hz2, hSb2, fun H12 v12 x12 k12 D12 hd12 ho12 => ?_⟩
            have hL12 := k12 _ _ hLd.1 hLd.2 hL11
            have hix : ixN (vs ++ [v]).length (-1) = some vs.length := by
              unfold ixN
              rw [List.length_append, List.length_singleton, if_neg (by decide), if_pos (by omega)]
              congr 1
              omega
            have hset : (vs ++ [v]).set vs.length v12 = vs ++ [v12] := by
              rw [List.set_append_right _ _ (Nat.le_refl _), Nat.sub_self]
              rfl
            refine ⟨.ref L, rfl, 1, rfl, L, vs ++ [v], -1, vs.length, rfl, rfl, hL12, hix, ?_⟩
            rw [hset]
            have kt : KeepT H12 (upd H12 L (.lst (vs ++ [v12]))) := KeepT.lst hL12
            have ko : KeepO (Off3 d c L) H12 (upd H12 L (.lst (vs ++ [v12]))) := ⟨kt.1, kt.2, fun b o hb e => by rw [upd_ne hb.2]; exact e⟩
            have k1012 := k11.trans k12
            obtain ⟨e1, e2, e3, e4⟩ : ∃ e1 e2, (vs = e1 ∧ ys = e2) ∧ DdAll K (Off3 d c L) H10 e1 e2 := by
              obtain ⟨d1, d2, f1, f2, f3⟩ := dd_split hd10
              have l2 := f2.len
              have : d1 = ys := by
                have h1 := List.append_inj f1 (by omega)
                exact h1.1.symm
              exact ⟨vs, ys, ⟨rfl, rfl⟩, this ▸ f2⟩
            obtain ⟨rfl, rfl⟩ := e3
            obtain ⟨z2, hz3⟩ := ho12
            have ak12 : Ak x12 := ⟨z2 :: z1 :: S, 450, 10 ^ 39 + 1 + 1, 7016550, 701870, 22, hz3.mono (by decide) (by decide) (by decide), by rw [List.length_cons, List.length_cons]; omega, by decide, by decide, by decide, by decide, by decide⟩
            refine ⟨_, vs ++ [v12], ys ++ [x12], rfl, (D12.upd hLd.1 hLd.2).mono (by omega), (M10.keep (⟨(k1012.t D10).1, (k1012.t D10).2, fun _ _ h => h.elim⟩ : KeepO F0 H10 H12)).keep ⟨kt.1, kt.2, fun _ _ h => h.elim⟩, upd_same, ((e4.keep (k1012.off3 D10)).app (.cons hd12 .nil)).keep ko, fun y hy => ?_, by rw [List.length_append, List.length_singleton]; omega⟩
            rcases List.mem_append.mp hy with hy | hy
            · exact ak9 y hy
            · rw [List.mem_singleton.mp hy]
              exact ak12
          · refine ⟨_, vs ++ [v], ys ++ [x], rfl, D11.mono (by omega), M10.keep (⟨(k11.t D10).1, (k11.t D10).2, fun _ _ h => h.elim⟩ : KeepO F0 H10 H11), k11 _ _ hLd.1 hLd.2 hL10, hd10.keep (k11.off3 D10), fun y hy => ?_, by rw [List.length_append, List.length_singleton]; omega⟩
            rcases List.mem_append.mp hy with hy | hy
            · exact ak9 y hy
            · rw [List.mem_singleton.mp hy]
              exact akx
        · rintro σ H9 ⟨y4, vs, ys, rfl, D9, M9, hL9, hd9, ak9, l9⟩
          exact ⟨y4, vs, ys, rfl, D9.mono (by omega), M9, hL9, hd9, ak9, by omega⟩
      rintro σ2 H9 ⟨y4, vs, ys, rfl, D9, M9, hL9, hd9, ak9, l9⟩
      refine ⟨.ref L, rfl, .ref pm, rfl, small_le (show 1 ≤ 1000 by decide), fun l1 n1 => ⟨L, l1, vs, [.ref pm], rfl, rfl, same_upd n1 _ _ hL9, upd_same, small_le (by rw [List.length_singleton]; omega), fun p np => ?_⟩⟩
      have s9 : Same H9 _ := (same_upd (o := .lst [.ref pm]) n1).trans (same_upd (o := .lst (vs ++ [.ref pm])) np)
      have hp : upd (upd H9 l1 (.lst [.ref pm])) p (.lst (vs ++ [.ref pm])) p = some (.lst (vs ++ [.ref pm])) := upd_same
      have akm : Ak (madeD ms es) := ⟨S, 50, 10 ^ 39, 1753800, 175460, 16, bM, by omega, by decide, by decide, by decide, by decide, by decide⟩
      have hda : DdAll K (Off3 d c L) H9 (vs ++ [.ref pm]) (ys ++ [madeD ms es]) := hd9.app (.cons (M9.mono fun _ h => h.elim) .nil)
      have aka : ∀ y, y ∈ ys ++ [madeD ms es] → Ak y := fun y hy => by
        rcases List.mem_append.mp hy with hy | hy
        · exact ak9 y hy
        · rw [List.mem_singleton.mp hy]
          exact akm
      refine ⟨p, rfl, ⟨_, .inl (.inl hp)⟩, fun D2' nD2 => ?_⟩
      revert s9 hp nD2
      generalize upd (upd H9 l1 (.lst [.ref pm])) p (.lst (vs ++ [.ref pm])) = H10
      intro s9 hp nD2
      refine walk_body (xs := vs ++ [.ref pm]) (fun _ H' => H' D2' = some (.lst []) ∧ Same H10 H') ?_ ?_ ?_ ?_
      · exact ⟨upd_same, same_upd nD2⟩
      · rintro e H' _ ⟨_, kk⟩
        exact .inl (.inl (kk _ _ hp))
      · rintro e y H' hy ⟨hD, kk⟩
        obtain ⟨x, hx, hyx⟩ := dd_at (hda.keep (KeepO.of (s9.trans kk))) hy
        obtain ⟨S', hask⟩ := (aka x (List.mem_of_getElem? hx)).ask hyx off3_far
        exact ⟨rfl, y, rfl, y, x, _, S', rfl, hask, fun H'' s'' => ⟨_, rfl, iteF ⟨s'' _ _ hD, kk.trans s''⟩⟩⟩
      · rintro H' ⟨hD, kk⟩
        refine ⟨Nat.zero_le _, fun e0 ne0 => ?_⟩
        have se := same_upd (o := .lst []) ne0
        exact ⟨D2', e0, [], rfl, rfl, .inl (.inl (se _ _ hD)), .inl (.inl upd_same), _, rfl, iteF ⟨_, _, _, _, _, _, rfl, (D9.same (s9.trans (kk.trans se))).mono (by omega)⟩⟩
    · rintro σ H2 ⟨y2, y3, y4, y5, y6, y7, rfl, D2⟩
      exact ⟨_, _, _, _, _, _, rfl, D2.mono (by omega)⟩
  rintro σ1 H2 ⟨y2, y3, y4, y5, y6, y7, rfl, D2⟩
  have hok : ∀ H p, Same H2 H → H p = none → p ≠ sysModules → Off d c p := fun H p s n far => ⟨((D2.same s).new n).1, ((D2.same s).new n).2, far⟩
  refine ⟨fun σ' H' => ∃ L vs, σ' = [some (.ref a), some (.ref d), y2, y3, y4, some (.ref L), y6, y7, none] ∧ Same H2 H' ∧ H' L = some (.lst vs) ∧ DdAll K (Off d c) H' vs end1, ?_, ?_⟩
  · have G : Ga K (Off d c) H2 [some (.ref a), some (.ref d), y2, y3, y4, y5, y6, y7, none] _ end1 := (ga_cons (gv_tup (ga_cons (gv_tup (ga_cons (gv_i 0) ga_nil)) (ga_cons (gv_tup ga_nil) ga_nil))) (ga_cons (gv_tup (ga_cons (gv_tup (ga_cons (gv_tup (ga_cons (gv_i 0) ga_nil)) (ga_cons (gv_tup ga_nil) ga_nil))) ga_nil)) (ga_cons (gv_tup (ga_cons (gv_tup (ga_cons (gv_b false) ga_nil)) (ga_cons (gv_tup ga_nil) ga_nil))) (ga_cons (gv_tup (ga_cons (gv_tup (ga_cons (gv_i 0) (ga_cons (gv_i 0) (ga_cons (gv_i 0) ga_nil)))) (ga_cons (gv_tup ga_nil) ga_nil))) (ga_cons (gv_tup (ga_cons (gv_tup (ga_cons (gv_i 0) (ga_cons (gv_i 10000) ga_nil))) (ga_cons (gv_tup ga_nil) ga_nil))) (ga_cons (gv_tup (ga_cons (gv_tup ga_nil) (ga_cons (gv_tup ga_nil) ga_nil))) (ga_cons (gv_tup (ga_cons (gv_tup (ga_cons (gv_i 0) ga_nil)) (ga_cons gv_n ga_nil))) ga_nil)))))))
    exact gl_lst G (Nat.le_of_ble_eq_true rfl) (fun _ _ e => e) fun H3 L vs s3 n3 h3 d3 => ⟨L, vs, rfl, s3, h3, d3⟩
  rintro σ2 H3 ⟨L3, vs3, rfl, s3, h3, d3⟩
  refine ⟨fun σ' H' => ∃ L vs, σ' = [some (.ref a), some (.ref d), y2, y3, y4, some (.ref L), y6, y7, none] ∧ H' L = some (.lst vs) ∧ DdAll K (Off3 d c L) H' vs (end1 ++ end2), ?_, ?_⟩
  · have hok : ∀ H p, Same H3 H → H p = none → p ≠ sysModules → Off d c p := fun H p s n far => hok H p (s3.trans s) n far
    have G : Ga K (Off d c) H3 [some (.ref a), some (.ref d), y2, y3, y4, some (.ref L3), y6, y7, none] _ end2 := (ga_cons (gv_tup (ga_cons (gv_i 0) (ga_cons (gv_tup ga_nil) ga_nil))) (ga_cons gv_n (ga_cons (gv_b true) (ga_cons (gv_i 0) (ga_cons (gv_s "marks 0") (ga_cons (gv_tup ga_nil) (ga_cons (gv_l0 hok) (ga_cons (gv_d0 hok) (ga_cons (gv_tup (ga_cons (gv_tup (ga_cons (gv_i 0) (ga_cons (gv_i 1) ga_nil))) (ga_cons (gv_tup (ga_cons (gv_tup (ga_cons (gv_i 0) (ga_cons (gv_tup ga_nil) ga_nil))) ga_nil)) ga_nil))) (ga_cons (gv_tup (ga_cons (gv_tup (ga_cons (gv_i 0) (ga_cons (gv_i 1) ga_nil))) (ga_cons (gv_tup (ga_cons (gv_i 0) ga_nil)) ga_nil))) ga_nil))))))))))
    exact gl_more (i := 5) rfl h3 d3 G (Nat.le_of_ble_eq_true rfl) (fun _ _ e => e) fun H4 L vs s4 n4 h4 d4 => ⟨L, vs, rfl, h4, d4⟩
  rintro σ3 H4 ⟨L4, vs4, rfl, h4, d4⟩
  refine ⟨fun σ' H' => ∃ vs, σ' = [some (.ref a), some (.ref d), y2, y3, y4, some (.ref L4), y6, y7, none] ∧ H' L4 = some (.lst vs) ∧ DdAll K (Off3 d c L4) H' vs (end1 ++ end2 ++ [end3]), ?_, ?_⟩
  · have G : Gv K (Off3 d c L4) H4 [some (.ref a), some (.ref d), y2, y3, y4, some (.ref L4), y6, y7, none] _ end3 := (gv_tup (ga_cons (gv_tup (ga_cons (gv_i 0) (ga_cons (gv_i 2) ga_nil))) (ga_cons (gv_tup (ga_cons (gv_tup (ga_cons (gv_b true) (ga_cons (gv_tup (ga_cons (gv_s "need") (ga_cons (gv_tup (ga_cons (gv_s "int") (ga_cons (gv_i 1) ga_nil))) ga_nil))) ga_nil))) ga_nil)) ga_nil)))
    refine ⟨.ref L4, rfl, .inl ⟨rfl, _, .inl (.inl h4)⟩, G H4 _ (fun _ _ e => e) fun H5 v5 s5 hv5 => ?_⟩
    have h5 := s5 _ _ h4
    have kt : KeepT H5 (upd H5 L4 (.lst (vs4 ++ [v5]))) := KeepT.lst h5
    have ko : KeepO (Off3 d c L4) H5 (upd H5 L4 (.lst (vs4 ++ [v5]))) := ⟨kt.1, kt.2, fun b o hb e => by rw [upd_ne hb.2]; exact e⟩
    have l4 : vs4.length = 17 := by rw [d4.len]; rfl
    exact ⟨L4, vs4, v5, rfl, rfl, h5, small1000 (by omega), _, rfl, upd_same, ((d4.keep (KeepO.of s5)).app (.cons hv5 .nil)).keep ko⟩
  rintro σ4 H5 ⟨vs5, rfl, h5, d5⟩
  have G : Ga K (Off3 d c L4) H5 [some (.ref a), some (.ref d), y2, y3, y4, some (.ref L4), y6, y7, none] _ [end4] := (ga_cons (gv_tup (ga_cons (gv_tup (ga_cons (gv_i 0) (ga_cons (gv_i 1) ga_nil))) (ga_cons (gv_tup (ga_cons (gv_tup (ga_cons (gv_i 0) (ga_cons (gv_tup (ga_cons (gv_s "need") (ga_cons (gv_tup (ga_cons (gv_s "int") (ga_cons (gv_i 1) ga_nil))) ga_nil))) ga_nil))) ga_nil)) ga_nil))) ga_nil)
  refine gl_more (i := 5) rfl h5 d5 G (Nat.le_of_ble_eq_true rfl) (fun _ _ e => e) fun H6 L6 vs6 s6 n6 h6 d6 => ?_
  refine ⟨L6, rfl, ⟨_, .inl (.inl h6)⟩, fun D7 nD7 => ?_⟩
  refine walk_body (xs := vs6) (fun _ H' => H' D7 = some (.lst []) ∧ Same H6 H') ?_ ?_ ?_ ?_
  · exact ⟨upd_same, same_upd nD7⟩
  · rintro e H' _ ⟨_, kk⟩
    exact .inl (.inl (kk _ _ h6))
  · rintro e y H' hy ⟨hD, kk⟩
    obtain ⟨x, hx, hyx⟩ := dd_at (d6.keep (KeepO.of kk)) hy
    obtain ⟨S', hask⟩ := (end_ak x (List.mem_of_getElem? hx)).ask hyx (fun a h => h.1.1.2.2)
    exact ⟨rfl, y, rfl, y, x, _, S', rfl, hask, fun H'' s'' => ⟨_, rfl, iteF ⟨s'' _ _ hD, kk.trans s''⟩⟩⟩
  · rintro H' ⟨hD, kk⟩
    refine ⟨Nat.zero_le _, fun e0 ne0 => ?_⟩
    have se := same_upd (o := .lst []) ne0
    exact ⟨D7, e0, [], rfl, rfl, .inl (.inl (se _ _ hD)), .inl (.inl upd_same), q _⟩
end
end L17

namespace L17
open PySem PySem.Spec PyProof.Rows L2 GR WX AD RZ ZE TX RVT BN
/-- a def of that name stands in the text's top under x -/
def HasA (K : PySem.W.Frag) (x y : Str) (st : Stmt) : Prop := ∃ (f : Addr) (fd : FuncData), PySem.W.nsIn K mainGlobals x = some (some (.ref f)) ∧ Fun K y y st f fd
theorem has_mk {K : PySem.W.Frag} {x y : Str} {st : Stmt} {f : Addr} {oc : Value} {od an : Option Addr} {osl : Array (Option Value)} {kV doc pm cdv ct : Value} (a : PySem.W.nsIn K mainGlobals x = some (some (.ref f)))
    (l : K.lookup f = some ⟨oc, od, .func (PySem.W.fnOf y y (defArgs st) (defBody st) (defScope st) .none kV doc pm an cdv ct), osl⟩) (c : PySem.W.codeIn K cdv y = true) (k : PySem.W.keepIn K (.ref f) = true) : HasA K x y st := ⟨f, _, a, fun_mk l c k⟩
theorem FnG.mono {P : Program} {w : World} {K : PySem.W.Frag} {mg : Str → Option Value} {base : Heap} {CX : CXT} {j k : Nat} {f : Addr} {fd : FuncData} {ps : List Str} {sp : Sp} (F : FnG P w K mg base CX j f fd ps sp) (h : j ≤ k) : FnG P w K mg base CX k f fd ps sp :=
  ⟨F.size, fun A outer s H args us vs Q E hg hr => F.go A outer s H args us vs Q E hg (hr.mono h)⟩
theorem ktx_mk {K : PySem.W.Frag} {p : Addr} {fs : List Str} {d : Option Addr} {its : Array Value} {n : Nat} {sl : Array (Option Value)} (l : K.lookup p = some ⟨.type "tuple", d, .seq its n, sl⟩) (hv : Vals (fs.map V.str) its.toList) (hs : fs.length ≤ 100) : KTx K p fs := fun H =>
  .inr ⟨_, its, n, l, rfl, rfl, by have h1 := hv.length; rw [List.length_map] at h1; have h2 : its.toList.length = its.size := Array.length_toList ..; exact small_le (by omega), hv⟩
theorem tab_no {w : World} {es : Array DictEntry} (kl : PySem.W.KeysLit w.params es.toList) (hk : (es.toList.all fun e => table.any fun p => Value.isStrOf p.1 e.key) = true) (wd : Str) (h : look wd = none) : findBy Value.isStrOf es wd = none := by
  have q : (es.find? fun e => Value.isStrOf wd e.key) = none := by
    rw [Array.find?_eq_none]
    intro e he hq
    have he' := Array.mem_toList_iff.mpr he
    obtain ⟨x, t, e1, _⟩ := kl.all e he'
    have h1 := List.all_eq_true.mp hk e he'
    rw [List.any_eq_true] at h1
    obtain ⟨p, hp, h2⟩ := h1
    rw [e1] at hq h2
    have e3 : x = wd := eq_of_beq (show (x == wd) = true from hq)
    have e4 : x = p.1 := eq_of_beq (show (x == p.1) = true from h2)
    unfold look at h
    rw [Option.map_eq_none_iff, List.find?_eq_none] at h
    exact h p hp (decide_eq_true (e4.symm.trans e3))
  show (es.find? fun e => Value.isStrOf wd e.key).map (·.val) = none
  rw [q]
  rfl
theorem flds_mk {K : PySem.W.Frag} {w : World} {fA : Addr} {es : Array DictEntry} {n : Nat} (l : K.lookup fA = some ⟨.type "dict", none, .dict es n, #[]⟩) (kl : PySem.W.KeysLit w.params es.toList) (hk : (es.toList.all fun e => table.any fun p => Value.isStrOf p.1 e.key) = true) (low : (fA == sysModules) = false)
    {p0 : Addr} (q0 : PySem.W.nsIn K fA "int" = some (some (.ref p0))) (r0 : KTx K p0 ["value"])
    {p1 : Addr} (q1 : PySem.W.nsIn K fA "var" = some (some (.ref p1))) (r1 : KTx K p1 ["name"])
    {p2 : Addr} (q2 : PySem.W.nsIn K fA "key" = some (some (.ref p2))) (r2 : KTx K p2 [])
    {p3 : Addr} (q3 : PySem.W.nsIn K fA "let" = some (some (.ref p3))) (r3 : KTx K p3 ["position"])
    {p4 : Addr} (q4 : PySem.W.nsIn K fA "cell" = some (some (.ref p4))) (r4 : KTx K p4 ["name", "free", "name"])
    {p5 : Addr} (q5 : PySem.W.nsIn K fA "+" = some (some (.ref p5))) (r5 : KTx K p5 ["free", "free"])
    {p6 : Addr} (q6 : PySem.W.nsIn K fA "-" = some (some (.ref p6))) (r6 : KTx K p6 ["free", "free"])
    {p7 : Addr} (q7 : PySem.W.nsIn K fA "*" = some (some (.ref p7))) (r7 : KTx K p7 ["free", "free"])
    {p8 : Addr} (q8 : PySem.W.nsIn K fA "<" = some (some (.ref p8))) (r8 : KTx K p8 ["free", "free"])
    {p9 : Addr} (q9 : PySem.W.nsIn K fA "=" = some (some (.ref p9))) (r9 : KTx K p9 ["free", "free"])
    {p10 : Addr} (q10 : PySem.W.nsIn K fA "if" = some (some (.ref p10))) (r10 : KTx K p10 ["free", "free", "free"])
    {p11 : Addr} (q11 : PySem.W.nsIn K fA "at" = some (some (.ref p11))) (r11 : KTx K p11 ["free", "bound"])
    {p12 : Addr} (q12 : PySem.W.nsIn K fA "count" = some (some (.ref p12))) (r12 : KTx K p12 ["name", "extra", "bound", "bound"])
    {p13 : Addr} (q13 : PySem.W.nsIn K fA "sum" = some (some (.ref p13))) (r13 : KTx K p13 ["name", "extra", "bound", "bound", "bound"])
    {p14 : Addr} (q14 : PySem.W.nsIn K fA "most" = some (some (.ref p14))) (r14 : KTx K p14 ["name", "extra", "bound", "bound", "bound", "free"])
    {p15 : Addr} (q15 : PySem.W.nsIn K fA "first" = some (some (.ref p15))) (r15 : KTx K p15 ["name", "extra", "bound", "bound", "free"])
    : Tab K w fA es n ∧ Flds K w fA := by
  have ex : ∀ wd fs, (wd, fs) ∈ table → ∃ p, PySem.W.nsIn K fA wd = some (some (.ref p)) ∧ KTx K p fs := by
    intro wd fs h
    simp only [table, List.mem_cons, List.not_mem_nil, or_false, Prod.mk.injEq] at h
    rcases h with ⟨rfl, rfl⟩ | ⟨rfl, rfl⟩ | ⟨rfl, rfl⟩ | ⟨rfl, rfl⟩ | ⟨rfl, rfl⟩ | ⟨rfl, rfl⟩ | ⟨rfl, rfl⟩ | ⟨rfl, rfl⟩ | ⟨rfl, rfl⟩ | ⟨rfl, rfl⟩ | ⟨rfl, rfl⟩ | ⟨rfl, rfl⟩ | ⟨rfl, rfl⟩ | ⟨rfl, rfl⟩ | ⟨rfl, rfl⟩ | ⟨rfl, rfl⟩
    · exact ⟨p0, q0, r0⟩
    · exact ⟨p1, q1, r1⟩
    · exact ⟨p2, q2, r2⟩
    · exact ⟨p3, q3, r3⟩
    · exact ⟨p4, q4, r4⟩
    · exact ⟨p5, q5, r5⟩
    · exact ⟨p6, q6, r6⟩
    · exact ⟨p7, q7, r7⟩
    · exact ⟨p8, q8, r8⟩
    · exact ⟨p9, q9, r9⟩
    · exact ⟨p10, q10, r10⟩
    · exact ⟨p11, q11, r11⟩
    · exact ⟨p12, q12, r12⟩
    · exact ⟨p13, q13, r13⟩
    · exact ⟨p14, q14, r14⟩
    · exact ⟨p15, q15, r15⟩
  refine ⟨⟨l, kl, low, fun wd fs h => ?_, tab_no kl hk⟩, fun wd fs h => ?_⟩
  · obtain ⟨p, h1, h2⟩ := ex wd fs h
    exact ⟨p, PySem.W.find_K l h1, h2⟩
  · obtain ⟨p, h1, h2⟩ := ex wd fs h
    exact ⟨p, ⟨es, n, _, l, kl, h1, rfl⟩, h2⟩
theorem tabS_no {w : World} {es : Array DictEntry} (kl : PySem.W.KeysLit w.params es.toList) (hk : (es.toList.all fun e => tableS.any fun p => Value.isStrOf p.1 e.key) = true) (wd : Str) (h : lookS wd = none) : findBy Value.isStrOf es wd = none := by
  have q : (es.find? fun e => Value.isStrOf wd e.key) = none := by
    rw [Array.find?_eq_none]
    intro e he hq
    have he' := Array.mem_toList_iff.mpr he
    obtain ⟨x, t, e1, _⟩ := kl.all e he'
    have h1 := List.all_eq_true.mp hk e he'
    rw [List.any_eq_true] at h1
    obtain ⟨p, hp, h2⟩ := h1
    rw [e1] at hq h2
    have e3 : x = wd := eq_of_beq (show (x == wd) = true from hq)
    have e4 : x = p.1 := eq_of_beq (show (x == p.1) = true from h2)
    unfold lookS at h
    rw [Option.map_eq_none_iff, List.find?_eq_none] at h
    exact h p hp (decide_eq_true (e4.symm.trans e3))
  show (es.find? fun e => Value.isStrOf wd e.key).map (·.val) = none
  rw [q]
  rfl
theorem fldsS_mk {K : PySem.W.Frag} {w : World} {fA : Addr} {es : Array DictEntry} {n : Nat} (l : K.lookup fA = some ⟨.type "dict", none, .dict es n, #[]⟩) (kl : PySem.W.KeysLit w.params es.toList) (hk : (es.toList.all fun e => tableS.any fun p => Value.isStrOf p.1 e.key) = true) (low : (fA == sysModules) = false)
    {p0 : Addr} (q0 : PySem.W.nsIn K fA "let" = some (some (.ref p0))) (r0 : KTx K p0 ["name", "keyless"])
    {p1 : Addr} (q1 : PySem.W.nsIn K fA "need" = some (some (.ref p1))) (r1 : KTx K p1 ["keyless"])
    {p2 : Addr} (q2 : PySem.W.nsIn K fA "put" = some (some (.ref p2))) (r2 : KTx K p2 ["name", "keyless", "name", "keyless"])
    {p3 : Addr} (q3 : PySem.W.nsIn K fA "each" = some (some (.ref p3))) (r3 : KTx K p3 ["name", "row", "name", "row"])
    {p4 : Addr} (q4 : PySem.W.nsIn K fA "tell" = some (some (.ref p4))) (r4 : KTx K p4 ["keyless"])
    : TabS K w fA es n ∧ FldsS K w fA := by
  have ex : ∀ wd fs, (wd, fs) ∈ tableS → ∃ p, PySem.W.nsIn K fA wd = some (some (.ref p)) ∧ KTx K p fs := by
    intro wd fs h
    simp only [tableS, List.mem_cons, List.not_mem_nil, or_false, Prod.mk.injEq] at h
    rcases h with ⟨rfl, rfl⟩ | ⟨rfl, rfl⟩ | ⟨rfl, rfl⟩ | ⟨rfl, rfl⟩ | ⟨rfl, rfl⟩
    · exact ⟨p0, q0, r0⟩
    · exact ⟨p1, q1, r1⟩
    · exact ⟨p2, q2, r2⟩
    · exact ⟨p3, q3, r3⟩
    · exact ⟨p4, q4, r4⟩
  refine ⟨⟨l, kl, low, fun wd fs h => ?_, tabS_no kl hk⟩, fun wd fs h => ?_⟩
  · obtain ⟨p, h1, h2⟩ := ex wd fs h
    exact ⟨p, PySem.W.find_K l h1, h2⟩
  · obtain ⟨p, h1, h2⟩ := ex wd fs h
    exact ⟨p, ⟨es, n, _, l, kl, h1, rfl⟩, h2⟩
theorem all_mk {P : Program} {w : World} {K : PySem.W.Frag} {h : Heap} {mg : Str → Option Value} {fa : Addr} (X : K.In h) (G : h.Ns mainGlobals mg) (hfa : mg "law" = some (.ref fa))
    (X_is_integer : HasA K "is_integer" "is_integer" s_is_integer)
    (X_is_value : HasA K "is_value" "is_value" s_is_value)
    (X_is_name : HasA K "is_name" "is_name" s_is_name)
    (X_word_of : HasA K "word_of" "word_of" s_word_of)
    (X_is_expression : HasA K "is_expression" "is_expression" s_is_expression)
    (X_has_form : HasA K "has_form" "has_form" s_has_form)
    (X_fits_expressions : HasA K "fits_expressions" "fits" s_fits)
    (X_contained : HasA K "contained" "contained" s_contained)
    (X_contained_free : HasA K "contained_free" "contained_free" s_contained_free)
    (X_contained_of : HasA K "contained_of" "contained_of" s_contained_of)
    (X_one_deeper : HasA K "one_deeper" "one_deeper" s_one_deeper)
    (X_all_parts : HasA K "all_parts" "all_parts" s_all_parts)
    (X_rows_of : HasA K "rows_of" "rows_of" s_rows_of)
    (X_is_plain : HasA K "is_plain" "is_plain" s_is_plain)
    (X_is_plain_part : HasA K "is_plain_part" "is_plain_part" s_is_plain_part)
    (X_has_free_key : HasA K "has_free_key" "has_free_key" s_has_free_key)
    (X_is_simple : HasA K "is_simple" "is_simple" s_is_simple)
    (X_variables_of : HasA K "variables_of" "variables_of" s_variables_of)
    (X_is_transaction : HasA K "is_transaction" "is_transaction" s_is_transaction)
    (X_is_statement : HasA K "is_statement" "is_statement" s_is_statement)
    (X_fits_statements : HasA K "fits_statements" "fits" s_fits2)
    (X_may_follow : HasA K "may_follow" "may_follow" s_may_follow)
    (X_names_let : HasA K "names_let" "names_let" s_names_let)
    (X_names_used : HasA K "names_used" "names_used" s_names_used)
    (X_expressions_in : HasA K "expressions_in" "expressions_in" s_expressions_in)
    (X_is_log : HasA K "is_log" "is_log" s_is_log)
    (X_are_marks : HasA K "are_marks" "are_marks" s_are_marks)
    (X_are_entries : HasA K "are_entries" "are_entries" s_are_entries)
    (X_parted : HasA K "parted" "parted" s_parted)
    (X_law_deck : HasA K "_law_deck" "_law_deck" s_law_deck)
    (X_law_draw : HasA K "_law_draw" "_law_draw" s_law_draw)
    (X_law_pick : HasA K "_law_pick" "_law_pick" s_law_pick)
    (X_law_names : HasA K "_law_names" "_law_names" s_law_names)
    (X_law_world : HasA K "_law_world" "_law_world" s_law_world)
    (X_law_expression : HasA K "_law_expression" "_law_expression" s_law_expression)
    (X_law_statement : HasA K "_law_statement" "_law_statement" s_law_statement)
    (X_law_transaction : HasA K "_law_transaction" "_law_transaction" s_law_transaction)
    (X_law_spread : HasA K "_law_spread" "_law_spread" s_law_spread)
    (X_law_is_whole : HasA K "_law_is_whole" "_law_is_whole" s_law_is_whole)
    (X_law_has_marks : HasA K "_law_has_marks" "_law_has_marks" s_law_has_marks)
    (X_law_is_log : HasA K "_law_is_log" "_law_is_log" s_law_is_log)
    (X_law_step_off : HasA K "_law_step_off" "_law_step_off" s_law_step_off)
    (X_law_spoilt : HasA K "_law_spoilt" "_law_spoilt" s_law_spoilt)
    (X_law_forged : HasA K "_law_forged" "_law_forged" s_law_forged)
    (X_law_right : HasA K "_law_right" "_law_right" s_law_right)
    (X_law : HasA K "law" "law" s_law)
    (z_list : PySem.W.nsIn K mainGlobals "list" = some none) (z_sum : PySem.W.nsIn K mainGlobals "sum" = some none) (z_len : PySem.W.nsIn K mainGlobals "len" = some none) (z_range : PySem.W.nsIn K mainGlobals "range" = some none) (z_int : PySem.W.nsIn K mainGlobals "int" = some none) (z_bool : PySem.W.nsIn K mainGlobals "bool" = some none) (z_repr : PySem.W.nsIn K mainGlobals "repr" = some none) (z_tuple : PySem.W.nsIn K mainGlobals "tuple" = some none) (z_str : PySem.W.nsIn K mainGlobals "str" = some none) (z_isinstance : PySem.W.nsIn K mainGlobals "isinstance" = some none) (z_all : PySem.W.nsIn K mainGlobals "all" = some none) (z_any : PySem.W.nsIn K mainGlobals "any" = some none) (z_zip : PySem.W.nsIn K mainGlobals "zip" = some none) (z_sorted : PySem.W.nsIn K mainGlobals "sorted" = some none) (z_min : PySem.W.nsIn K mainGlobals "min" = some none) (z_max : PySem.W.nsIn K mainGlobals "max" = some none)
    {tk_LIMIT : Tok} (c_LIMIT : PySem.W.nsIn K mainGlobals "LIMIT" = some (some (.int LIM tk_LIMIT))) {tk_LONGEST_NAME : Tok} (c_LONGEST_NAME : PySem.W.nsIn K mainGlobals "LONGEST_NAME" = some (some (.int 8 tk_LONGEST_NAME))) {tk_LAST_POSITION : Tok} (c_LAST_POSITION : PySem.W.nsIn K mainGlobals "LAST_POSITION" = some (some (.int 10000 tk_LAST_POSITION)))
    {fA : Addr} {es : Array DictEntry} {nF : Nat} (z_FIELDS : PySem.W.nsIn K mainGlobals "FIELDS_expressions" = some (some (.ref fA))) (T_FIELDS : Tab K w fA es nF ∧ Flds K w fA)
    {fB : Addr} {es2 : Array DictEntry} {nF2 : Nat} (z_FIELDS2 : PySem.W.nsIn K mainGlobals "FIELDS_statements" = some (some (.ref fB))) (T_FIELDS2 : TabS K w fB es2 nF2 ∧ FldsS K w fB)
    {aA : Addr} (z_ALL : PySem.W.nsIn K mainGlobals "ALL_PARTS" = some (some (.ref aA))) (T_ALL : KTx K aA W2) {aW : Addr} (z_WORDS : PySem.W.nsIn K mainGlobals "WORDS" = some (some (.ref aW))) (T_WORDS : KTx K aW BARW) {aG : Addr} (z_AGG : PySem.W.nsIn K mainGlobals "AGGREGATES" = some (some (.ref aG))) (T_AGG : KTx K aG aggW) {tk_LET : Tok} (z_LETTERS : PySem.W.nsIn K mainGlobals "LETTERS" = some (some (.str L26 tk_LET)))
    : ∃ fd : FuncData, (∀ (s : Shared) (v : Value), BindsTo s fd ⟨[v], []⟩ [("_law_script", v)]) ∧ ∀ base : Heap, K.In base → base.Ns mainGlobals mg → FnG P w K mg base CX0 11 fa fd ["_law_script"] (sp_law K) := by
  obtain ⟨fis_integer, dis_integer, ais_integer, Fis_integer⟩ := X_is_integer
  have gis_integer := PySem.W.mg_of X G ais_integer
  have bis_integer : Binds K dis_integer ["thing"] [] := Fis_integer.binds (ps := ["thing"]) fun _ _ _ _ _ _ us hl => match us, hl with | [_], _ => rfl
  obtain ⟨fis_value, dis_value, ais_value, Fis_value⟩ := X_is_value
  have gis_value := PySem.W.mg_of X G ais_value
  have bis_value : Binds K dis_value ["thing"] [] := Fis_value.binds (ps := ["thing"]) fun _ _ _ _ _ _ us hl => match us, hl with | [_], _ => rfl
  obtain ⟨fis_name, dis_name, ais_name, Fis_name⟩ := X_is_name
  have gis_name := PySem.W.mg_of X G ais_name
  have bis_name : Binds K dis_name ["thing"] [] := Fis_name.binds (ps := ["thing"]) fun _ _ _ _ _ _ us hl => match us, hl with | [_], _ => rfl
  obtain ⟨fword_of, dword_of, aword_of, Fword_of⟩ := X_word_of
  have gword_of := PySem.W.mg_of X G aword_of
  have bword_of : Binds K dword_of ["thing"] [] := Fword_of.binds (ps := ["thing"]) fun _ _ _ _ _ _ us hl => match us, hl with | [_], _ => rfl
  obtain ⟨fis_expression, dis_expression, ais_expression, Fis_expression⟩ := X_is_expression
  have gis_expression := PySem.W.mg_of X G ais_expression
  have bis_expression : Binds K dis_expression ["thing"] [] := Fis_expression.binds (ps := ["thing"]) fun _ _ _ _ _ _ us hl => match us, hl with | [_], _ => rfl
  obtain ⟨fhas_form, dhas_form, ahas_form, Fhas_form⟩ := X_has_form
  have ghas_form := PySem.W.mg_of X G ahas_form
  have bhas_form : Binds K dhas_form ["thing"] [] := Fhas_form.binds (ps := ["thing"]) fun _ _ _ _ _ _ us hl => match us, hl with | [_], _ => rfl
  obtain ⟨ffits_expressions, dfits_expressions, afits_expressions, Ffits_expressions⟩ := X_fits_expressions
  have gfits_expressions := PySem.W.mg_of X G afits_expressions
  have bfits_expressions : Binds K dfits_expressions ["kind", "part"] [] := Ffits_expressions.binds (ps := ["kind", "part"]) fun _ _ _ _ _ _ us hl => match us, hl with | [_, _], _ => rfl
  obtain ⟨fcontained, dcontained, acontained, Fcontained⟩ := X_contained
  have gcontained := PySem.W.mg_of X G acontained
  have bcontained : Binds K dcontained ["expression"] [] := Fcontained.binds (ps := ["expression"]) fun _ _ _ _ _ _ us hl => match us, hl with | [_], _ => rfl
  obtain ⟨fcontained_free, dcontained_free, acontained_free, Fcontained_free⟩ := X_contained_free
  have gcontained_free := PySem.W.mg_of X G acontained_free
  have bcontained_free : Binds K dcontained_free ["expression"] [] := Fcontained_free.binds (ps := ["expression"]) fun _ _ _ _ _ _ us hl => match us, hl with | [_], _ => rfl
  obtain ⟨fcontained_of, dcontained_of, acontained_of, Fcontained_of⟩ := X_contained_of
  have gcontained_of := PySem.W.mg_of X G acontained_of
  have bcontained_of : Binds K dcontained_of ["expression", "wanted"] [] := Fcontained_of.binds (ps := ["expression", "wanted"]) fun _ _ _ _ _ _ us hl => match us, hl with | [_, _], _ => rfl
  obtain ⟨fone_deeper, done_deeper, aone_deeper, Fone_deeper⟩ := X_one_deeper
  have gone_deeper := PySem.W.mg_of X G aone_deeper
  have bone_deeper : Binds K done_deeper ["expressions"] [] := Fone_deeper.binds (ps := ["expressions"]) fun _ _ _ _ _ _ us hl => match us, hl with | [_], _ => rfl
  obtain ⟨fall_parts, dall_parts, aall_parts, Fall_parts⟩ := X_all_parts
  have gall_parts := PySem.W.mg_of X G aall_parts
  have ball_parts : Binds K dall_parts ["expression"] [] := Fall_parts.binds (ps := ["expression"]) fun _ _ _ _ _ _ us hl => match us, hl with | [_], _ => rfl
  obtain ⟨frows_of, drows_of, arows_of, Frows_of⟩ := X_rows_of
  have grows_of := PySem.W.mg_of X G arows_of
  have brows_of : Binds K drows_of ["table"] [] := Frows_of.binds (ps := ["table"]) fun _ _ _ _ _ _ us hl => match us, hl with | [_], _ => rfl
  obtain ⟨fis_plain, dis_plain, ais_plain, Fis_plain⟩ := X_is_plain
  have gis_plain := PySem.W.mg_of X G ais_plain
  have bis_plain : Binds K dis_plain ["expression"] [] := Fis_plain.binds (ps := ["expression"]) fun _ _ _ _ _ _ us hl => match us, hl with | [_], _ => rfl
  obtain ⟨fis_plain_part, dis_plain_part, ais_plain_part, Fis_plain_part⟩ := X_is_plain_part
  have gis_plain_part := PySem.W.mg_of X G ais_plain_part
  have bis_plain_part : Binds K dis_plain_part ["part"] [] := Fis_plain_part.binds (ps := ["part"]) fun _ _ _ _ _ _ us hl => match us, hl with | [_], _ => rfl
  obtain ⟨fhas_free_key, dhas_free_key, ahas_free_key, Fhas_free_key⟩ := X_has_free_key
  have ghas_free_key := PySem.W.mg_of X G ahas_free_key
  have bhas_free_key : Binds K dhas_free_key ["expression"] [] := Fhas_free_key.binds (ps := ["expression"]) fun _ _ _ _ _ _ us hl => match us, hl with | [_], _ => rfl
  obtain ⟨fis_simple, dis_simple, ais_simple, Fis_simple⟩ := X_is_simple
  have gis_simple := PySem.W.mg_of X G ais_simple
  have bis_simple : Binds K dis_simple ["expression"] [] := Fis_simple.binds (ps := ["expression"]) fun _ _ _ _ _ _ us hl => match us, hl with | [_], _ => rfl
  obtain ⟨fvariables_of, dvariables_of, avariables_of, Fvariables_of⟩ := X_variables_of
  have gvariables_of := PySem.W.mg_of X G avariables_of
  have bvariables_of : Binds K dvariables_of ["expression"] [] := Fvariables_of.binds (ps := ["expression"]) fun _ _ _ _ _ _ us hl => match us, hl with | [_], _ => rfl
  obtain ⟨fis_transaction, dis_transaction, ais_transaction, Fis_transaction⟩ := X_is_transaction
  have gis_transaction := PySem.W.mg_of X G ais_transaction
  have bis_transaction : Binds K dis_transaction ["thing"] [] := Fis_transaction.binds (ps := ["thing"]) fun _ _ _ _ _ _ us hl => match us, hl with | [_], _ => rfl
  obtain ⟨fis_statement, dis_statement, ais_statement, Fis_statement⟩ := X_is_statement
  have gis_statement := PySem.W.mg_of X G ais_statement
  have bis_statement : Binds K dis_statement ["thing"] [] := Fis_statement.binds (ps := ["thing"]) fun _ _ _ _ _ _ us hl => match us, hl with | [_], _ => rfl
  obtain ⟨ffits_statements, dfits_statements, afits_statements, Ffits_statements⟩ := X_fits_statements
  have gfits_statements := PySem.W.mg_of X G afits_statements
  have bfits_statements : Binds K dfits_statements ["kind", "part"] [] := Ffits_statements.binds (ps := ["kind", "part"]) fun _ _ _ _ _ _ us hl => match us, hl with | [_, _], _ => rfl
  obtain ⟨fmay_follow, dmay_follow, amay_follow, Fmay_follow⟩ := X_may_follow
  have gmay_follow := PySem.W.mg_of X G amay_follow
  have bmay_follow : Binds K dmay_follow ["statement", "known"] [] := Fmay_follow.binds (ps := ["statement", "known"]) fun _ _ _ _ _ _ us hl => match us, hl with | [_, _], _ => rfl
  obtain ⟨fnames_let, dnames_let, anames_let, Fnames_let⟩ := X_names_let
  have gnames_let := PySem.W.mg_of X G anames_let
  have bnames_let : Binds K dnames_let ["statement"] [] := Fnames_let.binds (ps := ["statement"]) fun _ _ _ _ _ _ us hl => match us, hl with | [_], _ => rfl
  obtain ⟨fnames_used, dnames_used, anames_used, Fnames_used⟩ := X_names_used
  have gnames_used := PySem.W.mg_of X G anames_used
  have bnames_used : Binds K dnames_used ["statement"] [] := Fnames_used.binds (ps := ["statement"]) fun _ _ _ _ _ _ us hl => match us, hl with | [_], _ => rfl
  obtain ⟨fexpressions_in, dexpressions_in, aexpressions_in, Fexpressions_in⟩ := X_expressions_in
  have gexpressions_in := PySem.W.mg_of X G aexpressions_in
  have bexpressions_in : Binds K dexpressions_in ["statement"] [] := Fexpressions_in.binds (ps := ["statement"]) fun _ _ _ _ _ _ us hl => match us, hl with | [_], _ => rfl
  obtain ⟨fis_log, dis_log, ais_log, Fis_log⟩ := X_is_log
  have gis_log := PySem.W.mg_of X G ais_log
  have bis_log : Binds K dis_log ["thing"] [] := Fis_log.binds (ps := ["thing"]) fun _ _ _ _ _ _ us hl => match us, hl with | [_], _ => rfl
  obtain ⟨fare_marks, dare_marks, aare_marks, Fare_marks⟩ := X_are_marks
  have gare_marks := PySem.W.mg_of X G aare_marks
  have bare_marks : Binds K dare_marks ["thing"] [] := Fare_marks.binds (ps := ["thing"]) fun _ _ _ _ _ _ us hl => match us, hl with | [_], _ => rfl
  obtain ⟨fare_entries, dare_entries, aare_entries, Fare_entries⟩ := X_are_entries
  have gare_entries := PySem.W.mg_of X G aare_entries
  have bare_entries : Binds K dare_entries ["thing", "end"] [] := Fare_entries.binds (ps := ["thing", "end"]) fun _ _ _ _ _ _ us hl => match us, hl with | [_, _], _ => rfl
  obtain ⟨fparted, dparted, aparted, Fparted⟩ := X_parted
  have gparted := PySem.W.mg_of X G aparted
  have bparted : Binds K dparted ["marks", "entries"] [] := Fparted.binds (ps := ["marks", "entries"]) fun _ _ _ _ _ _ us hl => match us, hl with | [_, _], _ => rfl
  obtain ⟨f_law_deck, d_law_deck, a_law_deck, F_law_deck⟩ := X_law_deck
  have g_law_deck := PySem.W.mg_of X G a_law_deck
  have b_law_deck : Binds K d_law_deck ["_law_script"] [] := F_law_deck.binds (ps := ["_law_script"]) fun _ _ _ _ _ _ us hl => match us, hl with | [_], _ => rfl
  obtain ⟨f_law_draw, d_law_draw, a_law_draw, F_law_draw⟩ := X_law_draw
  have g_law_draw := PySem.W.mg_of X G a_law_draw
  have b_law_draw : Binds K d_law_draw ["_law_deck_here", "_law_most"] [] := F_law_draw.binds (ps := ["_law_deck_here", "_law_most"]) fun _ _ _ _ _ _ us hl => match us, hl with | [_, _], _ => rfl
  obtain ⟨f_law_pick, d_law_pick, a_law_pick, F_law_pick⟩ := X_law_pick
  have g_law_pick := PySem.W.mg_of X G a_law_pick
  have b_law_pick : Binds K d_law_pick ["_law_deck_here", "_law_some"] [] := F_law_pick.binds (ps := ["_law_deck_here", "_law_some"]) fun _ _ _ _ _ _ us hl => match us, hl with | [_, _], _ => rfl
  obtain ⟨f_law_names, d_law_names, a_law_names, F_law_names⟩ := X_law_names
  have g_law_names := PySem.W.mg_of X G a_law_names
  have b_law_names : Binds K d_law_names ["_law_deck_here", "_law_many"] [] := F_law_names.binds (ps := ["_law_deck_here", "_law_many"]) fun _ _ _ _ _ _ us hl => match us, hl with | [_, _], _ => rfl
  obtain ⟨f_law_world, d_law_world, a_law_world, F_law_world⟩ := X_law_world
  have g_law_world := PySem.W.mg_of X G a_law_world
  have b_law_world : Binds K d_law_world ["_law_deck_here"] [] := F_law_world.binds (ps := ["_law_deck_here"]) fun _ _ _ _ _ _ us hl => match us, hl with | [_], _ => rfl
  obtain ⟨f_law_expression, d_law_expression, a_law_expression, F_law_expression⟩ := X_law_expression
  have g_law_expression := PySem.W.mg_of X G a_law_expression
  have b_law_expression : Binds K d_law_expression ["_law_deck_here", "_law_world_here", "_law_deep", "_law_scope", "_law_loose"] [] := F_law_expression.binds (ps := ["_law_deck_here", "_law_world_here", "_law_deep", "_law_scope", "_law_loose"]) fun _ _ _ _ _ _ us hl => match us, hl with | [_, _, _, _, _], _ => rfl
  obtain ⟨f_law_statement, d_law_statement, a_law_statement, F_law_statement⟩ := X_law_statement
  have g_law_statement := PySem.W.mg_of X G a_law_statement
  have b_law_statement : Binds K d_law_statement ["_law_deck_here", "_law_world_here", "_law_scope", "_law_deep"] [] := F_law_statement.binds (ps := ["_law_deck_here", "_law_world_here", "_law_scope", "_law_deep"]) fun _ _ _ _ _ _ us hl => match us, hl with | [_, _, _, _], _ => rfl
  obtain ⟨f_law_transaction, d_law_transaction, a_law_transaction, F_law_transaction⟩ := X_law_transaction
  have g_law_transaction := PySem.W.mg_of X G a_law_transaction
  have b_law_transaction : Binds K d_law_transaction ["_law_deck_here", "_law_world_here", "_law_most", "_law_deep"] [] := F_law_transaction.binds (ps := ["_law_deck_here", "_law_world_here", "_law_most", "_law_deep"]) fun _ _ _ _ _ _ us hl => match us, hl with | [_, _, _, _], _ => rfl
  obtain ⟨f_law_spread, d_law_spread, a_law_spread, F_law_spread⟩ := X_law_spread
  have g_law_spread := PySem.W.mg_of X G a_law_spread
  have b_law_spread : Binds K d_law_spread ["_law_deck_here", "_law_some"] [] := F_law_spread.binds (ps := ["_law_deck_here", "_law_some"]) fun _ _ _ _ _ _ us hl => match us, hl with | [_, _], _ => rfl
  obtain ⟨f_law_is_whole, d_law_is_whole, a_law_is_whole, F_law_is_whole⟩ := X_law_is_whole
  have g_law_is_whole := PySem.W.mg_of X G a_law_is_whole
  have b_law_is_whole : Binds K d_law_is_whole ["_law_thing"] [] := F_law_is_whole.binds (ps := ["_law_thing"]) fun _ _ _ _ _ _ us hl => match us, hl with | [_], _ => rfl
  obtain ⟨f_law_has_marks, d_law_has_marks, a_law_has_marks, F_law_has_marks⟩ := X_law_has_marks
  have g_law_has_marks := PySem.W.mg_of X G a_law_has_marks
  have b_law_has_marks : Binds K d_law_has_marks ["_law_thing"] [] := F_law_has_marks.binds (ps := ["_law_thing"]) fun _ _ _ _ _ _ us hl => match us, hl with | [_], _ => rfl
  obtain ⟨f_law_is_log, d_law_is_log, a_law_is_log, F_law_is_log⟩ := X_law_is_log
  have g_law_is_log := PySem.W.mg_of X G a_law_is_log
  have b_law_is_log : Binds K d_law_is_log ["_law_thing"] [] := F_law_is_log.binds (ps := ["_law_thing"]) fun _ _ _ _ _ _ us hl => match us, hl with | [_], _ => rfl
  obtain ⟨f_law_step_off, d_law_step_off, a_law_step_off, F_law_step_off⟩ := X_law_step_off
  have g_law_step_off := PySem.W.mg_of X G a_law_step_off
  have b_law_step_off : Binds K d_law_step_off ["_law_deck_here", "_law_thing"] [] := F_law_step_off.binds (ps := ["_law_deck_here", "_law_thing"]) fun _ _ _ _ _ _ us hl => match us, hl with | [_, _], _ => rfl
  obtain ⟨f_law_spoilt, d_law_spoilt, a_law_spoilt, F_law_spoilt⟩ := X_law_spoilt
  have g_law_spoilt := PySem.W.mg_of X G a_law_spoilt
  have b_law_spoilt : Binds K d_law_spoilt ["_law_deck_here", "_law_thing", "_law_deep"] [] := F_law_spoilt.binds (ps := ["_law_deck_here", "_law_thing", "_law_deep"]) fun _ _ _ _ _ _ us hl => match us, hl with | [_, _, _], _ => rfl
  obtain ⟨f_law_forged, d_law_forged, a_law_forged, F_law_forged⟩ := X_law_forged
  have g_law_forged := PySem.W.mg_of X G a_law_forged
  have b_law_forged : Binds K d_law_forged ["_law_deck_here", "_law_made", "_law_name"] [] := F_law_forged.binds (ps := ["_law_deck_here", "_law_made", "_law_name"]) fun _ _ _ _ _ _ us hl => match us, hl with | [_, _, _], _ => rfl
  obtain ⟨f_law_right, d_law_right, a_law_right, F_law_right⟩ := X_law_right
  have g_law_right := PySem.W.mg_of X G a_law_right
  have b_law_right : Binds K d_law_right ["_law_thing"] [] := F_law_right.binds (ps := ["_law_thing"]) fun _ _ _ _ _ _ us hl => match us, hl with | [_], _ => rfl
  obtain ⟨f_law0, d_law0, a_law0, F_law0⟩ := X_law
  have e := hfa.symm.trans (PySem.W.mg_of X G a_law0)
  cases e
  have mlist := PySem.W.mg_none_of X G z_list
  have msum := PySem.W.mg_none_of X G z_sum
  have mlen := PySem.W.mg_none_of X G z_len
  have mrange := PySem.W.mg_none_of X G z_range
  have mint := PySem.W.mg_none_of X G z_int
  have mbool := PySem.W.mg_none_of X G z_bool
  have mrepr := PySem.W.mg_none_of X G z_repr
  have mtuple := PySem.W.mg_none_of X G z_tuple
  have mstr := PySem.W.mg_none_of X G z_str
  have misinstance := PySem.W.mg_none_of X G z_isinstance
  have mall := PySem.W.mg_none_of X G z_all
  have many := PySem.W.mg_none_of X G z_any
  have mzip := PySem.W.mg_none_of X G z_zip
  have msorted := PySem.W.mg_none_of X G z_sorted
  have mmin := PySem.W.mg_none_of X G z_min
  have mmax := PySem.W.mg_none_of X G z_max
  have mLIMIT := PySem.W.mg_of X G c_LIMIT
  have mLONGEST_NAME := PySem.W.mg_of X G c_LONGEST_NAME
  have mLAST_POSITION := PySem.W.mg_of X G c_LAST_POSITION
  have mFIELDS := PySem.W.mg_of X G z_FIELDS
  have mFIELDS2 := PySem.W.mg_of X G z_FIELDS2
  have mALL := PySem.W.mg_of X G z_ALL
  have mWORDS := PySem.W.mg_of X G z_WORDS
  have mAGG := PySem.W.mg_of X G z_AGG
  have mLETTERS := PySem.W.mg_of X G z_LETTERS
  obtain ⟨oc, od, kV, doc, pm, an, cdv, ct, osl, hfd, _, _⟩ := F_law0.ex
  refine ⟨d_law0, fun s v => ?_, fun base _ _ => ?_⟩
  · subst hfd
    exact .of_eq rfl
  · have Gdraw := ok_draw (P := P) (w := w) (mg := mg) (base := base) (k := 0) F_law_draw
    have Gpick := ok_pick (k := 1) F_law_pick Gdraw g_law_draw F_law_draw.kp b_law_draw mlen
    have Gnames := ok_names (k := 2) F_law_names (Gdraw.mono (by decide)) g_law_draw F_law_draw.kp b_law_draw Gpick g_law_pick F_law_pick.kp b_law_pick mrange mlen
    have Gworld := ok_world (k := 3) F_law_world (Gdraw.mono (by decide)) g_law_draw F_law_draw.kp b_law_draw Gnames g_law_names F_law_names.kp b_law_names
    have Gdeck := ok_deck (P := P) (w := w) (mg := mg) (base := base) (k := 0) F_law_deck mlist msum mlen
    have Gex := ok_exprs (k := 2) F_law_expression (Gdraw.mono (by decide)) g_law_draw F_law_draw.kp b_law_draw Gpick g_law_pick F_law_pick.kp b_law_pick g_law_expression F_law_expression.kp b_law_expression mint mmax 3
    have Gst := ok_stmt (k := 6) F_law_statement (Gdraw.mono (by decide)) g_law_draw F_law_draw.kp b_law_draw (Gpick.mono (by decide)) g_law_pick F_law_pick.kp b_law_pick Gex g_law_expression F_law_expression.kp b_law_expression
    have Gtr := ok_tran (k := 7) F_law_transaction (Gdraw.mono (by decide)) g_law_draw F_law_draw.kp b_law_draw Gst g_law_statement F_law_statement.kp b_law_statement mrange mint mtuple
    have Gspr := ok_spread (k := 2) F_law_spread (Gdraw.mono (by decide)) g_law_draw F_law_draw.kp b_law_draw Gpick g_law_pick F_law_pick.kp b_law_pick mlen mtuple
    have Gii := ok_is_integer (P := P) (w := w) (mg := mg) (base := base) (k := 0) Fis_integer misinstance mint mbool
    have Giv := ok_is_value (k := 1) Fis_value Gii gis_integer Fis_integer.kp bis_integer mLIMIT
    have Gin := ok_is_name (P := P) (w := w) (mg := mg) (base := base) (k := 0) Fis_name misinstance mstr mlen mall mWORDS T_WORDS mLONGEST_NAME mLETTERS
    have Gwo := ok_word_of (P := P) (w := w) (mg := mg) (base := base) (k := 0) Fword_of misinstance mtuple mstr
    have Gfi := ok_fits (k := 2) Ffits_expressions Giv gis_value Fis_value.kp bis_value (Gin.mono (by decide)) gis_name Fis_name.kp bis_name (Gii.mono (by decide)) gis_integer Fis_integer.kp bis_integer misinstance mtuple
    have Ghf := ok_has_form (k := 3) Fhas_form (Gwo.mono (by decide)) gword_of Fword_of.kp bword_of Gfi gfits_expressions Ffits_expressions.kp bfits_expressions mFIELDS T_FIELDS.1 mlen mzip mall
    have Gof := ok_contained_of (P := P) (w := w) (mg := mg) (base := base) (k := 0) Fcontained_of mFIELDS T_FIELDS.2 mzip
    have Gcon := ok_contained (k := 1) Fcontained Gof gcontained_of Fcontained_of.kp bcontained_of mALL T_ALL
    have Gx := ok_is_expression (k := 4) Fis_expression Ghf ghas_form Fhas_form.kp bhas_form (Gcon.mono (by decide)) gcontained Fcontained.kp bcontained
    have Gfree := ok_contained_free (k := 1) Fcontained_free Gof gcontained_of Fcontained_of.kp bcontained_of
    have Gone := ok_one_deeper (k := 2) Fone_deeper Gcon gcontained Fcontained.kp bcontained
    have Gall := ok_all_parts (k := 3) Fall_parts Gone gone_deeper Fone_deeper.kp bone_deeper
    have Grow := ok_rows_of (P := P) (w := w) (mg := mg) (base := base) (k := 0) Frows_of
    have Gpp := ok_is_plain_part (k := 1) Fis_plain_part Grow grows_of Frows_of.kp brows_of mAGG T_AGG
    have Gpl := ok_is_plain (k := 4) Fis_plain Gall gall_parts Fall_parts.kp ball_parts (Gpp.mono (by decide)) gis_plain_part Fis_plain_part.kp bis_plain_part mall
    have Gsi := ok_is_simple (k := 4) Fis_simple Gall gall_parts Fall_parts.kp ball_parts mAGG T_AGG mall
    have Ghk := ok_has_free_key (k := 2) Fhas_free_key Gfree gcontained_free Fcontained_free.kp bcontained_free
    have Gvs := ok_variables_of (k := 4) Fvariables_of Gall gall_parts Fall_parts.kp ball_parts msorted mtuple
    have Gf2 := ok_fits2 (k := 5) Ffits_statements (Gin.mono (by decide)) gis_name Fis_name.kp bis_name Gx gis_expression Fis_expression.kp bis_expression Gpl gis_plain Fis_plain.kp bis_plain Gsi gis_simple Fis_simple.kp bis_simple (Ghk.mono (by decide)) ghas_free_key Fhas_free_key.kp bhas_free_key
    have Gis := ok_is_statement (k := 6) Fis_statement (Gwo.mono (by decide)) gword_of Fword_of.kp bword_of Gf2 gfits_statements Ffits_statements.kp bfits_statements mFIELDS2 T_FIELDS2.1 mlen mzip mall
    have Gnl := ok_names_let (P := P) (w := w) (mg := mg) (base := base) (k := 0) Fnames_let
    have Gei := ok_expressions_in (P := P) (w := w) (mg := mg) (base := base) (k := 0) Fexpressions_in mFIELDS2 T_FIELDS2.2 mzip
    have Gnu := ok_names_used (k := 5) Fnames_used (Gei.mono (by decide)) gexpressions_in Fexpressions_in.kp bexpressions_in Gvs gvariables_of Fvariables_of.kp bvariables_of
    have Gmf := ok_may_follow (k := 6) Fmay_follow (Gnl.mono (by decide)) gnames_let Fnames_let.kp bnames_let Gnu gnames_used Fnames_used.kp bnames_used mall many
    have Git := ok_is_transaction (k := 7) Fis_transaction (Gnl.mono (by decide)) gnames_let Fnames_let.kp bnames_let Gis gis_statement Fis_statement.kp bis_statement Gmf gmay_follow Fmay_follow.kp bmay_follow misinstance mtuple
    have Gam := ok_are_marks (k := 1) Fare_marks Gii gis_integer Fis_integer.kp bis_integer mLAST_POSITION misinstance mtuple mall mzip
    have Gae := ok_are_entries (k := 1) Fare_entries Gii gis_integer Fis_integer.kp bis_integer misinstance mtuple mlen
    have Gpa := ok_parted (P := P) (w := w) (mg := mg) (base := base) (k := 0) Fparted mlen
    have Gil := ok_is_log (k := 8) Fis_log (Gam.mono (by decide)) gare_marks Fare_marks.kp bare_marks (Gae.mono (by decide)) gare_entries Fare_entries.kp bare_entries (Gpa.mono (by decide)) gparted Fparted.kp bparted Git gis_transaction Fis_transaction.kp bis_transaction misinstance mtuple mlen mall
    have Glw := ok_law_is_whole (P := P) (w := w) (mg := mg) (base := base) (k := 0) F_law_is_whole misinstance mint mbool
    have Ghm := ok_law_has_marks (k := 1) F_law_has_marks Glw g_law_is_whole F_law_is_whole.kp b_law_is_whole misinstance mtuple mlen mrange
    have Gll := ok_law_is_log (k := 8) F_law_is_log (Ghm.mono (by decide)) g_law_has_marks F_law_has_marks.kp b_law_has_marks (Glw.mono (by decide)) g_law_is_whole F_law_is_whole.kp b_law_is_whole Git gis_transaction Fis_transaction.kp bis_transaction misinstance mtuple mlen mzip
    have Gri := ok_right (k := 9) F_law_right Gll g_law_is_log F_law_is_log.kp b_law_is_log Gil gis_log Fis_log.kp bis_log mrepr misinstance mbool
    have Gso := ok_step_off (k := 2) F_law_step_off (Gdraw.mono (by decide)) g_law_draw F_law_draw.kp b_law_draw Gpick g_law_pick F_law_pick.kp b_law_pick misinstance mtuple mlen mlist mstr mint
    have Gsp := ok_spoilt (k := 3) F_law_spoilt (Gdraw.mono (by decide)) g_law_draw F_law_draw.kp b_law_draw Gso g_law_step_off F_law_step_off.kp b_law_step_off g_law_spoilt F_law_spoilt.kp b_law_spoilt misinstance mtuple mlen mint
    have Gfo := ok_forged (k := 2) F_law_forged (Gdraw.mono (by decide)) g_law_draw F_law_draw.kp b_law_draw Gpick g_law_pick F_law_pick.kp b_law_pick mlen mlist
    exact ok_law (k := 10) F_law0 (Gdeck.mono (by decide)) g_law_deck F_law_deck.kp b_law_deck (Gdraw.mono (by decide)) g_law_draw F_law_draw.kp b_law_draw (Gworld.mono (by decide)) g_law_world F_law_world.kp b_law_world (Gtr.mono (by decide)) g_law_transaction F_law_transaction.kp b_law_transaction Gri g_law_right F_law_right.kp b_law_right (Gspr.mono (by decide)) g_law_spread F_law_spread.kp b_law_spread (Gil.mono (by decide)) gis_log Fis_log.kp bis_log (Gfo.mono (by decide)) g_law_forged F_law_forged.kp b_law_forged (Gsp 6) ((Gsp 4).mono (by decide)) g_law_spoilt F_law_spoilt.kp b_law_spoilt mrange mmax mmin mlen
end L17
open PySem PySem.W PyProof.Rows
set_option maxHeartbeats 0 in
theorem PySem.Challenge.cw_lookdone_k17_what_is_a_log_holds : PySem.Challenge.rw_lookdone_k17_what_is_a_log.Holds := by
  w_on; o_law; k_head; (case hw => w_witness2)
  k_fill
  refine GR.walk_g (l := PySem.Challenge.rw_lookdone_k17_what_is_a_log) (n := 63) (k := 11) (x := "_law_script") (sp := L17.sp_law) rfl (by decide) rfl ⟨rfl, by decide, by decide⟩ (fun w h Y => PySem.W.kIn_of Y) ?F (fun _ _ a ns hl _ hS => ⟨a, ns, rfl, hS, fun _ => rfl⟩)
  case F =>
    intro w mg fa h KX G hmg
    refine' L17.all_mk KX G hmg (L17.has_mk (y := "is_integer") (st := L17.s_is_integer) ?a_is_integer ?l_is_integer ?c_is_integer ?k_is_integer) (L17.has_mk (y := "is_value") (st := L17.s_is_value) ?a_is_value ?l_is_value ?c_is_value ?k_is_value) (L17.has_mk (y := "is_name") (st := L17.s_is_name) ?a_is_name ?l_is_name ?c_is_name ?k_is_name) (L17.has_mk (y := "word_of") (st := L17.s_word_of) ?a_word_of ?l_word_of ?c_word_of ?k_word_of) (L17.has_mk (y := "is_expression") (st := L17.s_is_expression) ?a_is_expression ?l_is_expression ?c_is_expression ?k_is_expression) (L17.has_mk (y := "has_form") (st := L17.s_has_form) ?a_has_form ?l_has_form ?c_has_form ?k_has_form) (L17.has_mk (y := "fits") (st := L17.s_fits) ?a_fits_expressions ?l_fits_expressions ?c_fits_expressions ?k_fits_expressions) (L17.has_mk (y := "contained") (st := L17.s_contained) ?a_contained ?l_contained ?c_contained ?k_contained) (L17.has_mk (y := "contained_free") (st := L17.s_contained_free) ?a_contained_free ?l_contained_free ?c_contained_free ?k_contained_free) (L17.has_mk (y := "contained_of") (st := L17.s_contained_of) ?a_contained_of ?l_contained_of ?c_contained_of ?k_contained_of) (L17.has_mk (y := "one_deeper") (st := L17.s_one_deeper) ?a_one_deeper ?l_one_deeper ?c_one_deeper ?k_one_deeper) (L17.has_mk (y := "all_parts") (st := L17.s_all_parts) ?a_all_parts ?l_all_parts ?c_all_parts ?k_all_parts) (L17.has_mk (y := "rows_of") (st := L17.s_rows_of) ?a_rows_of ?l_rows_of ?c_rows_of ?k_rows_of) (L17.has_mk (y := "is_plain") (st := L17.s_is_plain) ?a_is_plain ?l_is_plain ?c_is_plain ?k_is_plain) (L17.has_mk (y := "is_plain_part") (st := L17.s_is_plain_part) ?a_is_plain_part ?l_is_plain_part ?c_is_plain_part ?k_is_plain_part) (L17.has_mk (y := "has_free_key") (st := L17.s_has_free_key) ?a_has_free_key ?l_has_free_key ?c_has_free_key ?k_has_free_key) (L17.has_mk (y := "is_simple") (st := L17.s_is_simple) ?a_is_simple ?l_is_simple ?c_is_simple ?k_is_simple) (L17.has_mk (y := "variables_of") (st := L17.s_variables_of) ?a_variables_of ?l_variables_of ?c_variables_of ?k_variables_of) (L17.has_mk (y := "is_transaction") (st := L17.s_is_transaction) ?a_is_transaction ?l_is_transaction ?c_is_transaction ?k_is_transaction) (L17.has_mk (y := "is_statement") (st := L17.s_is_statement) ?a_is_statement ?l_is_statement ?c_is_statement ?k_is_statement) (L17.has_mk (y := "fits") (st := L17.s_fits2) ?a_fits_statements ?l_fits_statements ?c_fits_statements ?k_fits_statements) (L17.has_mk (y := "may_follow") (st := L17.s_may_follow) ?a_may_follow ?l_may_follow ?c_may_follow ?k_may_follow) (L17.has_mk (y := "names_let") (st := L17.s_names_let) ?a_names_let ?l_names_let ?c_names_let ?k_names_let) (L17.has_mk (y := "names_used") (st := L17.s_names_used) ?a_names_used ?l_names_used ?c_names_used ?k_names_used) (L17.has_mk (y := "expressions_in") (st := L17.s_expressions_in) ?a_expressions_in ?l_expressions_in ?c_expressions_in ?k_expressions_in) (L17.has_mk (y := "is_log") (st := L17.s_is_log) ?a_is_log ?l_is_log ?c_is_log ?k_is_log) (L17.has_mk (y := "are_marks") (st := L17.s_are_marks) ?a_are_marks ?l_are_marks ?c_are_marks ?k_are_marks) (L17.has_mk (y := "are_entries") (st := L17.s_are_entries) ?a_are_entries ?l_are_entries ?c_are_entries ?k_are_entries) (L17.has_mk (y := "parted") (st := L17.s_parted) ?a_parted ?l_parted ?c_parted ?k_parted) (L17.has_mk (y := "_law_deck") (st := L17.s_law_deck) ?a_law_deck ?l_law_deck ?c_law_deck ?k_law_deck) (L17.has_mk (y := "_law_draw") (st := L17.s_law_draw) ?a_law_draw ?l_law_draw ?c_law_draw ?k_law_draw) (L17.has_mk (y := "_law_pick") (st := L17.s_law_pick) ?a_law_pick ?l_law_pick ?c_law_pick ?k_law_pick) (L17.has_mk (y := "_law_names") (st := L17.s_law_names) ?a_law_names ?l_law_names ?c_law_names ?k_law_names) (L17.has_mk (y := "_law_world") (st := L17.s_law_world) ?a_law_world ?l_law_world ?c_law_world ?k_law_world) (L17.has_mk (y := "_law_expression") (st := L17.s_law_expression) ?a_law_expression ?l_law_expression ?c_law_expression ?k_law_expression) (L17.has_mk (y := "_law_statement") (st := L17.s_law_statement) ?a_law_statement ?l_law_statement ?c_law_statement ?k_law_statement) (L17.has_mk (y := "_law_transaction") (st := L17.s_law_transaction) ?a_law_transaction ?l_law_transaction ?c_law_transaction ?k_law_transaction) (L17.has_mk (y := "_law_spread") (st := L17.s_law_spread) ?a_law_spread ?l_law_spread ?c_law_spread ?k_law_spread) (L17.has_mk (y := "_law_is_whole") (st := L17.s_law_is_whole) ?a_law_is_whole ?l_law_is_whole ?c_law_is_whole ?k_law_is_whole) (L17.has_mk (y := "_law_has_marks") (st := L17.s_law_has_marks) ?a_law_has_marks ?l_law_has_marks ?c_law_has_marks ?k_law_has_marks) (L17.has_mk (y := "_law_is_log") (st := L17.s_law_is_log) ?a_law_is_log ?l_law_is_log ?c_law_is_log ?k_law_is_log) (L17.has_mk (y := "_law_step_off") (st := L17.s_law_step_off) ?a_law_step_off ?l_law_step_off ?c_law_step_off ?k_law_step_off) (L17.has_mk (y := "_law_spoilt") (st := L17.s_law_spoilt) ?a_law_spoilt ?l_law_spoilt ?c_law_spoilt ?k_law_spoilt) (L17.has_mk (y := "_law_forged") (st := L17.s_law_forged) ?a_law_forged ?l_law_forged ?c_law_forged ?k_law_forged) (L17.has_mk (y := "_law_right") (st := L17.s_law_right) ?a_law_right ?l_law_right ?c_law_right ?k_law_right) (L17.has_mk (y := "law") (st := L17.s_law) ?a_law ?l_law ?c_law ?k_law) ?z_list ?z_sum ?z_len ?z_range ?z_int ?z_bool ?z_repr ?z_tuple ?z_str ?z_isinstance ?z_all ?z_any ?z_zip ?z_sorted ?z_min ?z_max ?c0_LIMIT ?c0_LONGEST_NAME ?c0_LAST_POSITION ?z_FIELDS (L17.flds_mk ?l_F ?kl_F ?hk_F ?low_F ?q_0 (L17.ktx_mk ?l_0 ?v_0 (by decide)) ?q_1 (L17.ktx_mk ?l_1 ?v_1 (by decide)) ?q_2 (L17.ktx_mk ?l_2 ?v_2 (by decide)) ?q_3 (L17.ktx_mk ?l_3 ?v_3 (by decide)) ?q_4 (L17.ktx_mk ?l_4 ?v_4 (by decide)) ?q_5 (L17.ktx_mk ?l_5 ?v_5 (by decide)) ?q_6 (L17.ktx_mk ?l_6 ?v_6 (by decide)) ?q_7 (L17.ktx_mk ?l_7 ?v_7 (by decide)) ?q_8 (L17.ktx_mk ?l_8 ?v_8 (by decide)) ?q_9 (L17.ktx_mk ?l_9 ?v_9 (by decide)) ?q_10 (L17.ktx_mk ?l_10 ?v_10 (by decide)) ?q_11 (L17.ktx_mk ?l_11 ?v_11 (by decide)) ?q_12 (L17.ktx_mk ?l_12 ?v_12 (by decide)) ?q_13 (L17.ktx_mk ?l_13 ?v_13 (by decide)) ?q_14 (L17.ktx_mk ?l_14 ?v_14 (by decide)) ?q_15 (L17.ktx_mk ?l_15 ?v_15 (by decide))) ?z_FIELDS2 (L17.fldsS_mk ?l_F2 ?kl_F2 ?hk_F2 ?low_F2 ?q2_0 (L17.ktx_mk ?l2_0 ?v2_0 (by decide)) ?q2_1 (L17.ktx_mk ?l2_1 ?v2_1 (by decide)) ?q2_2 (L17.ktx_mk ?l2_2 ?v2_2 (by decide)) ?q2_3 (L17.ktx_mk ?l2_3 ?v2_3 (by decide)) ?q2_4 (L17.ktx_mk ?l2_4 ?v2_4 (by decide))) ?z_ALL (L17.ktx_mk (fs := ["free", "bound"]) ?l_A ?v_A (by decide)) ?z_WORDS (L17.ktx_mk (fs := ["key", "if", "at", "count", "sum", "most", "first", "let", "need", "put", "each", "tell"]) ?l_W ?v_W (by decide)) ?z_AGG (L17.ktx_mk (fs := ["count", "sum", "most", "first"]) ?l_G ?v_G (by decide)) ?z_LETTERS
    (case a_is_integer => k_is)
    (case l_is_integer => k_is)
    (case c_is_integer => k_is)
    (case k_is_integer => k_is)
    (case a_is_value => k_is)
    (case l_is_value => k_is)
    (case c_is_value => k_is)
    (case k_is_value => k_is)
    (case a_is_name => k_is)
    (case l_is_name => k_is)
    (case c_is_name => k_is)
    (case k_is_name => k_is)
    (case a_word_of => k_is)
    (case l_word_of => k_is)
    (case c_word_of => k_is)
    (case k_word_of => k_is)
    (case a_is_expression => k_is)
    (case l_is_expression => k_is)
    (case c_is_expression => k_is)
    (case k_is_expression => k_is)
    (case a_has_form => k_is)
    (case l_has_form => k_is)
    (case c_has_form => k_is)
    (case k_has_form => k_is)
    (case a_fits_expressions => k_is)
    (case l_fits_expressions => k_is)
    (case c_fits_expressions => k_is)
    (case k_fits_expressions => k_is)
    (case a_contained => k_is)
    (case l_contained => k_is)
    (case c_contained => k_is)
    (case k_contained => k_is)
    (case a_contained_free => k_is)
    (case l_contained_free => k_is)
    (case c_contained_free => k_is)
    (case k_contained_free => k_is)
    (case a_contained_of => k_is)
    (case l_contained_of => k_is)
    (case c_contained_of => k_is)
    (case k_contained_of => k_is)
    (case a_one_deeper => k_is)
    (case l_one_deeper => k_is)
    (case c_one_deeper => k_is)
    (case k_one_deeper => k_is)
    (case a_all_parts => k_is)
    (case l_all_parts => k_is)
    (case c_all_parts => k_is)
    (case k_all_parts => k_is)
    (case a_rows_of => k_is)
    (case l_rows_of => k_is)
    (case c_rows_of => k_is)
    (case k_rows_of => k_is)
    (case a_is_plain => k_is)
    (case l_is_plain => k_is)
    (case c_is_plain => k_is)
    (case k_is_plain => k_is)
    (case a_is_plain_part => k_is)
    (case l_is_plain_part => k_is)
    (case c_is_plain_part => k_is)
    (case k_is_plain_part => k_is)
    (case a_has_free_key => k_is)
    (case l_has_free_key => k_is)
    (case c_has_free_key => k_is)
    (case k_has_free_key => k_is)
    (case a_is_simple => k_is)
    (case l_is_simple => k_is)
    (case c_is_simple => k_is)
    (case k_is_simple => k_is)
    (case a_variables_of => k_is)
    (case l_variables_of => k_is)
    (case c_variables_of => k_is)
    (case k_variables_of => k_is)
    (case a_is_transaction => k_is)
    (case l_is_transaction => k_is)
    (case c_is_transaction => k_is)
    (case k_is_transaction => k_is)
    (case a_is_statement => k_is)
    (case l_is_statement => k_is)
    (case c_is_statement => k_is)
    (case k_is_statement => k_is)
    (case a_fits_statements => k_is)
    (case l_fits_statements => k_is)
    (case c_fits_statements => k_is)
    (case k_fits_statements => k_is)
    (case a_may_follow => k_is)
    (case l_may_follow => k_is)
    (case c_may_follow => k_is)
    (case k_may_follow => k_is)
    (case a_names_let => k_is)
    (case l_names_let => k_is)
    (case c_names_let => k_is)
    (case k_names_let => k_is)
    (case a_names_used => k_is)
    (case l_names_used => k_is)
    (case c_names_used => k_is)
    (case k_names_used => k_is)
    (case a_expressions_in => k_is)
    (case l_expressions_in => k_is)
    (case c_expressions_in => k_is)
    (case k_expressions_in => k_is)
    (case a_is_log => k_is)
    (case l_is_log => k_is)
    (case c_is_log => k_is)
    (case k_is_log => k_is)
    (case a_are_marks => k_is)
    (case l_are_marks => k_is)
    (case c_are_marks => k_is)
    (case k_are_marks => k_is)
    (case a_are_entries => k_is)
    (case l_are_entries => k_is)
    (case c_are_entries => k_is)
    (case k_are_entries => k_is)
    (case a_parted => k_is)
    (case l_parted => k_is)
    (case c_parted => k_is)
    (case k_parted => k_is)
    (case a_law_deck => k_is)
    (case l_law_deck => k_is)
    (case c_law_deck => k_is)
    (case k_law_deck => k_is)
    (case a_law_draw => k_is)
    (case l_law_draw => k_is)
    (case c_law_draw => k_is)
    (case k_law_draw => k_is)
    (case a_law_pick => k_is)
    (case l_law_pick => k_is)
    (case c_law_pick => k_is)
    (case k_law_pick => k_is)
    (case a_law_names => k_is)
    (case l_law_names => k_is)
    (case c_law_names => k_is)
    (case k_law_names => k_is)
    (case a_law_world => k_is)
    (case l_law_world => k_is)
    (case c_law_world => k_is)
    (case k_law_world => k_is)
    (case a_law_expression => k_is)
    (case l_law_expression => k_is)
    (case c_law_expression => k_is)
    (case k_law_expression => k_is)
    (case a_law_statement => k_is)
    (case l_law_statement => k_is)
    (case c_law_statement => k_is)
    (case k_law_statement => k_is)
    (case a_law_transaction => k_is)
    (case l_law_transaction => k_is)
    (case c_law_transaction => k_is)
    (case k_law_transaction => k_is)
    (case a_law_spread => k_is)
    (case l_law_spread => k_is)
    (case c_law_spread => k_is)
    (case k_law_spread => k_is)
    (case a_law_is_whole => k_is)
    (case l_law_is_whole => k_is)
    (case c_law_is_whole => k_is)
    (case k_law_is_whole => k_is)
    (case a_law_has_marks => k_is)
    (case l_law_has_marks => k_is)
    (case c_law_has_marks => k_is)
    (case k_law_has_marks => k_is)
    (case a_law_is_log => k_is)
    (case l_law_is_log => k_is)
    (case c_law_is_log => k_is)
    (case k_law_is_log => k_is)
    (case a_law_step_off => k_is)
    (case l_law_step_off => k_is)
    (case c_law_step_off => k_is)
    (case k_law_step_off => k_is)
    (case a_law_spoilt => k_is)
    (case l_law_spoilt => k_is)
    (case c_law_spoilt => k_is)
    (case k_law_spoilt => k_is)
    (case a_law_forged => k_is)
    (case l_law_forged => k_is)
    (case c_law_forged => k_is)
    (case k_law_forged => k_is)
    (case a_law_right => k_is)
    (case l_law_right => k_is)
    (case c_law_right => k_is)
    (case k_law_right => k_is)
    (case a_law => k_is)
    (case l_law => k_is)
    (case c_law => k_is)
    (case k_law => k_is)
    (case z_list => k_is)
    (case z_sum => k_is)
    (case z_len => k_is)
    (case z_range => k_is)
    (case z_int => k_is)
    (case z_bool => k_is)
    (case z_repr => k_is)
    (case z_tuple => k_is)
    (case z_str => k_is)
    (case z_isinstance => k_is)
    (case z_all => k_is)
    (case z_any => k_is)
    (case z_zip => k_is)
    (case z_sorted => k_is)
    (case z_min => k_is)
    (case z_max => k_is)
    (case c0_LIMIT => k_is)
    (case c0_LONGEST_NAME => k_is)
    (case c0_LAST_POSITION => k_is)
    (case z_FIELDS => k_is)
    (case l_F => k_is)
    (case kl_F => k_keys)
    (case hk_F => rfl)
    (case low_F => rfl)
    (case q_0 => k_is)
    (case l_0 => k_is)
    (case v_0 => repeat (first | exact .nil | refine .cons ⟨_, rfl⟩ ?_))
    (case q_1 => k_is)
    (case l_1 => k_is)
    (case v_1 => repeat (first | exact .nil | refine .cons ⟨_, rfl⟩ ?_))
    (case q_2 => k_is)
    (case l_2 => k_is)
    (case v_2 => repeat (first | exact .nil | refine .cons ⟨_, rfl⟩ ?_))
    (case q_3 => k_is)
    (case l_3 => k_is)
    (case v_3 => repeat (first | exact .nil | refine .cons ⟨_, rfl⟩ ?_))
    (case q_4 => k_is)
    (case l_4 => k_is)
    (case v_4 => repeat (first | exact .nil | refine .cons ⟨_, rfl⟩ ?_))
    (case q_5 => k_is)
    (case l_5 => k_is)
    (case v_5 => repeat (first | exact .nil | refine .cons ⟨_, rfl⟩ ?_))
    (case q_6 => k_is)
    (case l_6 => k_is)
    (case v_6 => repeat (first | exact .nil | refine .cons ⟨_, rfl⟩ ?_))
    (case q_7 => k_is)
    (case l_7 => k_is)
    (case v_7 => repeat (first | exact .nil | refine .cons ⟨_, rfl⟩ ?_))
    (case q_8 => k_is)
    (case l_8 => k_is)
    (case v_8 => repeat (first | exact .nil | refine .cons ⟨_, rfl⟩ ?_))
    (case q_9 => k_is)
    (case l_9 => k_is)
    (case v_9 => repeat (first | exact .nil | refine .cons ⟨_, rfl⟩ ?_))
    (case q_10 => k_is)
    (case l_10 => k_is)
    (case v_10 => repeat (first | exact .nil | refine .cons ⟨_, rfl⟩ ?_))
    (case q_11 => k_is)
    (case l_11 => k_is)
    (case v_11 => repeat (first | exact .nil | refine .cons ⟨_, rfl⟩ ?_))
    (case q_12 => k_is)
    (case l_12 => k_is)
    (case v_12 => repeat (first | exact .nil | refine .cons ⟨_, rfl⟩ ?_))
    (case q_13 => k_is)
    (case l_13 => k_is)
    (case v_13 => repeat (first | exact .nil | refine .cons ⟨_, rfl⟩ ?_))
    (case q_14 => k_is)
    (case l_14 => k_is)
    (case v_14 => repeat (first | exact .nil | refine .cons ⟨_, rfl⟩ ?_))
    (case q_15 => k_is)
    (case l_15 => k_is)
    (case v_15 => repeat (first | exact .nil | refine .cons ⟨_, rfl⟩ ?_))
    (case z_FIELDS2 => k_is)
    (case l_F2 => k_is)
    (case kl_F2 => k_keys)
    (case hk_F2 => rfl)
    (case low_F2 => rfl)
    (case q2_0 => k_is)
    (case l2_0 => k_is)
    (case v2_0 => repeat (first | exact .nil | refine .cons ⟨_, rfl⟩ ?_))
    (case q2_1 => k_is)
    (case l2_1 => k_is)
    (case v2_1 => repeat (first | exact .nil | refine .cons ⟨_, rfl⟩ ?_))
    (case q2_2 => k_is)
    (case l2_2 => k_is)
    (case v2_2 => repeat (first | exact .nil | refine .cons ⟨_, rfl⟩ ?_))
    (case q2_3 => k_is)
    (case l2_3 => k_is)
    (case v2_3 => repeat (first | exact .nil | refine .cons ⟨_, rfl⟩ ?_))
    (case q2_4 => k_is)
    (case l2_4 => k_is)
    (case v2_4 => repeat (first | exact .nil | refine .cons ⟨_, rfl⟩ ?_))
    (case z_ALL => k_is)
    (case l_A => k_is)
    (case v_A => repeat (first | exact .nil | refine .cons ⟨_, rfl⟩ ?_))
    (case z_WORDS => k_is)
    (case l_W => k_is)
    (case v_W => repeat (first | exact .nil | refine .cons ⟨_, rfl⟩ ?_))
    (case z_AGG => k_is)
    (case l_G => k_is)
    (case v_G => repeat (first | exact .nil | refine .cons ⟨_, rfl⟩ ?_))
    (case z_LETTERS => k_is)
