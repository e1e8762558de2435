import PyProof.Rows.All
import Wide.All
import OpenK.AllK
import Wide.FinOn
import HandS.ForMost
import HandS.Codes
import HandS.StrMore
import HandS.IsInst
import PyProof.ReprRoads
import PyProof.ReprBulk
import HandS.More
import PySem.Challenge.RW_begunended_k00_whole_tokens_of_drawn_row
import HandS.Wide
import HandS.ReplaceLit
import HandS.ReplaceList
import HandS.Style
import HandS.TupAny
import HandS.Conv
import HandS.HeadHook3
set_option Elab.async false
set_option linter.all false
set_option maxRecDepth 100000
set_option exponentiation.threshold 2000
/-! k00, the mathematics: signs, comments, tokens as lists of codes -/
namespace K0
open PySem SX L2

abbrev L := List Nat
def isLet (c : Nat) : Bool := (decide (97 ≤ c) && decide (c ≤ 122)) || (decide (65 ≤ c) && decide (c ≤ 90))
def isFig (c : Nat) : Bool := decide (48 ≤ c) && decide (c ≤ 57)
def isAl (c : Nat) : Bool := isLet c || isFig c
abbrev lo (c : Nat) : Nat := PyProof.Rows.lo1 c

/-! ### comments -/
def comEnd : L → Option Nat
  | [] => none
  | c :: r =>
    if c = 125 then some 1
    else if c = 42 ∧ r.head? = some 41 then some 2
    else (comEnd r).map (· + 1)

/-! ### where one stands: line and column -/
def adv (p : Nat × Nat) : L → Nat × Nat
  | [] => p
  | c :: r => adv (if c = 10 then (p.1 + 1, 1) else (p.1, p.2 + 1)) r
theorem adv_app (p : Nat × Nat) (a b : L) : adv p (a ++ b) = adv (adv p a) b := by
  induction a generalizing p with
  | nil => rfl
  | cons c r ih => exact ih _
theorem adv_free {p : Nat × Nat} {a : L} (h : 10 ∉ a) : adv p a = (p.1, p.2 + a.length) := by
  induction a generalizing p with
  | nil => rfl
  | cons c r ih =>
    have h1 : c ≠ 10 := fun e => h (by rw [e]; exact List.mem_cons_self)
    show adv (if c = 10 then (p.1 + 1, 1) else (p.1, p.2 + 1)) r = _
    rw [if_neg h1, ih fun e => h (List.mem_cons_of_mem _ e), List.length_cons]
    show (p.1, p.2 + 1 + r.length) = _
    rw [Nat.add_right_comm, Nat.add_assoc]
theorem adv_fst (p : Nat × Nat) (a : L) : (adv p a).1 = p.1 + a.count 10 := by
  induction a generalizing p with
  | nil => rfl
  | cons c r ih =>
    show (adv (if c = 10 then (p.1 + 1, 1) else (p.1, p.2 + 1)) r).1 = _
    rw [ih, List.count_cons]
    by_cases h : c = 10
    · subst h
      rw [if_pos rfl, if_pos (by decide)]
      show p.1 + 1 + _ = _
      omega
    · rw [if_neg h, if_neg (by simpa using h)]
      show p.1 + _ = _
      omega
theorem adv_last (p : Nat × Nat) (a b : L) (h : 10 ∉ b) : adv p (a ++ 10 :: b) = (p.1 + a.count 10 + 1, 1 + b.length) := by
  rw [adv_app]
  show adv (if (10 : Nat) = 10 then ((adv p a).1 + 1, 1) else ((adv p a).1, (adv p a).2 + 1)) b = _
  rw [if_pos rfl, adv_free h, adv_fst]
theorem adv_snd_le (p : Nat × Nat) (a : L) : (adv p a).2 ≤ p.2 + a.length + 1 := by
  induction a generalizing p with
  | nil => show p.2 ≤ _; simp only [List.length_nil]; omega
  | cons c r ih =>
    show (adv (if c = 10 then (p.1 + 1, 1) else (p.1, p.2 + 1)) r).2 ≤ _
    refine Nat.le_trans (ih _) ?_
    rw [List.length_cons]
    by_cases h : c = 10
    · rw [if_pos h]; show 1 + _ + 1 ≤ _; omega
    · rw [if_neg h]; show p.2 + 1 + _ + 1 ≤ _; omega
theorem adv_pos {p : Nat × Nat} (h : 1 ≤ p.2) (a : L) : 1 ≤ (adv p a).2 := by
  induction a generalizing p with
  | nil => exact h
  | cons c r ih =>
    refine ih ?_
    by_cases e : c = 10
    · rw [if_pos e]; exact Nat.le_refl _
    · rw [if_neg e]; exact Nat.le_add_left _ _
/-- a list with a line feed, cut at the last one -/
theorem last_feed : ∀ {a : L}, 10 ∈ a → ∃ x y, a = x ++ 10 :: y ∧ 10 ∉ y
  | [], h => absurd h List.not_mem_nil
  | c :: r, h => by
    by_cases hr : 10 ∈ r
    · obtain ⟨x, y, e, n⟩ := last_feed hr
      exact ⟨c :: x, y, by rw [e]; rfl, n⟩
    · rcases List.mem_cons.mp h with e | e
      · exact ⟨[], r, by rw [← e]; rfl, hr⟩
      · exact absurd e hr

/-! ### tokens -/
def codes (s : String) : L := s.toList.map Char.toNat
theorem codes_S (s : String) : Str.ofString s = S (codes s) := TL.ext_tl (TL.tl_ofString s)
def wordsS : List String := ["and", "array", "begin", "case", "const", "div", "do", "downto", "else", "end", "file", "for", "function", "goto", "if", "in", "label", "mod", "nil", "not", "of", "or", "packed", "procedure", "program", "record", "repeat", "set", "then", "to", "type", "until", "var", "while", "with"]
def wordsL : List L := wordsS.map codes
def pairsS : List String := ["<>", "<=", ">=", "..", ":="]
def pairsL : List L := pairsS.map codes
def singles : L := codes "+-*=<>()[].,:;^"
/-- may this sign stand behind that token with nothing between -/
def may (w : L) (c : Nat) : Prop :=
  match w with
  | [] => True
  | d :: r => if isLet d = true then isAl c = false else if isFig d = true then isFig c = false else if d = 39 then c ≠ 39 else (d :: r) ++ [c] ∉ pairsL ∧ (d :: r) ++ [c] ≠ [40, 42]
def Fol (w r : L) : Prop := ∀ c, r.head? = some c → may w c
def dblq (l : L) : L := StrLaws.dbl 39 l
inductive TokOk : L → String → V → Prop
  | word {w : L} {c : Nat} {r : L} : w = c :: r → isLet c = true → (∀ d ∈ w, isAl d = true) → w.map lo ∈ wordsL → TokOk w "word" (.str (S (w.map lo)))
  | name {w : L} {c : Nat} {r : L} : w = c :: r → isLet c = true → (∀ d ∈ w, isAl d = true) → w.map lo ∉ wordsL → TokOk w "name" (.str (S (w.map lo)))
  | num {w : L} {n k : Nat} : w = List.replicate k 48 ++ TL.numL n → n ≤ 2147483647 → k ≤ 1000 → TokOk w "number" (.int n)
  | str {w s : L} : w = 39 :: (dblq s ++ [39]) → s ≠ [] → 10 ∉ s → TokOk w "string" (.str (S s))
  | one {c : Nat} : c ∈ singles → TokOk [c] "sign" (.str (S [c]))
  | two {w : L} : w ∈ pairsL → TokOk w "sign" (.str (S w))
def GapOk (g : L) : Prop := g = [32] ∨ g = [10] ∨ ∃ o i, (o = [123] ∨ o = [40, 42]) ∧ g = o ++ i ∧ ∀ r, comEnd (i ++ r) = some i.length
inductive El where
  | gap (g : L)
  | tok (w : L) (so : String) (v : V)
def El.txt : El → L
  | .gap g => g
  | .tok w _ _ => w
def flat (els : List El) : L := (els.map El.txt).flatten
theorem flat_nil : flat [] = [] := rfl
theorem flat_cons (e : El) (r : List El) : flat (e :: r) = e.txt ++ flat r := rfl
theorem flat_app (a b : List El) : flat (a ++ b) = flat a ++ flat b := by
  unfold flat
  rw [List.map_append, List.flatten_append]
abbrev Row := String × V × Nat × Nat
def due (p : Nat × Nat) : List El → List Row
  | [] => []
  | .gap g :: r => due (adv p g) r
  | .tok w so v :: r => (so, v, p.1, p.2) :: due (adv p w) r
theorem due_app (p : Nat × Nat) (a b : List El) : due p (a ++ b) = due p a ++ due (adv p (flat a)) b := by
  induction a generalizing p with
  | nil => rfl
  | cons e r ih =>
    cases e with
    | gap g =>
      show due (adv p g) (r ++ b) = due (adv p g) r ++ due (adv p (g ++ flat r)) b
      rw [ih, adv_app]
    | tok w so v =>
      show _ :: due (adv p w) (r ++ b) = _ :: (due (adv p w) r ++ due (adv p (w ++ flat r)) b)
      rw [ih, adv_app]
def ElsOk : List El → Prop
  | [] => True
  | .gap g :: r => GapOk g ∧ ElsOk r
  | .tok w so v :: r => TokOk w so v ∧ Fol w (flat r) ∧ ElsOk r
end K0

/-! k00: defs that know that no repr is under way around them -/
namespace K0
open PySem PySem.Spec PyProof.Rows L2 C8

structure Fg (P : Program) (w : World) (K : PySem.W.Frag) (mg : Str → Option Value) (base : Heap) (k : Nat) (f : Addr) (fd : FuncData) (ps : List Str) (sp : Sp) : Prop where
  len : ∀ vs H Q E, sp vs H Q E → vs.length = ps.length
  run : ∀ (A : Around) (outer : List Env) (s : Shared) (H : Hp) (args : Args) (us : List Value) (vs : List V) (Q : VK) (E : XK),
    Room k A → A.guards = some [] → Env0 P w K mg base A outer s H → BindsTo s fd args (ps.zip us) → Vals vs us → sp vs H Q E →
    codeAny (model P w) A (.call (.ref f) args) (CR C8.CX0 outer P w H s Q E) s
section
variable {P : Program} {w : World} {K : PySem.W.Frag} {mg : Str → Option Value} {base : Heap}
theorem g0 {x qual : Str} {st : Stmt} {f : Addr} {fd : FuncData} {N ps : List Str} {k : Nat} {sp : Sp}
    (F : C8.Fun K x qual st f fd) (S : FnScope N ps (C8.fnScope st)) (len : ∀ vs H Q E, sp vs H Q E → vs.length = ps.length)
    (body : ∀ (cdv : Value) (A : Around) (outer : List Env) (s : Shared) (H : Hp) (vs : List V) (Q : VK) (E : XK),
      Room k (A.deeper (envOfC qual (C8.fnScope st) s.heap.objs.size f cdv)) → A.guards = some [] → sp vs H Q E →
      ∃ t, PSs (cxOf C8.CX0 P w K mg base N qual (C8.fnScope st) f cdv A outer s H E).nox (C8.fnBody st) t ∧
        t { nx := fun _ H' => Q .non H', rt := Q } (start N vs) H) : Fg P w K mg base (k + 1) f fd ps sp := by
  obtain ⟨oc, od, dV, kV, doc, pm, an, cdv, ct, osl, rfl, lk, hcd⟩ := F.ex
  constructor
  · exact len
  · intro A outer s H args us vs Q E hr gA e0 hb r hsp
    have KX : K.In s.heap := by
      refine e0.mod.kin.keeps ?_
      intro b o e
      exact (e0.bs b o e).1
    have lim : s.heap.NoLimit := by
      refine e0.mod.nolimit.keeps ?_
      intro b o e
      exact (e0.bs b o e).1
    have kinds : ∀ y ∈ ps.zip us, (C8.fnScope st).names.lookup y.1 = some .local ∨ ((C8.fnScope st).names.lookup y.1 = some .cell ∧
        ((cellsFrom (s.heap.objs.size + 1) (C8.fnScope st).names []).lookup y.1).isSome = true) := by
      rintro ⟨n, v⟩ hy
      cases S.par n (List.of_mem_zip hy).1 with
      | inl q => exact .inl q
      | inr q => exact .inr ⟨q, PySem.W.cellsFrom_some _ _ _ (.inl q)⟩
    refine codeAny_call_function hr.depth (KX _ _ lk) rfl S.co S.gen rfl (PySem.W.codeRec_of KX hcd) (hb _ _ _ _ ?_)
    refine wpAny_newFunctionEnv_cells S.kind kinds ?_
    intro env he s1 x1
    subst he
    refine ⟨lim.keeps x1.toInCall.keep, codeAny_func ?_⟩
    obtain ⟨t, ht0, hq⟩ := body cdv A outer s H vs Q E (hr.deeper _) gA hsp
    have ht := ht0.nox
    have I := inv_start (CX := C8.CX0) (P := P) (w := w) (K := K) (mg := mg) (base := base) (E := E) S hr.hd e0 (len _ _ _ _ hsp) r x1
    refine wpAny_mono (ht.run [] s1 (start N vs) H _ I hq) ?_ fun e s' hs => hs
    intro fl s' hs
    cases fl with
    | ret u =>
      obtain ⟨v, σ', H', J, rv, q⟩ := hs
      exact ⟨v, H', J.os, J.bare, J.base, J.hok, rv, q⟩
    | next =>
      obtain ⟨σ', H', J, q⟩ := hs
      exact ⟨V.non, H', J.os, J.bare, J.base, J.hok, rfl, q⟩
    | brk => exact hs.choose_spec.choose_spec.2.elim
    | cont => exact hs.choose_spec.choose_spec.2.elim
/-- a def of the module that may be called -/
structure Cg (P : Program) (w : World) (K : PySem.W.Frag) (mg : Str → Option Value) (base : Heap) (k : Nat) (x : Str) (sp : Sp) : Prop where
  ex : ∃ (f : Addr) (fd : FuncData) (ps : List Str), Fg P w K mg base k f fd ps sp ∧ mg x = some (.ref f) ∧ PySem.W.keepIn K (.ref f) = true ∧ Binds K fd ps []
end
section
variable {X : Cx} {k j : Nat} {f : Addr} {fd : FuncData} {ps : List Str} {sp : Sp} {x : Str} {p pos : Pos} {e : Expr} {es : List Expr} {t : TA}
theorem end_g {pins : List (Addr × Obj)} {σ : L2.St} {H : Hp} {s : Shared} {Q : VK} {E : XK} (I : Inv X pins σ H s) {r : Result} {s' : Shared} (hq : CR C8.CX0 X.stack X.prog X.w H s Q E r s') :
    (match r with | .ok (.ret u) => EP X pins σ Q u s' | .ok _ => False | .error e => X.xe e s') := by
  cases r with
  | error e => exact False.elim hq
  | ok fl =>
    cases fl with
    | ret u => exact I.after hq
    | next => exact hq
    | brk => exact hq
    | cont => exact hq
theorem run_g {pins : List (Addr × Obj)} {σ : L2.St} {H : Hp} {s : Shared} {Q : VK} {us : List Value} {vs : List V} (F : Fg X.prog X.w X.K X.mg X.base k f fd ps sp) (hr : Room k X.A) (gg : X.A.guards = some [])
    (hb : Binds X.K fd ps []) (I : Inv X pins σ H s) (r : Vals vs us) (h : sp vs H Q C8.E0) : wpAny (model X.prog X.w) X.A (call (.ref f) us) (EP X pins σ Q) X.xe s := by
  have hl : (us ++ []).length = ps.length := by
    rw [List.append_nil, ← r.length]
    exact F.len _ _ _ _ h
  have b := hb s us I.kIn hl
  rw [List.append_nil] at b
  refine wpAny_call (codeAny_mono (F.run X.A X.stack s H ⟨us, []⟩ us vs Q C8.E0 hr gg I.env0 b r h) ?_)
  intro r s' hq
  have z := end_g I hq
  cases r with
  | error e => exact z
  | ok fl =>
    cases fl with
    | ret u => exact z
    | next => exact False.elim z
    | brk => exact False.elim z
    | cont => exact False.elim z
/-- f(e, ..) -/
theorem pe_g (c : Cg X.prog X.w X.K X.mg X.base k x sp) (hr : Room j X.A) (hk : k ≤ j) (gg : X.A.guards = some []) (hg : Gl X x) (ha : PA X (e :: es) t)
    (hdb : (x == ("__debug__" : Str)) = false := by decide) (he : starEach (e :: es) X.env = (false, eval e X.env) :: starEach es X.env := by rfl)
    (hpl : (backTo pos (starEach es X.env)).any (·.1) = false := by rfl) : PE X (.Call (.Name x p) (e :: es) [] pos) (tCall sp [] C8.E0 t) := by
  obtain ⟨f, fd, ps, F, hm, kp, b⟩ := c.ex
  constructor
  intro pins s σ H Q I h
  refine wpAny_Call_Name_kw (ld_glob I hg hm ?_ hdb)
  refine PySem.W.callWith_K (h₀ := X.base) I.ok.mod.kin kp (thn (ha.run pos pins s σ H _ I h) ?_) he hpl
  rintro us s1 ⟨vs, H1, I1, r, q⟩
  refine ⟨I1.kIn, run_g F (hr.mono hk) gg b I1 r ?_⟩
  have q' : sp (vs ++ []) H1 Q C8.E0 := q
  rw [List.append_nil] at q'
  exact q'
/-- f() -/
theorem pe_g0 (c : Cg X.prog X.w X.K X.mg X.base k x sp) (hr : Room j X.A) (hk : k ≤ j) (gg : X.A.guards = some []) (hg : Gl X x)
    (hdb : (x == ("__debug__" : Str)) = false := by decide) : PE X (.Call (.Name x p) [] [] pos) (tCall sp [] C8.E0 tNil) := by
  obtain ⟨f, fd, ps, F, hm, kp, b⟩ := c.ex
  constructor
  intro pins s σ H Q I h
  refine wpAny_Call_Name_kw (ld_glob I hg hm ?_ hdb)
  exact PySem.W.callWith_K0 I.kIn kp (run_g (us := []) F (hr.mono hk) gg b I .nil h)
end
end K0

/-! k00: repr of data, a call by one keyword, the law's end -/
namespace K0
open PySem PySem.Spec PyProof.Rows L2 C8

def rRepr (K : PySem.W.Frag) : List V → Hp → VK → Prop := fun xs H Q =>
  ∃ (a : Addr) (d : PyData), xs = [.ref a] ∧ Dp K H (.ref a) d ∧ d.showable = true ∧ d.hasDict = false ∧ d.depth ≤ 20 ∧ d.shown.length ≤ sizeLine ∧ Q (.str d.shown) H
section
variable {X : Cx} {k j : Nat} {f : Addr} {fd : FuncData} {ps : List Str} {sp : Sp} {x : Str} {p pos : Pos} {e : Expr} {es : List Expr} {t : TA}
theorem call_repr (hu : X.A.units + 64 < cLine) (gg : X.A.guards = some []) : CallR X (.builtin "repr") (rRepr X.K) := by
  intro pins s σ H xs us Q I r h
  obtain ⟨a, d, rfl, hd, hs, hn, hp, hz, q⟩ := h
  obtain ⟨u, rfl, ru⟩ := vals1 r
  obtain ⟨as, rd⟩ := Dp.reads I d _ u hd ru
  obtain rfl : u = Value.ref a := ru
  refine repr_of_reads' (h₀ := s.heap) rd hs (PyData.noDict_hsm hn) gg (by omega) (fun _ _ e => e) ?_ hz
  intro h' u tk hk
  exact ⟨.str d.shown, H, I.kept (t' := tk) hk, ⟨u, rfl⟩, q⟩
/-- f(x = e), x the only parameter -/
structure Ck (K : PySem.W.Frag) (fd : FuncData) (y : Str) : Prop where
  to : ∀ (s : Shared) (u : Value), K.In s.heap → BindsTo s fd ⟨[], [(y, u)]⟩ [(y, u)]
theorem pe_gk {y : Str} {kpos : Pos} {te : TE} (F : Fg X.prog X.w X.K X.mg X.base k f fd [y] sp) (hm : X.mg x = some (.ref f)) (kp : PySem.W.keepIn X.K (.ref f) = true) (b : Ck X.K fd y)
    (hr : Room j X.A) (hk : k ≤ j) (gg : X.A.guards = some []) (hg : Gl X x) (ha : PE X e te)
    (hdb : (x == ("__debug__" : Str)) = false := by decide) (hall : (backToKw pos (keywordEach [⟨some y, e, kpos⟩] X.env)).all (·.1.isSome) = true := by rfl)
    (hks : (backToKw pos (keywordEach [⟨some y, e, kpos⟩] X.env)).filterMap (·.1) = [y] := by rfl)
    (hpl : ((backTo pos (starEach [] X.env)).any (·.1) || (backToKw pos (keywordEach [⟨some y, e, kpos⟩] X.env)).any (·.1.isNone)) = false := by rfl) :
    PE X (.Call (.Name x p) [] [⟨some y, e, kpos⟩] pos) (tCall sp [] C8.E0 (tCons te tNil)) := by
  constructor
  intro pins s σ H Q I h
  refine wpAny_Call_Name_kw (ld_glob I hg hm ?_ hdb)
  have hkw : PK X [⟨some y, e, kpos⟩] (tCons te tNil) := pk_cons ha pk_nil
  refine PySem.W.callWith_KW0 (h₀ := X.base) I.ok.mod.kin kp hall (thn (hkw.run pos pins s σ H _ I h) ?_) hpl
  rintro ws s2 ⟨zs, H2, I2, rz, q2⟩
  refine ⟨I2.kIn, ?_⟩
  rw [hks]
  have q : sp zs H2 Q C8.E0 := by
    have q' : sp (zs ++ []) H2 Q C8.E0 := q2
    rw [List.append_nil] at q'
    exact q'
  have hl : zs.length = 1 := F.len _ _ _ _ q
  obtain ⟨z, rfl⟩ : ∃ z, zs = [z] := by
    match zs, hl with
    | [z], _ => exact ⟨z, rfl⟩
  obtain ⟨u, rfl, ru⟩ := vals1 rz
  refine wpAny_call (codeAny_mono (F.run X.A X.stack s2 H2 ⟨[], [(y, u)]⟩ [u] [z] Q C8.E0 (hr.mono hk) gg I2.env0 (b.to s2 u I2.kIn) rz q) ?_)
  intro r s' hq
  have z2 := end_g I2 hq
  cases r with
  | error e => exact z2
  | ok fl =>
    cases fl with
    | ret u => exact z2
    | next => exact False.elim z2
    | brk => exact False.elim z2
    | cont => exact False.elim z2
end
/-- the law's end -/
theorem core_g {P : Program} {w : World} {K : PySem.W.Frag} {mg mb : Str → Option Value} {k : Nat} {fa a : Addr} {fd : FuncData} {x : Str} {sp : Sp} {s1 : Shared} {vs : List Value} {H : Hp}
    (KX : K.In s1.heap) (hns : s1.heap.Ns mainGlobals mg) (hb : s1.heap.Ns builtinsNs mb) (hbb : ∀ (x : Str), x ≠ Str.ofString "__name__" → mb x = bootBuiltins x) (hlim : s1.heap.NoLimit) (hg : s1.gens = #[])
    (ha : s1.heap.get? a = some { cls := Value.type "list", data := Data.seq vs.toArray }) (hr : Room k callerA)
    (F : ∀ (base : Heap), K.In base → base.Ns mainGlobals mg → Fg P w K mg base k fa fd [x] sp) (hbind : ∀ (s : Shared) (u : Value), BindsTo s fd { pos := [u] } [(x, u)])
    (hO : Only H) (hok : HOk P w H s1.heap) (hA : ∀ b, H b ≠ none → b = a) (hK : H a ≠ none → K.lookup a = none)
    (hsp : sp [V.ref a] H (fun v _ => v = V.bl true) C8.E0) :
    codeAny (model P w) callerA (Code.call (Value.ref fa) { pos := [Value.ref a] }) (fun r s' => r = Except.ok (Flow.ret (Value.bool true)) ∧ OldK s1.heap s'.heap ∧ s'.os = s1.os ∧ AllBare s'.gens) s1 := by
  have noD : ∀ {b : Addr} {m : Str → Option Value}, s1.heap.Ns b m → (hidT s1.heap H).Ns b m := by
    rintro b m ⟨o, es, ep, e, d, r⟩
    refine ⟨o, es, ep, hidT_get e ?_, d, r⟩
    cases q : H b with
    | none => rfl
    | some u =>
      have eb : b = a := hA b (by rw [q]; exact Option.some_ne_none u)
      subst eb
      rw [ha] at e
      cases e
      exact absurd d (fun z => by cases z)
  have hKb : K.In (hidT s1.heap H) := by
    intro b o e
    refine hidT_get (KX b o e) ?_
    cases q : H b with
    | none => rfl
    | some u =>
      have eb : b = a := hA b (by rw [q]; exact Option.some_ne_none u)
      subst eb
      rw [hK (by rw [q]; exact Option.some_ne_none u)] at e
      cases e
  obtain ⟨mc, l1, l2⟩ := hlim
  have M : Mod K mg (hidT s1.heap H) := ⟨hKb, noD hns, ⟨mb, noD hb, hbb⟩, mc, noD l1, l2⟩
  have e0 : Env0 P w K mg (hidT s1.heap H) callerA [] s1 H :=
    ⟨rfl, M, fun b o e => of_hidT e, Nat.le_of_eq (hidT_size _ _), trivial, fun b hb => absurd (show b ∈ ([] : List Addr) from hb) List.not_mem_nil, hok, .of_eq hg⟩
  have run := (F _ hKb (noD hns)).run callerA [] s1 H ⟨[.ref a], []⟩ [.ref a] [.ref a] _ _ hr rfl e0 (hbind s1 (.ref a)) (.cons rfl .nil) hsp
  refine codeAny_mono run ?_
  intro r s' h
  cases r with
  | error e => exact False.elim h
  | ok fl =>
    cases fl with
    | next => exact False.elim h
    | brk => exact False.elim h
    | cont => exact False.elim h
    | ret u =>
      obtain ⟨v, H', os, bare, un, hok', r', q⟩ := h
      have ev : v = V.bl true := q
      subst ev
      have eu : u = Value.bool true := r'
      subst eu
      refine ⟨rfl, OldK.of_keep ?_, os, bare⟩
      intro b o e
      cases q : H b with
      | none => exact un.keep b o e q List.not_mem_nil List.not_mem_nil
      | some u =>
        rcases hO b with z | ⟨ob, xs, z⟩
        · rw [q] at z
          cases z
        · have e1 := (hok b _ z).1
          have e2 := (hok' b _ (un.frzs b ob _ z)).1
          rw [e] at e1
          cases e1
          exact e2
theorem walk_g {l : PySem.W.OpenLaw} {n k : Nat} {q : Program} {loose : List Str} {XP : (Str → Option Value) → Heap → Prop} {YP : World → Heap → Prop} {d : DefRec} {K : Params → PySem.W.Frag} {sp : PySem.W.Frag → Sp} {x : Str}
    (hn : l.most = some n) (hn2 : n ≤ sizeLine) (hdf : d.params.defaults = []) (hr : Room k callerA) (hY : ∀ (w : World) (h : Heap), YP w h → (K w.params).In h)
    (F : ∀ (w : World) (mg : Str → Option Value) (fa : Addr) (h : Heap), (K w.params).In h → h.Ns mainGlobals mg → mg d.name = some (.ref fa) →
      ∃ fd : FuncData, (∀ (s : Shared) (u : Value), BindsTo s fd ⟨[u], []⟩ [(x, u)]) ∧
        ∀ base : Heap, (K w.params).In base → base.Ns mainGlobals mg → Fg l.prog w (K w.params) mg base k fa fd [x] (sp (K w.params)))
    (hsp : ∀ (K : PySem.W.Frag) (H : Hp) (a : Addr) (ns : List Int), ns.length ≤ n → Only H → SqL K H a (ns.map V.int) → sp K [.ref a] H (fun v _ => v = .bl true) C8.E0) :
    PySem.W.WalkO q loose XP YP l.row.toRowW d [] (fun f vs => PySem.call f vs) := by
  refine Att.attach_call hn hdf ?_
  intro w s0 s1 mg mb fa o pm cd doc a vs ns G Y ho hd hcd hmg hobj hints hlen hg
  have KX := hY w _ Y
  obtain ⟨fd, hb, hF⟩ := F w mg fa _ KX G.T.g hmg
  have big : ns.length ≤ sizeLine := Nat.le_trans hlen hn2
  have rv : Vals (ns.map V.int) vs := vals_ints hints
  have lens : vs.length = ns.length := by
    rw [← rv.length, List.length_map]
  cases hk : (K w.params).lookup a with
  | some o =>
    have e := KX a o hk
    rw [hobj] at e
    cases e
    refine core_g (H := fun _ => none) KX G.T.g G.T.b G.T.builtins G.T.nolimit hg hobj hr hF hb (fun _ => .inl rfl) (fun b u z => nomatch (show (none : Option HO) = some u from z)) (fun b z => absurd rfl z) (fun z => absurd rfl z) ?_
    refine hsp _ _ a ns hlen (fun _ => .inl rfl) (.inr ⟨_, vs.toArray, _, hk, rfl, rfl, rfl, ?_, by simpa using rv⟩)
    rw [List.size_toArray, lens]
    exact big
  | none =>
    have here : (fun b => if b = a then some (HO.frz { cls := .type "list", data := .seq vs.toArray } (.lst (ns.map V.int))) else none) a = some (HO.frz { cls := .type "list", data := .seq vs.toArray } (.lst (ns.map V.int))) := if_pos rfl
    have only : Only (fun b => if b = a then some (HO.frz { cls := .type "list", data := .seq vs.toArray } (.lst (ns.map V.int))) else none) := by
      intro b
      by_cases hb : b = a
      · exact .inr ⟨_, _, if_pos hb⟩
      · exact .inl (if_neg hb)
    refine core_g KX G.T.g G.T.b G.T.builtins G.T.nolimit hg hobj hr hF hb only ?_ ?_ (fun _ => hk) ?_
    · intro b u z
      by_cases hb : b = a
      · have z' := (if_pos hb).symm.trans z
        cases z'
        subst hb
        refine ⟨hobj, ?_, vs, _, rv, hobj⟩
        rw [List.length_map]
        exact big
      · have z' := (if_neg hb).symm.trans z
        cases z'
    · intro b z
      by_cases hb : b = a
      · exact hb
      · exact absurd (if_neg hb) z
    · exact hsp _ _ a ns hlen only (.inl (.inr ⟨_, here⟩))
end K0

/-! k00: texts as lists of codes, places as naturals -/
namespace K0
open PySem PySem.Spec PyProof.Rows L2 SX

abbrev C1 (c : Nat) : V := .str (S [c])
abbrev VS (l : L) : V := .str (S l)
theorem S_eq (a b : L) : (S a = S b) = (a = b) := propext ⟨S_inj, fun e => by rw [e]⟩
theorem n1 (n : Nat) : ((n : Int) + 1) = ((n + 1 : Nat) : Int) := rfl
theorem n2 (n : Nat) : ((n : Int) + 2) = ((n + 2 : Nat) : Int) := rfl
theorem nn (n m : Nat) : ((n : Int) = (m : Int)) = (n = m) := propext Int.ofNat_inj
theorem nl (n m : Nat) : ((n : Int) < (m : Int)) = (n < m) := propext Int.ofNat_lt
theorem nle (n m : Nat) : ((n : Int) ≤ (m : Int)) = (n ≤ m) := propext Int.ofNat_le
theorem lt1 (a c : Nat) : (([a] : List Nat) < [c]) = (a < c) := by
  rw [List.cons_lt_cons_iff]
  simp
def big : Nat := 1000000
theorem big_line {n : Nat} (h : n ≤ big) : n ≤ sizeLine := Nat.le_trans h (by decide)
theorem big_62 {n : Nat} (h : n ≤ big) : (n : Int) < 2 ^ 62 := by
  have : (n : Int) ≤ 1000000 := Int.ofNat_le.mpr h
  omega
/-- a reading, made monotone -/
def cl (ta : TE) : TE := fun σ H Q => ∃ Q' : VK, ta σ H Q' ∧ ∀ v H', Q' v H' → Q v H'
theorem cl_of {ta : TE} {σ : L2.St} {H : Hp} {Q Q' : VK} (h : ta σ H Q') (m : ∀ v H', Q' v H' → Q v H') : cl ta σ H Q := ⟨Q', h, m⟩
/-- t[n] -/
def tCh (ta tb : TE) : TE := fun σ H Q => ta σ H fun x H1 => tb σ H1 fun y H2 => ∃ (t : L) (n c : Nat), x = .str (S t) ∧ y = .int (n : Int) ∧ t.length ≤ big ∧ t[n]? = some c ∧ Q (C1 c) H2
section
variable {X : Cx}
theorem pe_cl {e : Expr} {ta : TE} (h : PE X e ta) : PE X e (cl ta) := by
  constructor
  rintro pins s σ H Q I ⟨Q', h', m⟩
  refine thn (h.run pins s σ H Q' I h') ?_
  rintro u s' ⟨v, H', I', r, q⟩
  exact ⟨v, H', I', r, m v H' q⟩
theorem pe_ch {a b : Expr} {ta tb : TE} {pos : Pos} (ha : PE X a ta) (hb : PE X b tb) (hs : PlainIxT b) : PE X (.Subscript a b pos) (tCh ta tb) := by
  have h := pe_item_str (X := X) (pos := pos) (pe_cl ha) (pe_cl hb) hs
  constructor
  intro pins s σ H Q I q
  refine h.run pins s σ H Q I (cl_of q ?_)
  intro x H1 q1
  refine cl_of q1 ?_
  rintro y H2 ⟨t, n, c, rfl, rfl, hb, hc, q2⟩
  have hn : n < t.length := (List.getElem?_eq_some_iff.mp hc).1
  have hb' : t.length ≤ 1000000 := hb
  refine ⟨S t, n, c, rfl, rfl, Int.natCast_nonneg n, ?_, ?_, ?_, q2⟩
  · have h2 : (n : Int) < 1000000 := by omega
    omega
  · rw [S_len]
    exact Int.ofNat_lt.mpr hn
  · rw [Int.toNat_natCast, ← hc]
    exact (Array.getElem?_toList (xs := (S t).cps)).symm
/-- t[i:j] -/
def rSlN : V → Option Int → Option Int → Hp → VK → Prop := fun x lo hi H Q =>
  ∃ (t : L) (i j : Nat), x = .str (S t) ∧ lo = some (i : Int) ∧ hi = some (j : Int) ∧ t.length ≤ big ∧ Q (.str (S ((t.drop i).take (j - i)))) H
theorem slice_nat (t : L) (i j : Nat) : Txt.slice (S t) (some (i : Int)) (some (j : Int)) = S ((t.drop i).take (j - i)) := by
  rw [← C8.cutS_slice]
  unfold cutS
  rw [HT.sIx_nat, HT.sIx_nat, S_len]
  refine TL.ext_tl ?_
  show ((t.drop (min i t.length)).take (min j t.length - min i t.length)) = (t.drop i).take (j - i)
  by_cases hi : i ≤ t.length
  · rw [Nat.min_eq_left hi]
    by_cases hj : j ≤ t.length
    · rw [Nat.min_eq_left hj]
    · rw [show min j t.length = t.length by omega, List.take_of_length_le (by rw [List.length_drop]; omega), List.take_of_length_le (by rw [List.length_drop]; omega)]
  · rw [show min i t.length = t.length by omega, List.drop_length, List.drop_of_length_le (show t.length ≤ i by omega), List.take_nil, List.take_nil]
theorem sl_nat : SlR X rSlN := by
  intro pins s σ H x v vl vu lo hi sl Q I rx hs pl pu h
  obtain ⟨t, i, j, rfl, rfl, rfl, hb, q⟩ := h
  exact C8.sl_txt pins s σ H _ v vl vu _ _ sl Q I rx hs pl pu ⟨S t, rfl, by rw [S_len]; exact big_line hb, by rw [slice_nat]; exact q⟩
/-- t[i:] -/
def rSlF : V → Option Int → Option Int → Hp → VK → Prop := fun x lo hi H Q =>
  ∃ (t : L) (i : Nat), x = .str (S t) ∧ lo = some (i : Int) ∧ hi = none ∧ t.length ≤ big ∧ Q (.str (S (t.drop i))) H
theorem call_lenS : CallR X (.builtin "len") (fun xs H Q => ∃ t : L, xs = [.str (S t)] ∧ t.length ≤ big ∧ Q (.int (t.length : Int)) H) := by
  intro pins s σ H xs us Q I r h
  obtain ⟨t, rfl, hb, q⟩ := h
  exact call_len_str pins s σ H _ us Q I r ⟨S t, rfl, by rw [S_len]; exact big_line hb, by rw [S_len]; exact q⟩
theorem op_addS : OpR X (binaryOp .Add) (fun x y H Q => ∃ a b : L, x = .str (S a) ∧ y = .str (S b) ∧ a.length + b.length ≤ big ∧ Q (.str (S (a ++ b))) H) := by
  intro pins s σ H x y v u Q I rx ry h
  obtain ⟨a, b, rfl, rfl, hb, q⟩ := h
  exact op_add_str pins s σ H _ _ v u Q I rx ry ⟨S a, S b, rfl, rfl, by rw [S_len, S_len]; exact big_line hb, by rw [S_cat]; exact q⟩
theorem op_leS : OpR X (compareOp .LtE) (fun x y H Q => ∃ a c : Nat, x = C1 a ∧ y = C1 c ∧ Q (.bl (decide (a ≤ c))) H) := by
  intro pins s σ H x y v u Q I rx ry h
  obtain ⟨a, c, rfl, rfl, q⟩ := h
  refine op_le_str pins s σ H _ _ v u Q I rx ry ⟨S [a], S [c], rfl, rfl, ?_⟩
  have e : (!decide ((S [c]).cps.toList < (S [a]).cps.toList)) = decide (a ≤ c) := by
    show (!decide (([c] : List Nat) < [a])) = _
    rw [Bool.eq_iff_iff]
    simp only [lt1, Bool.not_eq_true', decide_eq_false_iff_not, decide_eq_true_eq]
    omega
  rw [e]
  exact q
theorem op_inS1 : OpR X (compareOp .In) (fun x y H Q => ∃ (c : Nat) (t : L), x = C1 c ∧ y = .str (S t) ∧ Q (.bl (decide (c ∈ t))) H) := by
  intro pins s σ H x y v u Q I rx ry h
  obtain ⟨c, t, rfl, rfl, q⟩ := h
  exact op_in_sign pins s σ H _ _ v u Q I rx ry ⟨c, S t, rfl, rfl, q⟩
theorem inV_S (t : L) (ws : List L) : inV (VS t) (ws.map VS) = decide (t ∈ ws) := by
  unfold inV
  rw [Bool.eq_iff_iff, List.any_map, List.any_eq_true, decide_eq_true_eq]
  constructor
  · rintro ⟨w, hw, e⟩
    have e' : (S w == S t) = true := e
    rw [S_beq_eq, decide_eq_true_eq] at e'
    exact e' ▸ hw
  · intro h
    refine ⟨t, h, ?_⟩
    show (S t == S t) = true
    rw [S_beq_eq]
    exact decide_eq_true rfl
def rInTS (K : PySem.W.Frag) (neg : Bool) : R2 := fun x y H Q => ∃ (p : Addr) (ws : List L) (t : L), x = VS t ∧ y = .ref p ∧ (SqL K H p (ws.map VS) ∨ SqT K H p (ws.map VS)) ∧ Q (.bl (if neg then !decide (t ∈ ws) else decide (t ∈ ws))) H
theorem flat_VS (ws : List L) : (ws.map VS).all flatV = true := by
  rw [List.all_eq_true]
  intro v hv
  obtain ⟨l, _, rfl⟩ := List.mem_map.mp hv
  rfl
theorem op_inT : OpR X (compareOp .In) (rInTS X.K false) := by
  intro pins s σ H x y v u Q I rx ry h
  obtain ⟨p, ws, t, rfl, rfl, hp, q⟩ := h
  refine op_in_seq pins s σ H _ _ v u Q I rx ry ⟨p, _, rfl, hp, rfl, flat_VS ws, ?_⟩
  show Q (.bl (if false = true then !inV (VS t) (ws.map VS) else inV (VS t) (ws.map VS))) H
  rw [if_neg Bool.false_ne_true, inV_S]
  exact q
theorem op_notInT : OpR X (compareOp .NotIn) (rInTS X.K true) := by
  intro pins s σ H x y v u Q I rx ry h
  obtain ⟨p, ws, t, rfl, rfl, hp, q⟩ := h
  refine op_notIn_seq pins s σ H _ _ v u Q I rx ry ⟨p, _, rfl, hp, rfl, flat_VS ws, ?_⟩
  show Q (.bl (if true = true then !inV (VS t) (ws.map VS) else inV (VS t) (ws.map VS))) H
  rw [if_pos rfl, inV_S]
  exact q
def asc (t : L) : Prop := t.all (· < 128) = true
theorem mt_lowerS : MtR X "str.lower" (fun x xs H Q => ∃ t : L, x = .str (S t) ∧ xs = [] ∧ asc t ∧ t.length ≤ big ∧ Q (.str (S (t.map lo))) H) := by
  intro pins s σ H x xs v us Q I rx r h
  obtain ⟨t, rfl, rfl, ha, hb, q⟩ := h
  refine mt_lower pins s σ H _ _ v us Q I rx r ⟨S t, rfl, rfl, ?_, ?_⟩
  · rw [S_len]
    exact Nat.le_trans hb (by decide)
  · rw [lower_S ha]
    exact q
theorem mt_upperS : MtR X "str.upper" (fun x xs H Q => ∃ t : L, x = .str (S t) ∧ xs = [] ∧ asc t ∧ t.length ≤ big ∧ Q (.str (S (t.map PyProof.Rows.up1))) H) := by
  intro pins s σ H x xs v us Q I rx r h
  obtain ⟨t, rfl, rfl, ha, hb, q⟩ := h
  refine mt_upper pins s σ H _ _ v us Q I rx r ⟨S t, rfl, rfl, ?_, ?_⟩
  · rw [S_len]
    exact Nat.le_trans hb (by decide)
  · rw [upper_S ha]
    exact q
theorem drop_takeWhile (p : Nat → Bool) : ∀ l : L, l.drop (l.takeWhile p).length = l.dropWhile p
  | [] => rfl
  | c :: r => by
    by_cases h : p c = true
    · rw [List.takeWhile_cons, if_pos h, List.dropWhile_cons, if_pos h, List.length_cons, List.drop_succ_cons]
      exact drop_takeWhile p r
    · rw [List.takeWhile_cons, if_neg h, List.dropWhile_cons, if_neg h]
      rfl
theorem mt_lstrip0 : MtR X "str.lstrip" (fun x xs H Q => ∃ t : L, x = .str (S t) ∧ xs = [.str (S [48])] ∧ t.length ≤ big ∧ Q (.str (S (t.dropWhile (· == 48)))) H) := by
  intro pins s σ H x xs v us Q I rx r h
  obtain ⟨t, rfl, rfl, hb, q⟩ := h
  refine mt_lstripChars pins s σ H _ _ v us Q I rx r ⟨S t, S [48], rfl, rfl, ?_, ?_⟩
  · rw [S_len]
    exact big_line hb
  · have ef : (S [48]).cps.contains = fun c : Nat => c == 48 := by
      funext c
      show (#[48] : Array Nat).contains c = _
      simp only [List.contains_toArray, List.contains_cons, List.contains_nil, Bool.or_false]
    have e : Txt.lstripChars (S t) (S [48]) = S (t.dropWhile (· == 48)) := by
      unfold Txt.lstripChars Txt.stripBy
      rw [ef]
      have lo0 : stripLo (fun c : Nat => c == 48) true (S t) = (t.takeWhile (· == 48)).length := by
        unfold stripLo
        rw [if_pos rfl]
      have hi0 : stripHi (fun c : Nat => c == 48) false (S t) (stripLo (fun c : Nat => c == 48) true (S t)) = t.length := by
        unfold stripHi
        rw [if_neg Bool.false_ne_true, S_len]
      show (if (stripLo (fun c : Nat => c == 48) true (S t) == 0 && stripHi (fun c : Nat => c == 48) false (S t) (stripLo (fun c : Nat => c == 48) true (S t)) == (S t).length) = true then S t
        else Builtin.Str.strSub (S t) (stripLo (fun c : Nat => c == 48) true (S t)) (stripHi (fun c : Nat => c == 48) false (S t) (stripLo (fun c : Nat => c == 48) true (S t)))) = _
      rw [hi0, lo0, S_len]
      by_cases h0 : (t.takeWhile (· == 48)).length = 0
      · rw [h0]
        rw [if_pos (by simp)]
        rw [← drop_takeWhile, h0]
        rfl
      · rw [if_neg (by rw [show ((t.takeWhile (· == 48)).length == 0) = false from beq_eq_false_iff_ne.mpr h0]; exact Bool.false_ne_true)]
        refine TL.ext_tl ?_
        rw [TL.tl_strSub]
        show (t.drop _).take _ = t.dropWhile _
        rw [List.take_of_length_le (by rw [List.length_drop]; exact Nat.le_refl _), drop_takeWhile]
    rw [e]
    exact q
def dig (t : L) : Prop := t.all (fun c => decide (48 ≤ c) && decide (c ≤ 57)) = true
theorem call_intS : CallR X (.type "int") (fun xs H Q => ∃ t : L, xs = [.str (S t)] ∧ dig t ∧ t ≠ [] ∧ t.length ≤ 640 ∧ Q (.int ((NumText.digitsVal t : Nat) : Int)) H) := by
  intro pins s σ H xs us Q I r h
  obtain ⟨t, rfl, hd, hn, hb, q⟩ := h
  exact call_int_str pins s σ H _ us Q I r ⟨S t, _, rfl, int_S hd hn (by omega), by rw [S_len]; exact hb, q⟩
theorem call_strN : CallR X (.type "str") (fun xs H Q => ∃ n : Nat, xs = [.int (n : Int)] ∧ n < 2 ^ 1900 ∧ Q (.str (S (TL.numL n))) H) := by
  intro pins s σ H xs us Q I r h
  obtain ⟨n, rfl, hn, q⟩ := h
  refine call_str_int pins s σ H _ us Q I r ⟨(n : Int), rfl, ?_, ?_⟩
  · rw [Int.natAbs_natCast]
    by_cases h0 : n = 0
    · rw [h0]
      decide
    · have := (Nat.log2_lt h0).mpr hn
      omega
  · rw [show Str.ofString (toString (n : Int)) = S (TL.numL n) from num_S n]
    exact q
theorem joinL_nil : ∀ ys : List L, TL.joinL [] ys = ys.flatten
  | [] => rfl
  | [y] => by
    show y = [y].flatten
    simp
  | y :: z :: r => by
    show y ++ ([] ++ TL.joinL [] (z :: r)) = _
    rw [joinL_nil (z :: r), List.nil_append]
    rfl
theorem sum_lens (ys : List L) : ((ys.map S).map (·.length)).sum = ys.flatten.length := by
  rw [lens]
  induction ys with
  | nil => rfl
  | cons y r ih => rw [List.map_cons, List.sum_cons, ih, List.flatten_cons, List.length_append]
theorem mt_joinS : MtR X "str.join" (fun x xs H Q => ∃ (p : Addr) (ys : List L), x = .str (S []) ∧ xs = [.ref p] ∧ SqL X.K H p (ys.map VS) ∧ ys.flatten.length ≤ big ∧ Q (.str (S ys.flatten)) H) := by
  intro pins s σ H x xs v us Q I rx r h
  obtain ⟨p, ys, rfl, rfl, hp, hb, q⟩ := h
  refine mt_join pins s σ H _ _ v us Q I rx r ⟨S [], p, ys.map S, rfl, rfl, .inl ?_, ?_, ?_⟩
  · rw [List.map_map]
    exact hp
  · rw [sum_lens]
    show _ + _ * 0 ≤ _
    exact Nat.le_trans hb (by decide)
  · rw [join_S, joinL_nil]
    exact q
end
end K0

/-! k00: line feeds counted and sought in a stretch of a text; a text some times -/
namespace K0
open PySem PySem.Spec PyProof.Rows L2 SX StrLaws PySem.Builtin PySem.Builtin.Str

theorem sub1 (t : L) (c k : Nat) : subAt (S t) (S [c]) k = decide (t[k]? = some c) := by
  rw [subAt_eq]
  show ((t.drop k).take 1 == [c]) = _
  rw [Bool.eq_iff_iff, take1_drop, decide_eq_true_eq]
theorem seg_succ (t : L) (k m : Nat) (h : k < t.length) : (t.drop k).take (m + 1) = t[k] :: (t.drop (k + 1)).take m := by
  rw [List.drop_eq_getElem_cons h, List.take_succ_cons]
/-- the count -/
theorem occ_run (t : L) (c hi limit : Nat) : ∀ (m k : Nat) (st : Array Nat × Nat), k + m ≤ hi → hi ≤ t.length → st.2 ≤ k → st.1.size + m ≤ limit →
    ((forIn (List.range' k m) st (occBody (S t) (S [c]) hi limit)).run.1.size = st.1.size + ((t.drop k).take m).count c) ∧
    (forIn (List.range' k m) st (occBody (S t) (S [c]) hi limit)).run.2 ≤ k + m := by
  intro m
  induction m with
  | zero =>
    intro k st _ _ hf _
    refine ⟨?_, ?_⟩
    · rw [List.take_zero]
      rfl
    · exact hf
  | succ m ih =>
    intro k st hk ht hf hl
    have hkl : k < t.length := by omega
    rw [List.range'_succ, List.forIn_cons]
    have hlen : (S [c]).length = 1 := rfl
    rw [seg_succ t k m hkl, List.count_cons]
    by_cases hc : t[k] = c
    · have eb : occBody (S t) (S [c]) hi limit k st = pure (ForInStep.yield (st.1.push k, k + 1)) := by
        unfold occBody
        rw [if_pos]
        · rfl
        · refine ⟨⟨⟨by omega, hf⟩, show k + 1 ≤ hi by omega⟩, ?_⟩
          rw [sub1, decide_eq_true_eq, List.getElem?_eq_getElem hkl, hc]
      rw [eb]
      have h2 := ih (k + 1) (st.1.push k, k + 1) (by omega) ht (Nat.le_refl _) (by rw [Array.size_push]; omega)
      rw [Array.size_push] at h2
      refine ⟨?_, ?_⟩
      · refine Eq.trans h2.1 ?_
        rw [hc, if_pos (by simp)]
        omega
      · refine Nat.le_trans h2.2 ?_
        omega
    · have eb : occBody (S t) (S [c]) hi limit k st = pure (ForInStep.yield (st.1, st.2)) := by
        unfold occBody
        rw [if_neg]
        rintro ⟨_, h⟩
        rw [sub1, decide_eq_true_eq, List.getElem?_eq_getElem hkl] at h
        exact hc (Option.some.inj h)
      rw [eb]
      have h2 := ih (k + 1) (st.1, st.2) (by omega) ht (show st.2 ≤ k + 1 by omega) (show st.1.size + m ≤ limit by omega)
      refine ⟨?_, ?_⟩
      · refine Eq.trans h2.1 ?_
        rw [if_neg (by simpa using hc)]
        rfl
      · refine Nat.le_trans h2.2 ?_
        omega
theorem forIn_app {β : Type} (body : Nat → β → Id (ForInStep β)) (hy : ∀ i s, ∃ s', body i s = pure (ForInStep.yield s')) : ∀ (l m : List Nat) (s : β),
    forIn (m := Id) (l ++ m) s body = forIn (m := Id) m (Id.run (forIn (m := Id) l s body)) body
  | [], m, s => rfl
  | i :: l, m, s => by
    obtain ⟨s', e⟩ := hy i s
    rw [List.cons_append, List.forIn_cons, List.forIn_cons, e]
    exact forIn_app body hy l m s'
theorem occ_yields (s sub : Str) (hi limit : Nat) : ∀ (i : Nat) (st : Array Nat × Nat), ∃ s', occBody s sub hi limit i st = pure (ForInStep.yield s') := by
  intro i st
  unfold occBody
  split
  · exact ⟨_, rfl⟩
  · exact ⟨_, rfl⟩
theorem last_yields (s sub : Str) (hi : Nat) : ∀ (i : Nat) (st : Option Nat), ∃ s', lastBody s sub hi i st = pure (ForInStep.yield s') := by
  intro i st
  unfold lastBody
  split
  · exact ⟨_, rfl⟩
  · exact ⟨_, rfl⟩
theorem occ_count (t : L) (c lo hi : Nat) (h1 : lo ≤ hi) (h2 : hi ≤ t.length) : (occurrences (S t) (S [c]) lo hi ((S t).length + 1)).length = ((t.drop lo).take (hi - lo)).count c := by
  rw [occ_eq, show hi + 1 - lo = (hi - lo) + 1 by omega, List.range'_concat, forIn_app _ (occ_yields _ _ _ _)]
  have hrun := occ_run t c hi ((S t).length + 1) (hi - lo) lo (#[], lo) (by omega) h2 (Nat.le_refl _) (by rw [S_len]; show 0 + _ ≤ _; omega)
  generalize hst : forIn (m := Id) (List.range' lo (hi - lo)) ((#[] : Array Nat), lo) (occBody (S t) (S [c]) hi ((S t).length + 1)) = r at hrun
  show ((forIn [lo + 1 * (hi - lo)] (Id.run r) (occBody (S t) (S [c]) hi ((S t).length + 1))).run.1.toList).length = _
  have eb : occBody (S t) (S [c]) hi ((S t).length + 1) (lo + 1 * (hi - lo)) (Id.run r) = pure (ForInStep.yield ((Id.run r).1, (Id.run r).2)) := by
    unfold occBody
    rw [if_neg]
    rintro ⟨⟨_, h⟩, _⟩
    have h' : lo + 1 * (hi - lo) + 1 ≤ hi := h
    omega
  rw [List.forIn_cons, eb]
  show (Id.run r).1.toList.length = _
  rw [Array.length_toList, hrun.1]
  show 0 + _ = _
  omega
/-- the last one -/
theorem last_none (t : L) (c hi : Nat) : ∀ (m k : Nat) (st : Option Nat), k + m ≤ t.length → c ∉ (t.drop k).take m → (forIn (List.range' k m) st (lastBody (S t) (S [c]) hi)).run = st := by
  intro m
  induction m with
  | zero =>
    intro k st _ _
    rfl
  | succ m ih =>
    intro k st hk hn
    have hkl : k < t.length := by omega
    rw [seg_succ t k m hkl, List.mem_cons, not_or] at hn
    rw [List.range'_succ, List.forIn_cons]
    have eb : lastBody (S t) (S [c]) hi k st = pure (ForInStep.yield st) := by
      unfold lastBody
      rw [if_neg]
      rintro ⟨_, h⟩
      rw [sub1, decide_eq_true_eq, List.getElem?_eq_getElem hkl] at h
      exact hn.1 (Option.some.inj h).symm
    rw [eb]
    exact ih (k + 1) st (by omega) hn.2
theorem last_some (t : L) (c lo hi : Nat) (a b : L) (h1 : lo ≤ hi) (h2 : hi ≤ t.length) (e : (t.drop lo).take (hi - lo) = a ++ c :: b) (hb : c ∉ b) : lastOccurrence (S t) (S [c]) lo hi = some (lo + a.length) := by
  have hl : (hi - lo) = a.length + (b.length + 1) := by
    have := congrArg List.length e
    rw [List.length_take, List.length_drop, List.length_append, List.length_cons] at this
    omega
  have hat : t[lo + a.length]? = some c := by
    have h := congrArg (fun l : L => l[a.length]?) e
    simp only [List.getElem?_take, List.getElem?_drop, List.getElem?_append_right (Nat.le_refl _), Nat.sub_self, List.getElem?_cons_zero] at h
    rw [if_pos (by omega)] at h
    exact h
  have hrest : (t.drop (lo + a.length + 1)).take b.length = b := by
    have h := congrArg (fun l : L => l.drop (a.length + 1)) e
    simp only [List.drop_take, List.drop_drop] at h
    rw [show hi - lo - (a.length + 1) = b.length by omega, show lo + (a.length + 1) = lo + a.length + 1 by omega] at h
    rw [h, show a ++ c :: b = (a ++ [c]) ++ b by simp, List.drop_left' (by simp)]
  rw [last_eq, show hi + 1 - lo = a.length + (1 + (b.length + 1)) by omega, ← List.range'_append_1, forIn_app _ (last_yields _ _ _)]
  generalize forIn (m := Id) (List.range' lo a.length) (none : Option Nat) (lastBody (S t) (S [c]) hi) = r
  show (forIn (List.range' (lo + a.length) (1 + (b.length + 1))) (Id.run r) (lastBody (S t) (S [c]) hi)).run = _
  rw [Nat.add_comm 1, List.range'_succ, List.forIn_cons]
  have eb : lastBody (S t) (S [c]) hi (lo + a.length) (Id.run r) = pure (ForInStep.yield (some (lo + a.length))) := by
    unfold lastBody
    rw [if_pos]
    refine ⟨?_, ?_⟩
    · show lo + a.length + 1 ≤ hi
      omega
    · rw [sub1, decide_eq_true_eq]
      exact hat
  rw [eb]
  show (forIn (List.range' (lo + a.length + 1) (b.length + 1)) (some (lo + a.length)) (lastBody (S t) (S [c]) hi)).run = _
  rw [List.range'_concat, forIn_app _ (last_yields _ _ _)]
  have hn := last_none t c hi b.length (lo + a.length + 1) (some (lo + a.length)) (by omega) (by rw [hrest]; exact hb)
  generalize hq : forIn (m := Id) (List.range' (lo + a.length + 1) b.length) (some (lo + a.length)) (lastBody (S t) (S [c]) hi) = q at hn
  show (forIn [lo + a.length + 1 + 1 * b.length] (Id.run q) (lastBody (S t) (S [c]) hi)).run = _
  rw [List.forIn_cons]
  have eb2 : lastBody (S t) (S [c]) hi (lo + a.length + 1 + 1 * b.length) (Id.run q) = pure (ForInStep.yield (Id.run q)) := by
    unfold lastBody
    rw [if_neg]
    rintro ⟨h, _⟩
    have h' : lo + a.length + 1 + 1 * b.length + 1 ≤ hi := h
    omega
  rw [eb2]
  exact hn
theorem last_absent (t : L) (c lo hi : Nat) (h1 : lo ≤ hi) (h2 : hi ≤ t.length) (hb : c ∉ (t.drop lo).take (hi - lo)) : lastOccurrence (S t) (S [c]) lo hi = none := by
  rw [last_eq, show hi + 1 - lo = (hi - lo) + 1 by omega, List.range'_concat, forIn_app _ (last_yields _ _ _)]
  have hn := last_none t c hi (hi - lo) lo none (by omega) hb
  generalize hq : forIn (m := Id) (List.range' lo (hi - lo)) (none : Option Nat) (lastBody (S t) (S [c]) hi) = q at hn
  show (forIn [lo + 1 * (hi - lo)] (Id.run q) (lastBody (S t) (S [c]) hi)).run = _
  rw [List.forIn_cons]
  have eb2 : lastBody (S t) (S [c]) hi (lo + 1 * (hi - lo)) (Id.run q) = pure (ForInStep.yield (Id.run q)) := by
    unfold lastBody
    rw [if_neg]
    rintro ⟨h, _⟩
    have h' : lo + 1 * (hi - lo) + 1 ≤ hi := h
    omega
  rw [eb2]
  exact hn
theorem fromIx (n i : Nat) (h : i ≤ n) : fromIndex n (i : Int) = i := by
  unfold fromIndex
  have h0 : ¬ (i : Int) < 0 := by omega
  rw [if_neg h0]
  omega
theorem toIx (n i : Nat) (h : i ≤ n) : toIndexW n (i : Int) = i := by
  unfold toIndexW
  have h0 : ¬ (i : Int) < 0 := by omega
  rw [if_neg h0]
  omega
section
variable {X : Cx}
theorem mt_countN : MtR X "str.count" (fun x xs H Q => ∃ (t : L) (i j : Nat), x = .str (S t) ∧ xs = [C1 10, .int (i : Int), .int (j : Int)] ∧ i ≤ j ∧ j ≤ t.length ∧ Q (.int ((((t.drop i).take (j - i)).count 10 : Nat) : Int)) H) := by
  intro pins s σ H x xs v us Q I rx r h
  obtain ⟨t, i, j, rfl, rfl, h1, h2, q⟩ := h
  refine mt_count4 pins s σ H _ _ v us Q I rx r ⟨S t, S [10], i, j, rfl, rfl, ?_⟩
  unfold Txt.countIn
  rw [fromIx _ _ (by rw [S_len]; omega), toIx _ _ (by rw [S_len]; exact h2), occ_count t 10 i j h1 h2]
  exact q
theorem mt_rfindN : MtR X "str.rfind" (fun x xs H Q => ∃ (t : L) (i j : Nat) (a b : L), x = .str (S t) ∧ xs = [C1 10, .int (i : Int), .int (j : Int)] ∧ i ≤ j ∧ j ≤ t.length ∧ (t.drop i).take (j - i) = a ++ 10 :: b ∧ 10 ∉ b ∧ Q (.int ((i + a.length : Nat) : Int)) H) := by
  intro pins s σ H x xs v us Q I rx r h
  obtain ⟨t, i, j, a, b, rfl, rfl, h1, h2, e, hb, q⟩ := h
  refine mt_rfind4 pins s σ H _ _ v us Q I rx r ⟨S t, S [10], i, j, rfl, rfl, ?_⟩
  unfold Txt.rfindIn
  rw [fromIx _ _ (by rw [S_len]; omega), toIx _ _ (by rw [S_len]; exact h2), last_some t 10 i j a b h1 h2 e hb]
  exact q
theorem mt_rfindM : MtR X "str.rfind" (fun x xs H Q => ∃ (t : L) (i j : Nat), x = .str (S t) ∧ xs = [C1 10, .int (i : Int), .int (j : Int)] ∧ i ≤ j ∧ j ≤ t.length ∧
    ∃ r : Int, ((∃ a b, (t.drop i).take (j - i) = a ++ 10 :: b ∧ 10 ∉ b ∧ r = ((i + a.length : Nat) : Int)) ∨ (10 ∉ (t.drop i).take (j - i) ∧ r = -1)) ∧ Q (.int r) H) := by
  intro pins s σ H x xs v us Q I rx r h
  obtain ⟨t, i, j, rfl, rfl, h1, h2, r0, hr, q⟩ := h
  refine mt_rfind4 pins s σ H _ _ v us Q I rx r ⟨S t, S [10], i, j, rfl, rfl, ?_⟩
  unfold Txt.rfindIn
  rcases hr with ⟨a, b, e, hb, rfl⟩ | ⟨hn, rfl⟩
  · rw [fromIx _ _ (by rw [S_len]; omega), toIx _ _ (by rw [S_len]; exact h2), last_some t 10 i j a b h1 h2 e hb]
    exact q
  · rw [fromIx _ _ (by rw [S_len]; omega), toIx _ _ (by rw [S_len]; exact h2), last_absent t 10 i j h1 h2 hn]
    exact q
/-- a test's reading, made monotone -/
def clT (t : TT) : TT := fun σ H Q => ∃ Q' : Bool → Hp → Prop, t σ H Q' ∧ ∀ b H', Q' b H' → Q b H'
theorem pt_cl {e : Expr} {t : TT} (h : PT X e t) : PT X e (clT t) := by
  constructor
  rintro pins s σ H Q I ⟨Q', h', m⟩
  refine thn (h.run pins s σ H Q' I h') ?_
  rintro b s' ⟨H', I', q⟩
  exact ⟨H', I', m b H' q⟩
end
theorem while_g {t : TT} {tb : TS} {D : Ends} {σ : L2.St} {H : Hp} (Pv : L2.St → Hp → Prop) (μ : L2.St → Hp → Nat) (h0 : Pv σ H)
    (hs : ∀ σ H, Pv σ H → t σ H fun b H1 => if b = true then tb { D with nx := fun σ' H' => Pv σ' H' ∧ μ σ' H' < μ σ H, ct := fun σ' H' => Pv σ' H' ∧ μ σ' H' < μ σ H, bk := D.nx } σ H1 else D.nx σ H1) :
    tWhile (clT t) tb D σ H := by
  refine while_by Pv μ h0 (fun σ H p => ⟨_, hs σ H p, fun _ _ h => h⟩) ?_
  rintro σ H Q Q' m ⟨R, h, m'⟩
  exact ⟨R, h, fun b H1 r => m b H1 (m' b H1 r)⟩
/-- the int in a slot, from above -/
def slotI (σ : L2.St) (i : Nat) : Nat := match σ[i]? with | some (some (.int e)) => e.toNat | _ => 0
theorem ty_s {K : PySem.W.Frag} {x : Str} {H : Hp} : tyV K "str" (.str x) H = True := by
  show ("str" = "str") = True
  rw [eq_self]
end K0

/-! k00: the program's small defs -/
namespace K0
open PySem PySem.Spec PyProof.Rows L2 SX
def topS (i : Nat) : Stmt := PySem.Challenge.pw_begunended_k00_whole_tokens_of_drawn_row.main.body.getD i (.Pass ⟨0, 0, 0, 0⟩)
abbrev sIsFigure : Stmt := topS 15
abbrev sGapEnd : Stmt := topS 12
abbrev sCommentEnd : Stmt := topS 13
def let52 : L := codes "abcdefghijklmnopqrstuvwxyzABCDEFGHIJKLMNOPQRSTUVWXYZ"
def al62 : L := codes "abcdefghijklmnopqrstuvwxyzABCDEFGHIJKLMNOPQRSTUVWXYZ0123456789"
def sgl : L := codes "+-*=)[],;^"
theorem let52_of : ∀ c ∈ let52, isLet c = true := by decide +kernel
theorem al62_of : ∀ c ∈ al62, isAl c = true := by decide +kernel
theorem s_lo : ∀ c, isAl c = true → c < 128 := by
  intro c h
  unfold isAl isLet isFig at h
  simp only [Bool.or_eq_true, Bool.and_eq_true, decide_eq_true_eq] at h
  omega
theorem let_al {c : Nat} (h : isLet c = true) : isAl c = true := by
  unfold isAl
  rw [h]
  rfl
theorem let52_iff (c : Nat) : c ∈ let52 ↔ isLet c = true := by
  refine ⟨let52_of c, fun h => ?_⟩
  have a : ∀ c, c < 128 → isLet c = true → c ∈ let52 := by decide +kernel
  exact a c (s_lo c (let_al h)) h
theorem al62_iff (c : Nat) : c ∈ al62 ↔ isAl c = true := by
  refine ⟨al62_of c, fun h => ?_⟩
  have a : ∀ c, c < 128 → isAl c = true → c ∈ al62 := by decide +kernel
  exact a c (s_lo c h) h
theorem s_52 : Str.ofString "abcdefghijklmnopqrstuvwxyzABCDEFGHIJKLMNOPQRSTUVWXYZ" = S let52 := codes_S _
theorem s_62 : Str.ofString "abcdefghijklmnopqrstuvwxyzABCDEFGHIJKLMNOPQRSTUVWXYZ0123456789" = S al62 := codes_S _
/-- a written dict with these texts as keys -/
structure DicT (w : World) (K : PySem.W.Frag) (a : Addr) (ws : List L) : Prop where
  kd : ∃ es n, KDict K w a es n
  has : ∀ z : L, ∃ r, PySem.W.nsIn K a (S z) = some r ∧ r.isSome = decide (z ∈ ws)
theorem op_inDic {X : Cx} : OpR X (compareOp .In) (fun x y H Q => ∃ (z : L) (a : Addr) (ws : List L), x = VS z ∧ y = .ref a ∧ DicT X.w X.K a ws ∧ Q (.bl (decide (z ∈ ws))) H) := by
  intro pins s σ H x y v u Q I rx ry h
  obtain ⟨z, a, ws, rfl, rfl, D, q⟩ := h
  obtain ⟨es, n, kd⟩ := D.kd
  obtain ⟨r, e, he⟩ := D.has z
  exact op_in_kd kd pins s σ H _ _ v u Q I rx ry ⟨S z, r, rfl, rfl, e, by rw [he]; exact q⟩
/-- the module's names -/
structure Nm (w : World) (K : PySem.W.Frag) (mg : Str → Option Value) (aW aL : Addr) : Prop where
  m_len : mg "len" = none
  m_range : mg "range" = none
  m_isinstance : mg "isinstance" = none
  m_str : mg "str" = none
  m_int : mg "int" = none
  m_tuple : mg "tuple" = none
  m_list : mg "list" = none
  m_abs : mg "abs" = none
  m_sum : mg "sum" = none
  m_max : mg "max" = none
  m_min : mg "min" = none
  m_repr : mg "repr" = none
  m_all : mg "all" = none
  m_enumerate : mg "enumerate" = none
  g_MAXINT : ∃ u, mg "MAXINT" = some u ∧ RelV (.int 2147483647) u
  g_SHORT_SIGNS : ∃ u, mg "SHORT_SIGNS" = some u ∧ RelV (VS singles) u
  g_SINGLE_SIGNS : ∃ u, mg "SINGLE_SIGNS" = some u ∧ RelV (VS sgl) u
  g_WORDS : ∃ u, mg "WORDS" = some u ∧ RelV (.ref aW) u
  g_LONG_SIGNS : ∃ u, mg "LONG_SIGNS" = some u ∧ RelV (.ref aL) u
  g_LETTERS : ∃ u, mg "LETTERS" = some u ∧ RelV (VS let52) u
  g_NAME_SIGNS : ∃ u, mg "NAME_SIGNS" = some u ∧ RelV (VS al62) u
  t_WORDS : DicT w K aW wordsL
  t_LONG : ∀ H, SqT K H aL (pairsL.map VS)
theorem s_a : Str.ofString "a" = S [97] := by decide +kernel
theorem s_z : Str.ofString "z" = S [122] := by decide +kernel
theorem s_A : Str.ofString "A" = S [65] := by decide +kernel
theorem s_Z : Str.ofString "Z" = S [90] := by decide +kernel
theorem s_0 : Str.ofString "0" = S [48] := by decide +kernel
theorem s_9 : Str.ofString "9" = S [57] := by decide +kernel
theorem s_sp : Str.ofString " " = S [32] := by decide +kernel
theorem s_nl : Str.ofString "\n" = S [10] := by decide +kernel
theorem s_cu : Str.ofString "{" = S [123] := by decide +kernel
theorem s_uc : Str.ofString "}" = S [125] := by decide +kernel
theorem s_po : Str.ofString "(*" = S [40, 42] := by decide +kernel
theorem s_op : Str.ofString "*)" = S [42, 41] := by decide +kernel
theorem s_q : Str.ofString "'" = S [39] := by decide +kernel
theorem s_qq : Str.ofString "''" = S [39, 39] := by decide +kernel
theorem s_e : Str.ofString "" = S [] := by decide +kernel
section
variable {P : Program} {w : World} {K : PySem.W.Frag} {mg : Str → Option Value} {base : Heap} {aW aL : Addr}
theorem cg0 {x : Str} {st : Stmt} {f : Addr} {fd : FuncData} {N ps : List Str} {k : Nat} {sp : Sp} (D : C8.Def K mg x st f fd) (b : Binds K fd ps []) (S : FnScope N ps (C8.fnScope st)) (len : ∀ vs H Q E, sp vs H Q E → vs.length = ps.length)
    (body : ∀ (cdv : Value) (A : Around) (outer : List Env) (s : Shared) (H : Hp) (vs : List V) (Q : VK) (E : XK),
      Room k (A.deeper (envOfC x (C8.fnScope st) s.heap.objs.size f cdv)) → A.guards = some [] → sp vs H Q E →
      ∃ t, PSs (cxOf C8.CX0 P w K mg base N x (C8.fnScope st) f cdv A outer s H E).nox (C8.fnBody st) t ∧
        t { nx := fun _ H' => Q .non H', rt := Q } (start N vs) H) : Cg P w K mg base (k + 1) x sp :=
  ⟨f, fd, ps, g0 D.fn S len body, D.mgf, D.kp, b⟩
theorem bl_to {Q : VK} {H : Hp} {a b : Bool} (h : a = b) (q : Q (.bl a) H) : Q (.bl b) H := h ▸ q
def spIsFigure : Sp := fun vs H Q _ => ∃ c, vs = [C1 c] ∧ Q (.bl (isFig c)) H
theorem sc_isFigure : FnScope ["sign"] ["sign"] (C8.fnScope sIsFigure) := C8.fnScope_by (by decide +kernel)
theorem ok_isFigure {f : Addr} {fd : FuncData} (D : C8.Def K mg "is_figure" sIsFigure f fd) (b : Binds K fd ["sign"] []) : Cg P w K mg base 1 "is_figure" spIsFigure := by
  refine cg0 D b sc_isFigure (fun vs H Q E h => ?_) (fun cdv A outer s H vs Q E hr gg h => ?_)
  · obtain ⟨c, rfl, _⟩ := h
    rfl
  · obtain ⟨c, rfl, q⟩ := h
    have nd := sc_isFigure.nd
    refine ⟨_, (pss_one (ps_ret (pe_chain op_leS op_leS pe_str (pv 0) pe_str))), ?_⟩
    rw [show start ["sign"] [C1 c] = [some (C1 c)] from rfl]
    simp only [tRet, tRetN, tOrV, tAndV, tNotV, tChain, tVar, tC, rI0, rI, tOp, tUn, rU, tCons, tNil, tCB, tTup, tLst, tSeq, tNext, tIfS, tTest, tAnd, tOr, tNot, tB, tSl, tPart, tBM, tBM0, tCall, rEq, rNe, scal, gName, tAsg, tAug, ipI, tIf, tDrop, C8.rSlX, List.getElem?_cons_zero, List.getElem?_cons_succ, Option.some.injEq, V.str.injEq, V.int.injEq, V.bl.injEq, V.ref.injEq, exists_eq_left, exists_eq_left', exists_eq_right, exists_eq_right', exists_and_left, exists_and_right, exists_eq, true_and, and_true, List.set_cons_zero, List.set_cons_succ, List.append_nil, List.nil_append, List.cons_append, List.cons.injEq, reduceIte, Bool.false_eq_true, if_true, if_false, decide_eq_true_eq, lt1, Nat.add_sub_cancel_left, decide_not, Bool.not_eq_true', Bool.not_true, Bool.not_false, decide_eq_false_iff_not, Nat.not_lt, Nat.not_le, tCh, rSlN, rInTS, S_eq, n1, n2, nn, nl, nle, ty_s, slotI, wipe, List.map_cons, List.map_nil, Int.toNat_natCast, s_0, s_9]
    repeat' split
    all_goals (refine bl_to ?_ q; rw [Bool.eq_iff_iff]; simp only [isFig, Bool.or_eq_true, Bool.and_eq_true, decide_eq_true_eq, Bool.not_eq_true', decide_eq_false_iff_not, Bool.false_eq_true, iff_true, iff_false]; omega)
/-! ### comments and gaps -/
def spCommentEnd : Sp := fun vs H Q _ => ∃ (t : L) (b : Int) (i k : Nat), vs = [VS t, .int b, .int (i : Int)] ∧ i ≤ t.length ∧ t.length ≤ big ∧ comEnd (t.drop i) = some k ∧ Q (.int ((i + k : Nat) : Int)) H
theorem take2 (t : L) (n : Nat) (h : n < t.length) : (t.drop n).take 2 = t[n] :: (t.drop (n + 1)).take 1 := seg_succ t n 1 h
theorem com_step {t : L} {n k : Nat} (h : comEnd (t.drop n) = some k) : ∃ c, t[n]? = some c ∧ ((c = 125 ∧ k = 1) ∨ (c ≠ 125 ∧ (t.drop n).take 2 = [42, 41] ∧ k = 2) ∨ (c ≠ 125 ∧ (t.drop n).take 2 ≠ [42, 41] ∧ ∃ k', comEnd (t.drop (n + 1)) = some k' ∧ k = k' + 1)) := by
  by_cases hn : n < t.length
  · refine ⟨t[n], List.getElem?_eq_getElem hn, ?_⟩
    rw [List.drop_eq_getElem_cons hn] at h
    have h' : (if t[n] = 125 then some 1 else if t[n] = 42 ∧ (t.drop (n + 1)).head? = some 41 then some 2 else (comEnd (t.drop (n + 1))).map (· + 1)) = some k := h
    by_cases h1 : t[n] = 125
    · rw [if_pos h1] at h'
      exact .inl ⟨h1, (Option.some.inj h').symm⟩
    · rw [if_neg h1] at h'
      have e2 : (t.drop n).take 2 = [42, 41] ↔ (t[n] = 42 ∧ (t.drop (n + 1)).head? = some 41) := by
        rw [take2 t n hn]
        cases ht : t.drop (n + 1) with
        | nil => simp
        | cons d r => simp
      by_cases h2 : t[n] = 42 ∧ (t.drop (n + 1)).head? = some 41
      · rw [if_pos h2] at h'
        exact .inr (.inl ⟨h1, e2.mpr h2, (Option.some.inj h').symm⟩)
      · rw [if_neg h2] at h'
        refine .inr (.inr ⟨h1, fun e => h2 (e2.mp e), ?_⟩)
        cases hk : comEnd (t.drop (n + 1)) with
        | none =>
          rw [hk] at h'
          cases h'
        | some k' =>
          rw [hk] at h'
          exact ⟨k', rfl, (Option.some.inj h').symm⟩
  · rw [List.drop_of_length_le (by omega)] at h
    cases h
theorem sc_commentEnd : FnScope ["text", "begin", "inside", "at"] ["text", "begin", "inside"] (C8.fnScope sCommentEnd) := C8.fnScope_by (by decide +kernel)
theorem ok_commentEnd (nm : Nm w K mg aW aL) {f : Addr} {fd : FuncData} (D : C8.Def K mg "comment_end" sCommentEnd f fd) (b : Binds K fd ["text", "begin", "inside"] []) : Cg P w K mg base 1 "comment_end" spCommentEnd := by
  refine cg0 D b sc_commentEnd (fun vs H Q E h => ?_) (fun cdv A outer s H vs Q E hr gg h => ?_)
  · obtain ⟨t, b, i, k, rfl, _⟩ := h
    rfl
  · obtain ⟨t, b, i, k, rfl, hi, hb, hk, q⟩ := h
    have nd := sc_commentEnd.nd
    refine ⟨_, (pss_cons (ps_for PassesOwn.never rfl (pi_range2 rfl nm.m_range (pa_cons (pv 2) (pa_cons (pe_callB call_lenS (by rfl) nm.m_len (by decide +kernel) (pa_cons (pv 0) pa_nil)) pa_nil))) (pg_name (i := 3) nd rfl (.inl rfl))
    (pss_cons (ps_if (pt_cmpR op_eq (pe_ch (pv 0) (pv 3) (fun _ _ => rfl)) pe_str (nomark _))
    (pss_one (ps_ret (pe_op op_add (pv 3) pe_int))) pss_nil)
  (pss_one (ps_if (pt_cmpR op_eq (pe_slice sl_nat (pv 0) (po_some (pv 3)) (po_some (pe_op op_add (pv 3) pe_int))) pe_str (nomark _))
    (pss_one (ps_ret (pe_op op_add (pv 3) pe_int))) pss_nil))))
  (pss_one (ps_ret (pv 1)))), ?_⟩
    rw [show start ["text", "begin", "inside", "at"] [VS t, .int b, .int (i : Int)] = [some (VS t), some (.int b), some (.int (i : Int)), none] from rfl]
    refine ⟨_, rfl, _, rfl, t, rfl, hb, (i : Int), (t.length : Int), rfl, ⟨by omega, big_62 (by omega), by omega, big_62 hb⟩, ?_⟩
    refine for_range (n := (((t.length : Int) - (i : Int)).toNat)) (fun m σ H' => ∃ x, σ = [some (VS t), some (.int b), some (.int (i : Int)), x] ∧ H' = H ∧ ∃ k', comEnd (t.drop (i + m)) = some k' ∧ i + m + k' = i + k) ⟨none, rfl, rfl, k, hk, rfl⟩ ?_ ?_
    · rintro m σ H' hm ⟨x, rfl, rfl, k', hk', ek⟩
      obtain ⟨c, hc, cases3⟩ := com_step hk'
      rw [show ((i : Int) + (m : Int)) = ((i + m : Nat) : Int) from rfl]
      simp only [tRet, tRetN, tOrV, tAndV, tNotV, tChain, tVar, tC, rI0, rI, tOp, tUn, rU, tCons, tNil, tCB, tTup, tLst, tSeq, tNext, tIfS, tTest, tAnd, tOr, tNot, tB, tSl, tPart, tBM, tBM0, tCall, rEq, rNe, scal, gName, tAsg, tAug, ipI, tIf, tDrop, C8.rSlX, List.getElem?_cons_zero, List.getElem?_cons_succ, Option.some.injEq, V.str.injEq, V.int.injEq, V.bl.injEq, V.ref.injEq, exists_eq_left, exists_eq_left', exists_eq_right, exists_eq_right', exists_and_left, exists_and_right, exists_eq, true_and, and_true, List.set_cons_zero, List.set_cons_succ, List.append_nil, List.nil_append, List.cons_append, List.cons.injEq, reduceIte, Bool.false_eq_true, if_true, if_false, decide_eq_true_eq, lt1, Nat.add_sub_cancel_left, decide_not, Bool.not_eq_true', Bool.not_true, Bool.not_false, decide_eq_false_iff_not, Nat.not_lt, Nat.not_le, tCh, rSlN, rInTS, S_eq, n1, n2, nn, nl, nle, ty_s, slotI, wipe, List.map_cons, List.map_nil, Int.toNat_natCast, s_uc, s_op, hc, hb]
      rcases cases3 with ⟨h1, h2⟩ | ⟨h1, h2, h3⟩ | ⟨h1, h2, k2, h3, h4⟩
      · rw [if_pos h1, show i + m + 1 = i + k by omega]
        exact q
      · rw [if_neg h1, if_pos h2, show i + m + 2 = i + k by omega]
        exact q
      · rw [if_neg h1, if_neg h2]
        exact ⟨k2, h3, by omega⟩
    · rintro σ H' ⟨x, rfl, rfl, k', hk', ek⟩
      rw [List.drop_of_length_le (by omega)] at hk'
      cases hk'
/-- how many signs a gap that begins here has; 0 if none begins -/
def gapN : L → Option Nat
  | [] => none
  | c :: r => if c = 32 ∨ c = 10 then some 1 else if c = 123 then (comEnd r).map (· + 1) else if (c :: r).take 2 = [40, 42] then (comEnd (r.drop 1)).map (· + 2) else some 0
def spGapEnd : Sp := fun vs H Q _ => ∃ (t : L) (n k : Nat), vs = [VS t, .int (n : Int)] ∧ n < t.length ∧ t.length ≤ big ∧ t[n]? ≠ some 32 ∧ t[n]? ≠ some 10 ∧ gapN (t.drop n) = some k ∧ Q (.int ((n + k : Nat) : Int)) H
theorem sc_gapEnd : FnScope ["text", "at"] ["text", "at"] (C8.fnScope sGapEnd) := C8.fnScope_by (by decide +kernel)
theorem ok_gapEnd (nm : Nm w K mg aW aL) {f : Addr} {fd : FuncData} (D : C8.Def K mg "gap_end" sGapEnd f fd) (b : Binds K fd ["text", "at"] []) (c_comment_end : Cg P w K mg base 1 "comment_end" spCommentEnd) : Cg P w K mg base 2 "gap_end" spGapEnd := by
  refine cg0 D b sc_gapEnd (fun vs H Q E h => ?_) (fun cdv A outer s H vs Q E hr gg h => ?_)
  · obtain ⟨t, n, k, rfl, _⟩ := h
    rfl
  · obtain ⟨t, n, k, rfl, hn, hb, h32, h10, hk, q⟩ := h
    have nd := sc_gapEnd.nd
    refine ⟨_, (pss_cons (ps_if (pt_cmpR op_eq (pe_ch (pv 0) (pv 1) (fun _ _ => rfl)) pe_str (nomark _))
    (pss_one (ps_ret (pe_g c_comment_end hr (by decide) gg (by rfl) (pa_cons (pv 0) (pa_cons (pv 1) (pa_cons (pe_op op_add (pv 1) pe_int) pa_nil)))))) pss_nil)
  (pss_cons (ps_if (pt_cmpR op_eq (pe_slice sl_nat (pv 0) (po_some (pv 1)) (po_some (pe_op op_add (pv 1) pe_int))) pe_str (nomark _))
    (pss_one (ps_ret (pe_g c_comment_end hr (by decide) gg (by rfl) (pa_cons (pv 0) (pa_cons (pv 1) (pa_cons (pe_op op_add (pv 1) pe_int) pa_nil)))))) pss_nil)
  (pss_one (ps_ret (pv 1))))), ?_⟩
    rw [show start ["text", "at"] [VS t, .int (n : Int)] = [some (VS t), some (.int (n : Int))] from rfl]
    have hc : t[n]? = some t[n] := List.getElem?_eq_getElem hn
    have hd := List.drop_eq_getElem_cons hn
    simp only [tRet, tRetN, tOrV, tAndV, tNotV, tChain, tVar, tC, rI0, rI, tOp, tUn, rU, tCons, tNil, tCB, tTup, tLst, tSeq, tNext, tIfS, tTest, tAnd, tOr, tNot, tB, tSl, tPart, tBM, tBM0, tCall, rEq, rNe, scal, gName, tAsg, tAug, ipI, tIf, tDrop, C8.rSlX, List.getElem?_cons_zero, List.getElem?_cons_succ, Option.some.injEq, V.str.injEq, V.int.injEq, V.bl.injEq, V.ref.injEq, exists_eq_left, exists_eq_left', exists_eq_right, exists_eq_right', exists_and_left, exists_and_right, exists_eq, true_and, and_true, List.set_cons_zero, List.set_cons_succ, List.append_nil, List.nil_append, List.cons_append, List.cons.injEq, reduceIte, Bool.false_eq_true, if_true, if_false, decide_eq_true_eq, lt1, Nat.add_sub_cancel_left, decide_not, Bool.not_eq_true', Bool.not_true, Bool.not_false, decide_eq_false_iff_not, Nat.not_lt, Nat.not_le, tCh, rSlN, rInTS, S_eq, n1, n2, nn, nl, nle, ty_s, slotI, wipe, List.map_cons, List.map_nil, Int.toNat_natCast, s_sp, s_nl, s_cu, s_po, hc, hb, spCommentEnd]
    rw [hd] at hk
    have hk' : (if t[n] = 32 ∨ t[n] = 10 then some 1 else if t[n] = 123 then (comEnd (t.drop (n + 1))).map (· + 1) else if (t[n] :: t.drop (n + 1)).take 2 = [40, 42] then (comEnd ((t.drop (n + 1)).drop 1)).map (· + 2) else some 0) = some k := hk
    have h1 : ¬ (t[n] = 32 ∨ t[n] = 10) := by
      rw [hc] at h32 h10
      rintro (e | e)
      · exact h32 (by rw [e])
      · exact h10 (by rw [e])
    · rw [if_neg h1] at hk'
      by_cases h2 : t[n] = 123
      · rw [if_pos h2] at hk' ⊢
        cases hx : comEnd (t.drop (n + 1)) with
        | none =>
          rw [hx] at hk'
          cases hk'
        | some x =>
          rw [hx] at hk'
          have ek : x + 1 = k := Option.some.inj hk'
          refine ⟨t, _, _, ⟨rfl, rfl, rfl⟩, by omega, hb, x, hx, ?_⟩
          rw [show n + 1 + x = n + k by omega]
          exact q
      · rw [if_neg h2] at hk' ⊢
        rw [← hd] at hk'
        by_cases h3 : (t.drop n).take 2 = [40, 42]
        · rw [if_pos h3] at hk' ⊢
          have hn2 : n + 2 ≤ t.length := by
            have := congrArg List.length h3
            rw [List.length_take, List.length_drop] at this
            have e2 : min 2 (t.length - n) = 2 := this
            omega
          rw [List.drop_drop] at hk'
          cases hx : comEnd (t.drop (n + 1 + 1)) with
          | none =>
            rw [hx] at hk'
            cases hk'
          | some x =>
            rw [hx] at hk'
            have ek : x + 2 = k := Option.some.inj hk'
            refine ⟨t, _, _, ⟨rfl, rfl, rfl⟩, by omega, hb, x, hx, ?_⟩
            rw [show n + 2 + x = n + k by omega]
            exact q
        · rw [if_neg h3] at hk' ⊢
          cases hk'
          exact q
end
end K0

/-! k00: words and numbers -/
namespace K0
open PySem PySem.Spec PyProof.Rows L2 SX
abbrev sNumberAt : Stmt := topS 16
abbrev sNumberOf : Stmt := topS 17
theorem al_asc {w : L} (h : ∀ d ∈ w, isAl d = true) : asc w := by
  unfold asc
  rw [List.all_eq_true]
  intro c hc
  exact decide_eq_true (s_lo c (h c hc))
/-- what stands at a place: w, then r -/
structure At (t : L) (n : Nat) (w r : L) : Prop where
  eq : t.drop n = w ++ r
  lt : n ≤ t.length
theorem At.len {t : L} {n : Nat} {w r : L} (a : At t n w r) : t.length = n + w.length + r.length := by
  have := congrArg List.length a.eq
  rw [List.length_drop, List.length_append] at this
  have := a.lt
  omega
theorem At.get {t : L} {n : Nat} {w r : L} (a : At t n w r) (i : Nat) (h : i < w.length) : t[n + i]? = some w[i] := by
  have e := congrArg (fun l : L => l[i]?) a.eq
  simp only [List.getElem?_drop] at e
  rw [e, List.getElem?_append_left h, List.getElem?_eq_getElem h]
theorem At.next {t : L} {n : Nat} {w r : L} (a : At t n w r) : t[n + w.length]? = r.head? := by
  have e := congrArg (fun l : L => l[w.length]?) a.eq
  simp only [List.getElem?_drop] at e
  rw [e, List.getElem?_append_right (Nat.le_refl _), Nat.sub_self, List.head?_eq_getElem?]
theorem At.take {t : L} {n : Nat} {w r : L} (a : At t n w r) : (t.drop n).take (n + w.length - n) = w := by
  rw [a.eq, Nat.add_sub_cancel_left, List.take_left']
  rfl
section
variable {P : Program} {w : World} {K : PySem.W.Frag} {mg : Str → Option Value} {base : Heap} {aW aL : Addr}
def wsort (u : L) : Str := if u.map lo ∈ wordsL then "word" else "name"
/-! ### numbers -/
theorem numL_dig (n : Nat) : dig (TL.numL n) := by
  unfold dig
  rw [List.all_eq_true]
  intro c hc
  have h := TL.numL_digits n c hc
  rw [Bool.and_eq_true, decide_eq_true_eq, decide_eq_true_eq]
  exact h
theorem numL_head : ∀ n : Nat, 0 < n → ∀ c, (TL.numL n).head? = some c → c ≠ 48 := by
  intro n
  induction n using Nat.strongRecOn with
  | ind n ih =>
    intro h0 c hc e
    by_cases h : n < 10
    · rw [TL.numL_lt h] at hc
      have : 48 + n = c := Option.some.inj hc
      omega
    · rw [TL.numL_step (by omega)] at hc
      cases hq : TL.numL (n / 10) with
      | nil => exact TL.numL_ne _ hq
      | cons d r =>
        rw [hq] at hc
        refine ih (n / 10) (by omega) (by omega) d (by rw [hq]; rfl) ?_
        have : d = c := Option.some.inj hc
        omega
theorem drop_zeros (k n : Nat) : (List.replicate k 48 ++ TL.numL n).dropWhile (· == 48) = if n = 0 then [] else TL.numL n := by
  induction k with
  | zero =>
    rw [List.replicate_zero, List.nil_append]
    by_cases h : n = 0
    · rw [if_pos h, h]
      rfl
    · rw [if_neg h]
      cases hq : TL.numL n with
      | nil => rfl
      | cons d r =>
        have := numL_head n (by omega) d (by rw [hq]; rfl)
        rw [List.dropWhile_cons, if_neg (by simpa using this)]
  | succ k ih =>
    rw [List.replicate_succ, List.cons_append, List.dropWhile_cons, if_pos (by rfl)]
    exact ih
def spNumberOf : Sp := fun vs H Q _ => ∃ (k n : Nat), vs = [VS (List.replicate k 48 ++ TL.numL n)] ∧ n ≤ 2147483647 ∧ k ≤ 1000 ∧ Q (.int (n : Int)) H
theorem numL_10 {n : Nat} (h : n ≤ 2147483647) : (TL.numL n).length ≤ 10 := TL.numL_len (by decide) (by omega)
theorem sc_numberOf : FnScope ["figures", "short"] ["figures"] (C8.fnScope sNumberOf) := C8.fnScope_by (by decide +kernel)
theorem ok_numberOf (nm : Nm w K mg aW aL) {f : Addr} {fd : FuncData} (D : C8.Def K mg "number_of" sNumberOf f fd) (b : Binds K fd ["figures"] []) : Cg P w K mg base 1 "number_of" spNumberOf := by
  refine cg0 D b sc_numberOf (fun vs H Q E h => ?_) (fun cdv A outer s H vs Q E hr gg h => ?_)
  · obtain ⟨k, n, rfl, _⟩ := h
    rfl
  · obtain ⟨k, n, rfl, hn, hk, q⟩ := h
    have nd := sc_numberOf.nd
    have h10 := numL_10 hn
    have hlen : (List.replicate k 48 ++ TL.numL n).length ≤ big := by
      rw [List.length_append, List.length_replicate]
      have : big = 1000000 := rfl
      omega
    refine ⟨_, (pss_cons (ps_set (i := 1) nd rfl (.inl rfl) (pe_bm PySem.F.plainAttrs_str PySem.F.slot_str_lstrip PySem.F.type_str_lstrip mt_lstrip0 (pv 0) (pa_cons pe_str pa_nil)))
  (pss_cons (ps_if (pt_cmpR op_gt (pe_callB call_lenS (by rfl) nm.m_len (by decide +kernel) (pa_cons (pv 1) pa_nil)) pe_int (nomark _))
    (pss_one (ps_ret (pe_op op_add (C8.pe_gc (by rfl) nm.g_MAXINT) pe_int))) pss_nil)
  (pss_one (ps_ret (pe_ifExp (pt_truth (pv 1) (fun _ => rfl)) (pe_callTy call_intS (by rfl) nm.m_int (by decide +kernel) (pa_cons (pv 1) pa_nil)) pe_int))))), ?_⟩
    rw [show start ["figures", "short"] [VS (List.replicate k 48 ++ TL.numL n)] = [some (VS (List.replicate k 48 ++ TL.numL n)), none] from rfl]
    simp only [tRet, tRetN, tOrV, tAndV, tNotV, tChain, tVar, tC, rI0, rI, tOp, tUn, rU, tCons, tNil, tCB, tTup, tLst, tSeq, tNext, tIfS, tTest, tAnd, tOr, tNot, tB, tSl, tPart, tBM, tBM0, tCall, rEq, rNe, scal, gName, tAsg, tAug, ipI, tIf, tDrop, C8.rSlX, List.getElem?_cons_zero, List.getElem?_cons_succ, Option.some.injEq, V.str.injEq, V.int.injEq, V.bl.injEq, V.ref.injEq, exists_eq_left, exists_eq_left', exists_eq_right, exists_eq_right', exists_and_left, exists_and_right, exists_eq, true_and, and_true, List.set_cons_zero, List.set_cons_succ, List.append_nil, List.nil_append, List.cons_append, List.cons.injEq, reduceIte, Bool.false_eq_true, if_true, if_false, decide_eq_true_eq, lt1, Nat.add_sub_cancel_left, decide_not, Bool.not_eq_true', Bool.not_true, Bool.not_false, decide_eq_false_iff_not, Nat.not_lt, Nat.not_le, tCh, rSlN, rInTS, S_eq, n1, n2, nn, nl, nle, ty_s, slotI, wipe, List.map_cons, List.map_nil, Int.toNat_natCast, s_0, hlen, drop_zeros, TruV, S_len]
    by_cases h0 : n = 0
    · subst h0
      simp only [if_pos]
      exact ⟨Nat.zero_le _, false, ⟨Nat.zero_le _, rfl⟩, q⟩
    · simp only [if_neg h0]
      have hne := TL.numL_ne n
      have hpos : (TL.numL n).length ≠ 0 := fun e => hne (List.length_eq_zero_iff.mp e)
      refine ⟨by have : big = 1000000 := rfl; omega, ?_⟩
      rw [if_neg (by omega)]
      refine ⟨true, ⟨big_line (by have : big = 1000000 := rfl; omega), ?_⟩, numL_dig n, hne, by omega, ?_⟩
      · rw [Eq.comm, bne_iff_ne]
        omega
      · rw [TL.numL_val]
        exact q
def spNumberAt : Sp := fun vs H Q _ => ∃ (t : L) (n m k : Nat) (u r : L), vs = [VS t, .int (n : Int)] ∧ At t n u r ∧ t.length ≤ big ∧ u = List.replicate k 48 ++ TL.numL m ∧ m ≤ 2147483647 ∧ k ≤ 1000 ∧ (∀ c, r.head? = some c → isFig c = false) ∧
  ∀ p, H p = none → Q (.ref p) (upd H p (.tup [.str "number", .int (m : Int), .int ((n + u.length : Nat) : Int)]))
theorem num_figs (k m : Nat) : ∀ d ∈ List.replicate k 48 ++ TL.numL m, isFig d = true := by
  intro d hd
  unfold isFig
  rw [Bool.and_eq_true, decide_eq_true_eq, decide_eq_true_eq]
  rcases List.mem_append.mp hd with h | h
  · rw [(List.mem_replicate.mp h).2]
    decide
  · exact TL.numL_digits m d h
theorem sc_numberAt : FnScope ["text", "at", "end", "number"] ["text", "at"] (C8.fnScope sNumberAt) := C8.fnScope_by (by decide +kernel)
theorem ok_numberAt (nm : Nm w K mg aW aL) {f : Addr} {fd : FuncData} (D : C8.Def K mg "number_at" sNumberAt f fd) (b : Binds K fd ["text", "at"] [])
    (c_number_of : Cg P w K mg base 1 "number_of" spNumberOf) (c_is_figure : Cg P w K mg base 1 "is_figure" spIsFigure) : Cg P w K mg base 2 "number_at" spNumberAt := by
  refine cg0 D b sc_numberAt (fun vs H Q E h => ?_) (fun cdv A outer s H vs Q E hr gg h => ?_)
  · obtain ⟨t, n, m, k, u, r, rfl, _⟩ := h
    rfl
  · obtain ⟨t, n, m, k, u, r, rfl, at0, hb, eu, hm, hk, hn, q⟩ := h
    have nd := sc_numberAt.nd
    have len := at0.len
    have hu : ∀ d ∈ u, isFig d = true := by
      rw [eu]
      exact num_figs k m
    refine ⟨_, (pss_cons (ps_set (i := 2) nd rfl (.inl rfl) (pv 1))
  (pss_cons (ps_while PassesOwn.never (pt_cl (pw_and (pt_cmpR op_lt (pv 2) (pe_callB call_lenS (by rfl) nm.m_len (by decide +kernel) (pa_cons (pv 0) pa_nil)) (nomark _)) (pw_and1 (pt_val (pe_g c_is_figure hr (by decide) gg (by rfl) (pa_cons (pe_ch (pv 0) (pv 2) (fun _ _ => rfl)) pa_nil))))).pt)
    (pss_one (ps_aug (i := 2) nd rfl (.inl rfl) pe_int ip_add)))
  (pss_cons (ps_set (i := 3) nd rfl (.inl rfl) (pe_g c_number_of hr (by decide) gg (by rfl) (pa_cons (pe_slice sl_nat (pv 0) (po_some (pv 1)) (po_some (pv 2))) pa_nil)))
  (pss_one (ps_ret (pe_tup (pa_cons pe_str (pa_cons (pv 3) (pa_cons (pe_ifExp (pt_cmpR op_gt (pv 3) (C8.pe_gc (by rfl) nm.g_MAXINT) (nomark _)) (pv 1) (pv 2)) pa_nil))))))))), ?_⟩
    rw [show start ["text", "at", "end", "number"] [VS t, .int (n : Int)] = [some (VS t), some (.int (n : Int)), none, none] from rfl]
    refine ⟨_, rfl, ?_⟩
    refine while_g (fun σ H' => ∃ i, i ≤ u.length ∧ σ = [some (VS t), some (.int (n : Int)), some (.int ((n + i : Nat) : Int)), none] ∧ H' = H) (fun σ _ => t.length - slotI σ 2) ⟨0, Nat.zero_le _, rfl, rfl⟩ ?_
    rintro σ H' ⟨i, hi, rfl, rfl⟩
    simp only [tRet, tRetN, tOrV, tAndV, tNotV, tChain, tVar, tC, rI0, rI, tOp, tUn, rU, tCons, tNil, tCB, tTup, tLst, tSeq, tNext, tIfS, tTest, tAnd, tOr, tNot, tB, tSl, tPart, tBM, tBM0, tCall, rEq, rNe, scal, gName, tAsg, tAug, ipI, tIf, tDrop, C8.rSlX, List.getElem?_cons_zero, List.getElem?_cons_succ, Option.some.injEq, V.str.injEq, V.int.injEq, V.bl.injEq, V.ref.injEq, exists_eq_left, exists_eq_left', exists_eq_right, exists_eq_right', exists_and_left, exists_and_right, exists_eq, true_and, and_true, List.set_cons_zero, List.set_cons_succ, List.append_nil, List.nil_append, List.cons_append, List.cons.injEq, reduceIte, Bool.false_eq_true, if_true, if_false, decide_eq_true_eq, lt1, Nat.add_sub_cancel_left, decide_not, Bool.not_eq_true', Bool.not_true, Bool.not_false, decide_eq_false_iff_not, Nat.not_lt, Nat.not_le, tCh, rSlN, rInTS, S_eq, n1, n2, nn, nl, nle, ty_s, slotI, wipe, List.map_cons, List.map_nil, Int.toNat_natCast, hb, spIsFigure, spNumberOf]
    by_cases h : i < u.length
    · rw [if_pos (by omega)]
      refine ⟨_, at0.get i h, ?_⟩
      rw [if_pos (hu u[i] (List.getElem_mem h))]
      exact ⟨⟨i + 1, h, rfl⟩, by omega⟩
    · have ei : i = u.length := by omega
      subst ei
      have hc := at0.next
      have tk := at0.take
      rw [Nat.add_sub_cancel_left] at tk
      have sz : (3 : Nat) ≤ sizeLine := by decide
      rcases r with _ | ⟨c, r⟩
      case' nil => rw [if_neg (by rw [len]; simp)]
      case' cons =>
        have h2 := hn c rfl
        rw [if_pos (by rw [len, List.length_cons]; omega)]
        refine ⟨c, hc, ?_⟩
        rw [if_neg (by rw [h2]; exact Bool.false_ne_true)]
      all_goals
        refine ⟨k, m, by rw [tk, eu], hm, hk, ?_⟩
        rw [if_neg (by omega)]
        exact ⟨sz, q⟩
end
end K0

/-! k00: strings, tokens -/
namespace K0
open PySem PySem.Spec PyProof.Rows L2 SX
abbrev sStringAt : Stmt := topS 18
abbrev sTokenAt : Stmt := topS 14
abbrev sTokens : Stmt := topS 11
theorem dblq_app (a b : L) : dblq (a ++ b) = dblq a ++ dblq b := StrLaws.dbl_append 39 a b
theorem dblq_one {c : Nat} (h : c ≠ 39) : dblq [c] = [c] := by
  unfold dblq StrLaws.dbl
  rw [if_neg h]
  rfl
theorem dblq_q : dblq [39] = [39, 39] := rfl
theorem dblq_cons (c : Nat) (r : L) : dblq (c :: r) = dblq [c] ++ dblq r := dblq_app [c] r
theorem dblq_len (a : L) : a.length ≤ (dblq a).length := by
  induction a with
  | nil => exact Nat.zero_le _
  | cons c a ih =>
    rw [dblq_cons, List.length_append, List.length_cons]
    by_cases h : c = 39
    · rw [h, dblq_q]
      show a.length + 1 ≤ 2 + _
      omega
    · rw [dblq_one h]
      show a.length + 1 ≤ 1 + _
      omega
theorem flatten_ones : ∀ a : L, (a.map fun c => [c]).flatten = a
  | [] => rfl
  | c :: a => by rw [List.map_cons, List.flatten_cons, flatten_ones a]; rfl
section
variable {P : Program} {w : World} {K : PySem.W.Frag} {mg : Str → Option Value} {base : Heap} {aW aL : Addr}
def spStringAt : Sp := fun vs H Q _ => ∃ (t : L) (n : Nat) (x r : L), vs = [VS t, .int (n : Int)] ∧ At t n (39 :: (dblq x ++ [39])) r ∧ t.length ≤ big ∧ x ≠ [] ∧ 10 ∉ x ∧ r.head? ≠ some 39 ∧
  ∀ H' p, Same H H' → H p = none → H' p = some (.tup [.str "string", VS x, .int ((n + (dblq x).length + 2 : Nat) : Int)]) → Q (.ref p) H'
theorem sc_stringAt : FnScope ["text", "at", "signs", "end"] ["text", "at"] (C8.fnScope sStringAt) := C8.fnScope_by (by decide +kernel)
theorem ok_stringAt (nm : Nm w K mg aW aL) {f : Addr} {fd : FuncData} (D : C8.Def K mg "string_at" sStringAt f fd) (b : Binds K fd ["text", "at"] []) : Cg P w K mg base 1 "string_at" spStringAt := by
  refine cg0 D b sc_stringAt (fun vs H Q E h => ?_) (fun cdv A outer s H vs Q E hr gg h => ?_)
  · obtain ⟨t, n, x, r, rfl, _⟩ := h
    rfl
  · obtain ⟨t, n, x, r, rfl, at0, hb, hx, h10, hr0, q⟩ := h
    have nd := sc_stringAt.nd
    have len := at0.len
    refine ⟨_, (pss_cons (ps_set (i := 2) nd rfl (.inl rfl) (pe_lst pa_nil))
  (pss_cons (ps_set (i := 3) nd rfl (.inl rfl) (pe_op op_add (pv 1) pe_int))
  (pss_cons (ps_while PassesOwn.never (pt_cl (pw_and (pt_cmpR op_lt (pv 3) (pe_callB call_lenS (by rfl) nm.m_len (by decide +kernel) (pa_cons (pv 0) pa_nil)) (nomark _)) (pw_and1 (pt_cmpR op_ne (pe_ch (pv 0) (pv 3) (fun _ _ => rfl)) pe_str (nomark _)))).pt)
    (pss_one (ps_if (pt_cmpR op_ne (pe_ch (pv 0) (pv 3) (fun _ _ => rfl)) pe_str (nomark _))
    (pss_cons (ps_expr (pe_bm PySem.F.plainAttrs_list PySem.F.slot_list_append PySem.F.type_list_append mt_append (pv 2) (pa_cons (pe_ch (pv 0) (pv 3) (fun _ _ => rfl)) pa_nil)))
  (pss_one (ps_aug (i := 3) nd rfl (.inl rfl) pe_int ip_add))) (pss_one (ps_if (pt_cmpR op_eq (pe_slice sl_nat (pv 0) (po_some (pv 3)) (po_some (pe_op op_add (pv 3) pe_int))) pe_str (nomark _))
    (pss_cons (ps_expr (pe_bm PySem.F.plainAttrs_list PySem.F.slot_list_append PySem.F.type_list_append mt_append (pv 2) (pa_cons pe_str pa_nil)))
  (pss_one (ps_aug (i := 3) nd rfl (.inl rfl) pe_int ip_add))) (pss_one (ps_ret (pe_tup (pa_cons pe_str (pa_cons (pe_bm PySem.F.plainAttrs_str PySem.F.slot_str_join PySem.F.type_str_join mt_joinS pe_str (pa_cons (pv 2) pa_nil)) (pa_cons (pe_ifExp (pt_truth (pv 2) (fun _ => rfl)) (pe_op op_add (pv 3) pe_int) (pv 1)) pa_nil)))))))))))
  (pss_one (ps_ret (pe_tup (pa_cons pe_str (pa_cons (pe_bm PySem.F.plainAttrs_str PySem.F.slot_str_join PySem.F.type_str_join mt_joinS pe_str (pa_cons (pv 2) pa_nil)) (pa_cons (pv 1) pa_nil))))))))), ?_⟩
    rw [show start ["text", "at", "signs", "end"] [VS t, .int (n : Int)] = [some (VS t), some (.int (n : Int)), none, none] from rfl]
    refine ⟨Nat.zero_le _, fun o no => ?_⟩
    refine ⟨_, rfl, _, _, rfl, rfl, ?_⟩
    refine while_g (fun σ H' => ∃ a b : L, x = a ++ b ∧ σ = [some (VS t), some (.int (n : Int)), some (.ref o), some (.int ((n + 1 + (dblq a).length : Nat) : Int))] ∧ H' = upd H o (.lst (a.map C1))) (fun σ _ => t.length - slotI σ 3) ⟨[], x, rfl, rfl, rfl⟩ ?_
    rintro σ H' ⟨a, b, eab, rfl, rfl⟩
    rw [List.length_cons, List.length_append, List.length_singleton] at len
    have e1 : dblq x = dblq a ++ dblq b := by rw [eab, dblq_app]
    have l1 : (dblq x).length = (dblq a).length + (dblq b).length := by rw [e1, List.length_append]
    have at1 : At t (n + 1 + (dblq a).length) (dblq b ++ [39]) r := by
      refine ⟨?_, by omega⟩
      rw [show n + 1 + (dblq a).length = n + (1 + (dblq a).length) by omega, ← List.drop_drop, at0.eq, e1, show 39 :: (dblq a ++ dblq b ++ [39]) ++ r = (39 :: dblq a) ++ ((dblq b ++ [39]) ++ r) by simp, List.drop_left' (by simp; omega)]
    have big_e : big = 1000000 := rfl
    have sz : (3 : Nat) ≤ sizeLine := by decide
    have hsz : (a.map C1).length < sizeLine := by
      rw [List.length_map]
      have h1 := dblq_len a
      exact Nat.lt_of_le_of_lt (show a.length ≤ 1000000 by omega) (by decide)
    have here : (upd H o (.lst (a.map C1))) o = some (.lst (a.map C1)) := upd_same
    have hty : ∀ {K' : PySem.W.Frag}, tyV K' "list" (V.ref o) (upd H o (.lst (a.map C1))) := .inl ⟨rfl, _, .inl (.inl here)⟩
    simp only [tRet, tRetN, tOrV, tAndV, tNotV, tChain, tVar, tC, rI0, rI, tOp, tUn, rU, tCons, tNil, tCB, tTup, tLst, tSeq, tNext, tIfS, tTest, tAnd, tOr, tNot, tB, tSl, tPart, tBM, tBM0, tCall, rEq, rNe, scal, gName, tAsg, tAug, ipI, tIf, tDrop, C8.rSlX, List.getElem?_cons_zero, List.getElem?_cons_succ, Option.some.injEq, V.str.injEq, V.int.injEq, V.bl.injEq, V.ref.injEq, exists_eq_left, exists_eq_left', exists_eq_right, exists_eq_right', exists_and_left, exists_and_right, exists_eq, true_and, and_true, List.set_cons_zero, List.set_cons_succ, List.append_nil, List.nil_append, List.cons_append, List.cons.injEq, reduceIte, Bool.false_eq_true, if_true, if_false, decide_eq_true_eq, lt1, Nat.add_sub_cancel_left, decide_not, Bool.not_eq_true', Bool.not_true, Bool.not_false, decide_eq_false_iff_not, Nat.not_lt, Nat.not_le, tCh, rSlN, rInTS, S_eq, n1, n2, nn, nl, nle, ty_s, slotI, wipe, List.map_cons, List.map_nil, Int.toNat_natCast, hb, s_nl, s_q, s_qq, s_e]
    have lt0 : n + 1 + (dblq a).length < t.length := by omega
    rw [if_pos lt0]
    rcases b with _ | ⟨c, b⟩
    · -- the end
      have hc : t[n + 1 + (dblq a).length]? = some 39 := at1.get 0 (by simp [dblq, StrLaws.dbl])
      have htk : (t.drop (n + 1 + (dblq a).length)).take 2 ≠ [39, 39] := by
        rw [at1.eq]
        cases r with
        | nil => simp [dblq, StrLaws.dbl]
        | cons d r =>
          intro e
          have e2 : [39, d] = [39, 39] := e
          exact hr0 (by rw [show d = 39 from (List.cons.inj (List.cons.inj e2).2).1]; rfl)
      have ex : x = a := by rw [eab, List.append_nil]
      refine ⟨39, hc, ?_⟩
      rw [if_pos (by decide)]
      refine ⟨39, hc, ?_⟩
      rw [if_neg (by decide), if_neg htk]
      refine ⟨a.map fun c => [c], ?_, ?_, true, ?_, ?_⟩
      · rw [List.map_map]
        exact .inl (.inl here)
      · rw [flatten_ones]
        have := dblq_len a
        omega
      · refine .inl ⟨a.map C1, .inl (.inl here), ?_⟩
        rw [← ex]
        cases x with
        | nil => exact absurd rfl hx
        | cons _ _ => rfl
      · rw [if_pos rfl, flatten_ones]
        refine ⟨sz, fun p np => ?_⟩
        have npo : p ≠ o := fun e => by
          rw [e, upd_same] at np
          cases np
        have np0 : H p = none := by
          rw [upd_ne npo] at np
          exact np
        refine q _ p ?_ np0 ?_
        · intro b' z e
          rw [upd_ne (ne_of_none e np0), upd_ne (ne_of_none e no)]
          exact e
        · rw [upd_same, ex, show n + (dblq a).length + 2 = n + 1 + (dblq a).length + 1 by omega]
    · have hc10 : c ≠ 10 := fun e => h10 (by rw [eab, e]; simp)
      have eab2 : x = (a ++ [c]) ++ b := by rw [eab]; simp
      have hup : ∀ v : V, upd (upd H o (.lst (a.map C1))) o (.lst (a.map C1 ++ [v])) = upd H o (.lst (a.map C1 ++ [v])) := fun v => upd_upd
      by_cases h39 : c = 39
      · subst h39
        have ld : (dblq (a ++ [39])).length = (dblq a).length + 2 := by rw [dblq_app, dblq_q, List.length_append]; rfl
        have hc : t[n + 1 + (dblq a).length]? = some 39 := at1.get 0 (by simp [dblq, StrLaws.dbl])
        have htk : (t.drop (n + 1 + (dblq a).length)).take 2 = [39, 39] := by
          rw [at1.eq, dblq_cons, dblq_q]
          rfl
        refine ⟨39, hc, ?_⟩
        rw [if_pos (by decide)]
        refine ⟨39, hc, ?_⟩
        rw [if_neg (by decide), if_pos htk]
        refine ⟨hty, o, _, _, rfl, rfl, here, hsz, ?_⟩
        refine ⟨⟨a ++ [39], ⟨b, eab2⟩, by omega, ?_⟩, by omega⟩
        rw [hup, List.map_append]
        rfl
      · have ld : (dblq (a ++ [c])).length = (dblq a).length + 1 := by rw [dblq_app, dblq_one h39, List.length_append]; rfl
        have hc : t[n + 1 + (dblq a).length]? = some c := by
          have h := at1.get 0 (by rw [dblq_cons, dblq_one h39]; simp)
          rw [Nat.add_zero] at h
          rw [h]
          congr 1
          simp only [dblq_cons c b, dblq_one h39]
          rfl
        refine ⟨c, hc, ?_⟩
        rw [if_pos hc10]
        refine ⟨c, hc, ?_⟩
        rw [if_pos h39]
        refine ⟨hty, c, hc, o, _, _, rfl, rfl, here, hsz, ?_⟩
        refine ⟨⟨a ++ [c], ⟨b, eab2⟩, by omega, ?_⟩, by omega⟩
        rw [hup, List.map_append]
        rfl
theorem may_q {l : L} {c : Nat} (h : may (39 :: l) c) : c ≠ 39 := by
  unfold may at h
  have h1 : isLet 39 = false := by decide
  have h2 : isFig 39 = false := by decide
  simp only [h1, h2, Bool.false_eq_true, if_false, if_true] at h
  exact h
def spTokenAt : Sp := fun vs H Q _ => ∃ (t : L) (n : Nat) (u r : L) (so : String) (v : V), vs = [VS t, .int (n : Int)] ∧ At t n u r ∧ t.length ≤ big ∧ TokOk u so v ∧ (∀ c w, u = c :: w → ¬ isLet c = true) ∧ Fol u r ∧
  ∀ H' p, Same H H' → H p = none → H' p = some (.tup [.str (Str.ofString so), v, .int ((n + u.length : Nat) : Int)]) → Q (.ref p) H'
theorem same_new {H : Hp} {p : Addr} {o : HO} (h : H p = none) : Same H (upd H p o) := fun b x e => by
  rw [upd_ne (ne_of_none e h)]
  exact e
theorem fig_let {c : Nat} (h : isFig c = true) : isLet c = false := by
  unfold isFig at h
  unfold isLet
  simp only [Bool.and_eq_true, decide_eq_true_eq] at h
  rw [Bool.or_eq_false_iff, Bool.and_eq_false_iff, Bool.and_eq_false_iff, decide_eq_false_iff_not, decide_eq_false_iff_not, decide_eq_false_iff_not, decide_eq_false_iff_not]
  omega
theorem single_of : ∀ c ∈ singles, isLet c = false ∧ isFig c = false ∧ c ≠ 39 := by decide +kernel
theorem pairs_of : ∀ u ∈ pairsL, ∃ c d, u = [c, d] ∧ isLet c = false ∧ isFig c = false ∧ c ≠ 39 := by
  intro u hu
  have h : ∀ u ∈ pairsL, (match u with | [c, _] => !isLet c && !isFig c && decide (c ≠ 39) | _ => false) = true := by decide +kernel
  have hh := h u hu
  match u, hh with
  | [c, d], hh =>
    refine ⟨c, d, rfl, ?_⟩
    simp only [Bool.and_eq_true, Bool.not_eq_true', decide_eq_true_eq] at hh
    exact ⟨hh.1.1, hh.1.2, hh.2⟩
theorem pairs_len {u : L} (h : u ∈ pairsL) : u.length = 2 := by
  obtain ⟨c, d, rfl, _⟩ := pairs_of u h
  rfl
theorem sc_tokenAt : FnScope ["text", "at", "sign"] ["text", "at"] (C8.fnScope sTokenAt) := C8.fnScope_by (by decide +kernel)
theorem ok_tokenAt (nm : Nm w K mg aW aL) {f : Addr} {fd : FuncData} (D : C8.Def K mg "token_at" sTokenAt f fd) (b : Binds K fd ["text", "at"] [])
    (c_is_figure : Cg P w K mg base 1 "is_figure" spIsFigure)
    (c_number_at : Cg P w K mg base 2 "number_at" spNumberAt) (c_string_at : Cg P w K mg base 1 "string_at" spStringAt) : Cg P w K mg base 3 "token_at" spTokenAt := by
  refine cg0 D b sc_tokenAt (fun vs H Q E h => ?_) (fun cdv A outer s H vs Q E hr gg h => ?_)
  · obtain ⟨t, n, u, r, so, v, rfl, _⟩ := h
    rfl
  · obtain ⟨t, n, u, r, so, v, rfl, at0, hb, tk, nl0, fo, q⟩ := h
    have nd := sc_tokenAt.nd
    have len := at0.len
    have sz : (3 : Nat) ≤ sizeLine := by decide
    have q1 : ∀ p, H p = none → Q (.ref p) (upd H p (.tup [.str (Str.ofString so), v, .int ((n + u.length : Nat) : Int)])) := fun p np => q _ p (same_new np) np upd_same
    refine ⟨_, (pss_cons (ps_set (i := 2) nd rfl (.inl rfl) (pe_ch (pv 0) (pv 1) (fun _ _ => rfl)))
  (pss_cons (ps_if (pt_val (pe_g c_is_figure hr (by decide) gg (by rfl) (pa_cons (pv 2) pa_nil)))
    (pss_one (ps_ret (pe_g c_number_at hr (by decide) gg (by rfl) (pa_cons (pv 0) (pa_cons (pv 1) pa_nil))))) pss_nil)
  (pss_cons (ps_if (pt_cmpR op_eq (pv 2) pe_str (nomark _))
    (pss_one (ps_ret (pe_g c_string_at hr (by decide) gg (by rfl) (pa_cons (pv 0) (pa_cons (pv 1) pa_nil))))) pss_nil)
  (pss_cons (ps_if (pt_cmpR op_inT (pe_slice sl_nat (pv 0) (po_some (pv 1)) (po_some (pe_op op_add (pv 1) pe_int))) (C8.pe_gc (by rfl) nm.g_LONG_SIGNS) (by rfl))
    (pss_one (ps_ret (pe_tup (pa_cons pe_str (pa_cons (pe_slice sl_nat (pv 0) (po_some (pv 1)) (po_some (pe_op op_add (pv 1) pe_int))) (pa_cons (pe_op op_add (pv 1) pe_int) pa_nil)))))) pss_nil)
  (pss_cons (ps_if (pw_and (pt_cmpR op_inS1 (pv 2) (C8.pe_gc (by rfl) nm.g_SHORT_SIGNS) (by rfl)) (pw_and1 (pt_cmpR op_ne (pe_slice sl_nat (pv 0) (po_some (pv 1)) (po_some (pe_op op_add (pv 1) pe_int))) pe_str (nomark _)))).pt
    (pss_one (ps_ret (pe_tup (pa_cons pe_str (pa_cons (pv 2) (pa_cons (pe_op op_add (pv 1) pe_int) pa_nil)))))) pss_nil)
  (pss_one (ps_ret (pe_tup (pa_cons pe_str (pa_cons pe_str (pa_cons (pv 1) pa_nil))))))))))), ?_⟩
    rw [show start ["text", "at", "sign"] [VS t, .int (n : Int)] = [some (VS t), some (.int (n : Int)), none] from rfl]
    simp only [tRet, tRetN, tOrV, tAndV, tNotV, tChain, tVar, tC, rI0, rI, tOp, tUn, rU, tCons, tNil, tCB, tTup, tLst, tSeq, tNext, tIfS, tTest, tAnd, tOr, tNot, tB, tSl, tPart, tBM, tBM0, tCall, rEq, rNe, scal, gName, tAsg, tAug, ipI, tIf, tDrop, C8.rSlX, List.getElem?_cons_zero, List.getElem?_cons_succ, Option.some.injEq, V.str.injEq, V.int.injEq, V.bl.injEq, V.ref.injEq, exists_eq_left, exists_eq_left', exists_eq_right, exists_eq_right', exists_and_left, exists_and_right, exists_eq, true_and, and_true, List.set_cons_zero, List.set_cons_succ, List.append_nil, List.nil_append, List.cons_append, List.cons.injEq, reduceIte, Bool.false_eq_true, if_true, if_false, decide_eq_true_eq, lt1, Nat.add_sub_cancel_left, decide_not, Bool.not_eq_true', Bool.not_true, Bool.not_false, decide_eq_false_iff_not, Nat.not_lt, Nat.not_le, tCh, rSlN, rInTS, S_eq, n1, n2, nn, nl, nle, ty_s, slotI, wipe, List.map_cons, List.map_nil, Int.toNat_natCast, hb, s_q, s_po, s_e, spIsFigure]
    have first : ∀ c w', u = c :: w' → t[n]? = some c := by
      intro c w' e
      have h := at0.get 0 (by rw [e]; simp)
      rw [Nat.add_zero] at h
      rw [h]
      simp only [e]
      rfl
    have tk2 : (t.drop n).take 2 = (u ++ r).take 2 := by rw [at0.eq]
    cases tk with
    | @word _ c w' e hl hall hw => exact absurd hl (nl0 c w' e)
    | @name _ c w' e hl hall hw => exact absurd hl (nl0 c w' e)
    | @num _ m k eu hm hk =>
      obtain ⟨c, w', e⟩ : ∃ c w', u = c :: w' := by
        cases hu : u with
        | nil =>
          rw [hu] at eu
          exact absurd (List.append_eq_nil_iff.mp eu.symm).2 (TL.numL_ne m)
        | cons c w' => exact ⟨c, w', rfl⟩
      have hf : isFig c = true := num_figs k m c (by rw [← eu, e]; exact List.mem_cons_self)
      have hl := fig_let hf
      refine ⟨c, first c w' e, ?_⟩
      rw [if_pos hf]
      refine ⟨t, n, m, k, u, r, rfl, at0, hb, eu, hm, hk, ?_, q1⟩
      intro d hd
      have h := fo d hd
      rw [e] at h
      have h' : (if isLet c = true then isAl d = false else if isFig c = true then isFig d = false else if c = 39 then d ≠ 39 else _) := h
      rw [if_neg (by rw [hl]; exact Bool.false_ne_true), if_pos hf] at h'
      exact h'
    | @str _ x eu hx h10 =>
      refine ⟨39, first 39 _ eu, ?_⟩
      rw [if_neg (by decide), if_pos rfl]
      refine ⟨t, n, x, r, rfl, by rw [← eu]; exact at0, hb, hx, h10, ?_, ?_⟩
      · intro e
        have h := fo 39 e
        rw [eu] at h
        exact may_q h rfl
      · intro H' p sm np e
        refine q H' p sm np ?_
        rw [e, eu, List.length_cons, List.length_append, List.length_singleton, show n + (dblq x).length + 2 = n + ((dblq x).length + 1 + 1) by omega]
    | @one c hc =>
      obtain ⟨h1, h2, h3⟩ := single_of c hc
      have nt : (t.drop n).take 2 ∉ pairsL ∧ (t.drop n).take 2 ≠ [40, 42] := by
        rw [tk2]
        cases r with
        | nil =>
          refine ⟨fun h => ?_, fun h => ?_⟩
          · have := pairs_len h
            simp at this
          · cases h
        | cons d r =>
          have h := fo d rfl
          have h' : (if isLet c = true then _ else if isFig c = true then _ else if c = 39 then _ else [c] ++ [d] ∉ pairsL ∧ [c] ++ [d] ≠ [40, 42]) := h
          rw [if_neg (by rw [h1]; exact Bool.false_ne_true), if_neg (by rw [h2]; exact Bool.false_ne_true), if_neg h3] at h'
          exact h'
      refine ⟨c, first c [] rfl, ?_⟩
      rw [if_neg (by rw [h2]; exact Bool.false_ne_true), if_neg h3]
      refine ⟨pairsL, .inr (nm.t_LONG _), ?_⟩
      rw [if_neg nt.1, if_pos hc, if_pos nt.2]
      exact ⟨sz, q1⟩
    | two hu =>
      obtain ⟨c, d, e, h1, h2, h3⟩ := pairs_of u hu
      have e2 : (t.drop n).take 2 = u := by
        rw [tk2, e]
        rfl
      refine ⟨c, first c [d] e, ?_⟩
      rw [if_neg (by rw [h2]; exact Bool.false_ne_true), if_neg h3]
      refine ⟨pairsL, .inr (nm.t_LONG _), ?_⟩
      rw [e2, if_pos hu]
      rw [pairs_len hu] at q1
      exact ⟨sz, q1⟩
end
end K0

/-! k00: tokens -/
namespace K0
open PySem PySem.Spec PyProof.Rows L2 SX
theorem call_isiS {X : Cx} : CallR X (.builtin "isinstance") (fun xs H Q => ∃ t : Str, xs = [.str t, .ty "str"] ∧ Q (.bl true) H) := by
  intro pins s σ H xs us Q I r h
  obtain ⟨t, rfl, q⟩ := h
  exact call_isi pins s σ H _ us Q I r ⟨_, _, .type "str", .type "str", true, rfl, .ty "str", .base (.str t), rfl, q⟩
theorem gapN_cons (c : Nat) (r : L) : gapN (c :: r) = if c = 32 ∨ c = 10 then some 1 else if c = 123 then (comEnd r).map (· + 1) else if (c :: r).take 2 = [40, 42] then (comEnd (r.drop 1)).map (· + 2) else some 0 := rfl
theorem gap_of {g : L} (h : GapOk g) (r : L) : gapN (g ++ r) = some g.length := by
  rcases h with rfl | rfl | ⟨o, i, ho, rfl, hi⟩
  · rfl
  · rfl
  · rcases ho with rfl | rfl
    · show gapN (123 :: (i ++ r)) = _
      rw [gapN_cons, if_neg (by decide), if_pos rfl, hi r, List.length_append]
      show some (i.length + 1) = some (1 + i.length)
      rw [Nat.add_comm]
    · show gapN (40 :: 42 :: (i ++ r)) = _
      rw [gapN_cons, if_neg (by decide), if_neg (by decide), if_pos (show (40 :: 42 :: (i ++ r)).take 2 = [40, 42] from rfl)]
      show (comEnd (i ++ r)).map (· + 2) = _
      rw [hi r, List.length_append]
      show some (i.length + 2) = some (2 + i.length)
      rw [Nat.add_comm]
theorem gap_pos {g : L} (h : GapOk g) : 1 ≤ g.length := by
  rcases h with rfl | rfl | ⟨o, i, ho, rfl, _⟩
  · exact Nat.le_refl _
  · exact Nat.le_refl _
  · rcases ho with rfl | rfl <;> rw [List.length_append] <;> simp <;> omega
theorem let_not {c : Nat} (h : isLet c = true) : c ≠ 32 ∧ c ≠ 10 ∧ c ≠ 123 ∧ c ≠ 40 := by
  unfold isLet at h
  simp only [Bool.or_eq_true, Bool.and_eq_true, decide_eq_true_eq] at h
  omega
theorem fig_not {c : Nat} (h : isFig c = true) : c ≠ 32 ∧ c ≠ 10 ∧ c ≠ 123 ∧ c ≠ 40 := by
  unfold isFig at h
  simp only [Bool.and_eq_true, decide_eq_true_eq] at h
  omega
theorem no_gap {c : Nat} {r : L} (h : c ≠ 32 ∧ c ≠ 10 ∧ c ≠ 123) (h2 : (c :: r).take 2 ≠ [40, 42]) : gapN (c :: r) = some 0 := by
  rw [gapN_cons, if_neg (by omega), if_neg h.2.2, if_neg h2]
theorem no_gap' {c : Nat} {r : L} (h : c ≠ 32 ∧ c ≠ 10 ∧ c ≠ 123 ∧ c ≠ 40) : gapN (c :: r) = some 0 :=
  no_gap ⟨h.1, h.2.1, h.2.2.1⟩ fun e => h.2.2.2 (by cases r <;> exact (List.cons.inj e).1)
theorem single_not : ∀ c ∈ singles, c ≠ 32 ∧ c ≠ 10 ∧ c ≠ 123 := by decide +kernel
theorem pairs_not : ∀ u ∈ pairsL, (match u with | c :: _ => decide (c ≠ 32 ∧ c ≠ 10 ∧ c ≠ 123 ∧ c ≠ 40) | [] => false) = true := by decide +kernel
theorem tok_of {u : L} {so : String} {v : V} (h : TokOk u so v) {r : L} (fo : Fol u r) : gapN (u ++ r) = some 0 ∧ 1 ≤ u.length := by
  cases h with
  | @word _ c w' e hl hall hw =>
    subst e
    exact ⟨no_gap' (let_not hl), by simp⟩
  | @name _ c w' e hl hall hw =>
    subst e
    exact ⟨no_gap' (let_not hl), by simp⟩
  | @num _ m k eu hm hk =>
    cases u with
    | nil => exact absurd (List.append_eq_nil_iff.mp eu.symm).2 (TL.numL_ne m)
    | cons c w' => exact ⟨no_gap' (fig_not (num_figs k m c (by rw [← eu]; exact List.mem_cons_self))), by simp⟩
  | @str _ x eu hx h10 =>
    subst eu
    exact ⟨no_gap' (by decide), by simp⟩
  | @one c hc =>
    obtain ⟨h1, h2, h3⟩ := single_of c hc
    refine ⟨no_gap (single_not c hc) ?_, by simp⟩
    cases r with
    | nil => exact fun e => by cases e
    | cons d r =>
      have h := fo d rfl
      have h' : (if isLet c = true then _ else if isFig c = true then _ else if c = 39 then _ else [c] ++ [d] ∉ pairsL ∧ [c] ++ [d] ≠ [40, 42]) := h
      rw [if_neg (by rw [h1]; exact Bool.false_ne_true), if_neg (by rw [h2]; exact Bool.false_ne_true), if_neg h3] at h'
      exact h'.2
  | two hu =>
    have h := pairs_not u hu
    cases u with
    | nil => cases h
    | cons c w' => exact ⟨no_gap' (of_decide_eq_true h), by simp⟩
theorem all_free {P : Nat → Bool} (h10 : P 10 = false) {u : L} (h : ∀ d ∈ u, P d = true) : 10 ∉ u := fun e => by
  have := h 10 e
  rw [h10] at this
  cases this
theorem dblq_free {x : L} (h : 10 ∉ x) : 10 ∉ dblq x := by
  induction x with
  | nil => exact h
  | cons c x ih =>
    rw [dblq_cons]
    have h1 : c ≠ 10 := fun e => h (by rw [e]; exact List.mem_cons_self)
    intro e
    rcases List.mem_append.mp e with e | e
    · by_cases hc : c = 39
      · rw [hc, dblq_q] at e
        revert e
        decide
      · rw [dblq_one hc, List.mem_singleton] at e
        exact h1 e.symm
    · exact ih (fun z => h (List.mem_cons_of_mem _ z)) e
theorem pairs_free : ∀ u ∈ pairsL, 10 ∉ u := by decide +kernel
theorem singles_free : ∀ c ∈ singles, 10 ∉ [c] := by decide +kernel
/-- no token has a line feed -/
theorem tok_free {u : L} {so : String} {v : V} (h : TokOk u so v) : 10 ∉ u := by
  cases h with
  | @word _ c w' e hl hall hw => exact all_free (P := isAl) (by decide) hall
  | @name _ c w' e hl hall hw => exact all_free (P := isAl) (by decide) hall
  | @num _ m k eu hm hk => exact all_free (P := isFig) (by decide) (by rw [eu]; exact num_figs k m)
  | @str _ x eu hx h10 =>
    rw [eu]
    intro e
    rcases List.mem_cons.mp e with e | e
    · cases e
    · rcases List.mem_append.mp e with e | e
      · exact dblq_free h10 e
      · rw [List.mem_singleton] at e
        cases e
  | @one c hc => exact singles_free c hc
  | two hu => exact pairs_free u hu
theorem adv_col {p : Nat × Nat} (h : 1 ≤ p.2) (a : L) : (adv p a).2 ≤ p.2 + a.length := by
  induction a generalizing p with
  | nil => exact Nat.le_refl _
  | cons c r ih =>
    show (adv (if c = 10 then (p.1 + 1, 1) else (p.1, p.2 + 1)) r).2 ≤ _
    rw [List.length_cons]
    by_cases e : c = 10
    · rw [if_pos e]
      refine Nat.le_trans (ih (Nat.le_refl _)) ?_
      show 1 + _ ≤ _
      omega
    · rw [if_neg e]
      refine Nat.le_trans (ih (Nat.le_add_left _ _)) ?_
      show p.2 + 1 + _ ≤ _
      omega
theorem c1_ne {c d : Nat} (h : c ≠ d) : C1 c ≠ C1 d := fun e => h (by
  have e1 : S [c] = S [d] := V.str.inj e
  have e2 := S_inj e1
  exact (List.cons.inj e2).1)
/-- the kinds of what may stand here -/
inductive ElK : El → Prop
  | blank : ElK (.gap [32])
  | feed : ElK (.gap [10])
  | comment {c : Nat} {g' : L} : (c = 123 ∨ c = 40) → GapOk (c :: g') → ElK (.gap (c :: g'))
  | word {c : Nat} {w : L} {so : String} {v : V} : isLet c = true → (∀ d ∈ c :: w, isAl d = true) → v = VS ((c :: w).map lo) → (Str.ofString so = if (c :: w).map lo ∈ wordsL then "word" else "name") → ElK (.tok (c :: w) so v)
  | single {c : Nat} : c ∈ sgl → ElK (.tok [c] "sign" (C1 c))
  | other {c : Nat} {w : L} {so : String} {v : V} : isLet c = false → c ≠ 32 → c ≠ 10 → c ∉ sgl → TokOk (c :: w) so v → ElK (.tok (c :: w) so v)
theorem sgl_let : ∀ c ∈ sgl, isLet c = false ∧ c ≠ 32 ∧ c ≠ 10 ∧ c ≠ 123 ∧ c ≠ 40 ∧ isFig c = false ∧ c ≠ 39 := by decide +kernel
theorem pairs_sgl : ∀ u ∈ pairsL, (match u with | c :: _ => decide (c ∉ sgl) | [] => false) = true := by decide +kernel
theorem elk_gap {g : L} (h : GapOk g) : ElK (.gap g) := by
  have h0 := h
  rcases h with rfl | rfl | ⟨o, i, ho, rfl, hi⟩
  · exact .blank
  · exact .feed
  · rcases ho with rfl | rfl
    · exact .comment (.inl rfl) h0
    · exact .comment (.inr rfl) h0
theorem elk_tok {u : L} {so : String} {v : V} (h : TokOk u so v) : ElK (.tok u so v) := by
  have h0 := h
  cases h with
  | @word _ c w' e hl hall hw =>
    subst e
    exact .word hl hall rfl (by rw [if_pos hw])
  | @name _ c w' e hl hall hw =>
    subst e
    exact .word hl hall rfl (by rw [if_neg hw])
  | @num _ m k eu hm hk =>
    cases u with
    | nil => exact absurd (List.append_eq_nil_iff.mp eu.symm).2 (TL.numL_ne m)
    | cons c w' =>
      have hf := num_figs k m c (by rw [← eu]; exact List.mem_cons_self)
      have := fig_not hf
      exact .other (fig_let hf) this.1 this.2.1 (fun e => by rw [(sgl_let c e).2.2.2.2.2.1] at hf; cases hf) h0
  | @str _ x eu hx h10 =>
    subst eu
    exact .other (by decide) (by decide) (by decide) (by decide +kernel) h0
  | @one c hc =>
    have := single_not c hc
    by_cases hs : c ∈ sgl
    · exact .single hs
    · exact .other (single_of c hc).1 this.1 this.2.1 hs h0
  | two hu =>
    obtain ⟨c, d, rfl, h1, h2, h3⟩ := pairs_of u hu
    have := of_decide_eq_true (pairs_not _ hu)
    exact .other h1 this.1 this.2.1 (of_decide_eq_true (pairs_sgl _ hu)) h0
theorem due_len (p : Nat × Nat) (a : List El) : (due p a).length ≤ a.length := by
  induction a generalizing p with
  | nil => exact Nat.zero_le _
  | cons e r ih =>
    cases e with
    | gap g => exact Nat.le_trans (ih _) (Nat.le_succ _)
    | tok u so v => exact Nat.succ_le_succ (ih _)
theorem els_len : ∀ a : List El, ElsOk a → a.length ≤ (flat a).length
  | [], _ => Nat.zero_le _
  | .gap g :: r, h => by
    have := els_len r h.2
    have := gap_pos h.1
    rw [flat_cons, List.length_append, List.length_cons]
    show r.length + 1 ≤ g.length + _
    omega
  | .tok u so v :: r, h => by
    have := els_len r h.2.2
    have := (tok_of h.1 h.2.1).2
    rw [flat_cons, List.length_append, List.length_cons]
    show r.length + 1 ≤ u.length + _
    omega
def rowV (r : Row) : List V := [.str (Str.ofString r.1), r.2.1, .int (r.2.2.1 : Int), .int (r.2.2.2 : Int)]
def RowsAt (H : Hp) (ps : List Addr) (rows : List Row) : Prop := Paired (fun p r => H p = some (.tup (rowV r))) ps rows
theorem rows_keep {H H' : Hp} {ps : List Addr} {rows : List Row} (h : RowsAt H ps rows) (k : ∀ (b : Addr) z, H b = some (.tup z) → H' b = some (.tup z)) : RowsAt H' ps rows := by
  induction h with
  | nil => exact .nil
  | cons h1 _ ih => exact .cons (k _ _ h1) ih
section
variable {P : Program} {w : World} {K : PySem.W.Frag} {mg : Str → Option Value} {base : Heap} {aW aL : Addr}
def spTokens : Sp := fun vs H Q _ => ∃ els, vs = [VS (flat els)] ∧ ElsOk els ∧ (flat els).length ≤ big ∧
  ∀ H' p ps, Same H H' → H p = none → H' p = some (.tup (ps.map V.ref)) → RowsAt H' ps (due (1, 1) els) → Q (.ref p) H'
theorem sc_tokens : FnScope ["text", "found", "at", "line", "line_begin", "many", "sign", "end", "told", "sort"] ["text"] (C8.fnScope sTokens) := C8.fnScope_by (by decide +kernel)
theorem ok_tokens (nm : Nm w K mg aW aL) {f : Addr} {fd : FuncData} (D : C8.Def K mg "tokens" sTokens f fd)
    (c_gap_end : Cg P w K mg base 2 "gap_end" spGapEnd) (c_token_at : Cg P w K mg base 3 "token_at" spTokenAt) : Fg P w K mg base 4 f fd ["text"] spTokens := by
  refine g0 D.fn sc_tokens (fun vs H Q E h => ?_) (fun cdv A outer s H vs Q E hr gg h => ?_)
  · obtain ⟨els, rfl, _⟩ := h
    rfl
  · obtain ⟨els, rfl, ok, hb, q⟩ := h
    have nd := sc_tokens.nd
    refine ⟨_, (pss_cons (ps_if (pt_not (pt_val (pe_callB call_isiS (by rfl) nm.m_isinstance (by decide +kernel) (pa_cons (pv 0) (pa_cons (pe_bltn (v := .ty "str") (by rfl) nm.m_str boot_str rfl) pa_nil)))))
    (pss_one ps_never) pss_nil)
  (pss_cons (ps_set (i := 1) nd rfl (.inl rfl) (pe_lst pa_nil))
  (pss_cons (ps_set (i := 2) nd rfl (.inl rfl) pe_int)
  (pss_cons (ps_set (i := 3) nd rfl (.inl rfl) pe_int)
  (pss_cons (ps_set (i := 4) nd rfl (.inl rfl) pe_int)
  (pss_cons (ps_set (i := 5) nd rfl (.inl rfl) (pe_callB call_lenS (by rfl) nm.m_len (by decide +kernel) (pa_cons (pv 0) pa_nil)))
  (pss_cons (ps_while PassesOwn.never (pt_cl (pt_cmpR op_lt (pv 2) (pv 5) (nomark _)))
    (pss_cons (ps_set (i := 6) nd rfl (.inl rfl) (pe_ch (pv 0) (pv 2) (fun _ _ => rfl)))
  (pss_one (ps_if (pt_cmpR op_eq (pv 6) pe_str (nomark _))
    (pss_one (ps_aug (i := 2) nd rfl (.inl rfl) pe_int ip_add)) (pss_one (ps_if (pt_cmpR op_inS1 (pv 6) (C8.pe_gc (by rfl) nm.g_LETTERS) (by rfl))
    (pss_cons (ps_set (i := 7) nd rfl (.inl rfl) (pe_op op_add (pv 2) pe_int))
  (pss_cons (ps_while PassesOwn.never (pt_cl (pw_and (pt_cmpR op_lt (pv 7) (pv 5) (nomark _)) (pw_and1 (pt_cmpR op_inS1 (pe_ch (pv 0) (pv 7) (fun _ _ => rfl)) (C8.pe_gc (by rfl) nm.g_NAME_SIGNS) (by rfl)))).pt)
    (pss_one (ps_aug (i := 7) nd rfl (.inl rfl) pe_int ip_add)))
  (pss_cons (ps_set (i := 8) nd rfl (.inl rfl) (pe_bm0 PySem.F.plainAttrs_str PySem.F.slot_str_lower PySem.F.type_str_lower mt_lowerS (pe_slice sl_nat (pv 0) (po_some (pv 2)) (po_some (pv 7)))))
  (pss_cons (ps_expr (pe_bm PySem.F.plainAttrs_list PySem.F.slot_list_append PySem.F.type_list_append mt_append (pv 1) (pa_cons (pe_tup (pa_cons (pe_ifExp (pt_cmpR op_inDic (pv 8) (C8.pe_gc (by rfl) nm.g_WORDS) (by rfl)) pe_str pe_str) (pa_cons (pv 8) (pa_cons (pv 3) (pa_cons (pe_op op_add (pe_op op_sub (pv 2) (pv 4)) pe_int) pa_nil))))) pa_nil)))
  (pss_one (ps_set (i := 2) nd rfl (.inl rfl) (pv 7))))))) (pss_one (ps_if (pt_cmpR op_inS1 (pv 6) (C8.pe_gc (by rfl) nm.g_SINGLE_SIGNS) (by rfl))
    (pss_cons (ps_expr (pe_bm PySem.F.plainAttrs_list PySem.F.slot_list_append PySem.F.type_list_append mt_append (pv 1) (pa_cons (pe_tup (pa_cons pe_str (pa_cons (pv 6) (pa_cons (pv 3) (pa_cons (pe_op op_add (pe_op op_sub (pv 2) (pv 4)) pe_int) pa_nil))))) pa_nil)))
  (pss_one (ps_aug (i := 2) nd rfl (.inl rfl) pe_int ip_add))) (pss_one (ps_if (pt_cmpR op_eq (pv 6) pe_str (nomark _))
    (pss_cons (ps_aug (i := 2) nd rfl (.inl rfl) pe_int ip_add)
  (pss_cons (ps_aug (i := 3) nd rfl (.inl rfl) pe_int ip_add)
  (pss_one (ps_set (i := 4) nd rfl (.inl rfl) (pv 2))))) (pss_cons (ps_set (i := 7) nd rfl (.inl rfl) (pe_g c_gap_end hr (by decide) gg (by rfl) (pa_cons (pv 0) (pa_cons (pv 2) pa_nil))))
  (pss_cons (ps_if (pt_cmpR op_gt (pv 7) (pv 2) (nomark _))
    (pss_cons (ps_aug (i := 3) nd rfl (.inl rfl) (pe_bm PySem.F.plainAttrs_str PySem.F.slot_str_count PySem.F.type_str_count mt_countN (pv 0) (pa_cons pe_str (pa_cons (pv 2) (pa_cons (pv 7) pa_nil)))) ip_add)
  (pss_one (ps_set (i := 4) nd rfl (.inl rfl) (pe_callB (call_max2 rfl) (by rfl) nm.m_max (by decide +kernel) (pa_cons (pv 4) (pa_cons (pe_op op_add (pe_bm PySem.F.plainAttrs_str PySem.F.slot_str_rfind PySem.F.type_str_rfind mt_rfindM (pv 0) (pa_cons pe_str (pa_cons (pv 2) (pa_cons (pv 7) pa_nil)))) pe_int) pa_nil)))))) (pss_cons (ps_asg (pe_g c_token_at hr (by decide) gg (by rfl) (pa_cons (pv 0) (pa_cons (pv 2) pa_nil))) (pg_tup rfl (pgs_cons (pg_name (i := 9) nd rfl (.inl rfl)) (pgs_cons (pg_name (i := 8) nd rfl (.inl rfl)) (pgs_cons (pg_name (i := 7) nd rfl (.inl rfl)) pgs_nil)))))
  (pss_cons (ps_if (pt_cmpR op_eq (pv 7) (pv 2) (nomark _))
    (pss_one ps_never) pss_nil)
  (pss_one (ps_expr (pe_bm PySem.F.plainAttrs_list PySem.F.slot_list_append PySem.F.type_list_append mt_append (pv 1) (pa_cons (pe_tup (pa_cons (pv 9) (pa_cons (pv 8) (pa_cons (pv 3) (pa_cons (pe_op op_add (pe_op op_sub (pv 2) (pv 4)) pe_int) pa_nil))))) pa_nil)))))))
  (pss_one (ps_set (i := 2) nd rfl (.inl rfl) (pv 7)))))))))))))))
  (pss_one (ps_ret (pe_callTy call_tuple_of (by rfl) nm.m_tuple (by decide +kernel) (pa_cons (pv 1) pa_nil))))))))))), ?_⟩
    rw [show start ["text", "found", "at", "line", "line_begin", "many", "sign", "end", "told", "sort"] [VS (flat els)] = [some (VS (flat els)), none, none, none, none, none, none, none, none, none] from rfl]
    refine ⟨_, rfl, _, rfl, true, rfl, ?_⟩
    show tNext _ _ _
    refine ⟨Nat.zero_le _, fun o no => ?_⟩
    refine ⟨_, rfl, _, rfl, hb, ?_⟩
    refine while_g (fun σ H' => ∃ (a b : List El) (ps : List Addr) (x5 x6 x7 x8 : Option V), els = a ++ b ∧ ElsOk b ∧ Same H H' ∧ H' o = some (.lst (ps.map V.ref)) ∧ RowsAt H' ps (due (1, 1) a) ∧
      σ = [some (VS (flat els)), some (.ref o), some (.int ((flat a).length : Int)), some (.int ((adv (1, 1) (flat a)).1 : Int)), some (.int (((flat a).length : Int) + 1 - ((adv (1, 1) (flat a)).2 : Int))), some (.int ((flat els).length : Int)), x5, x6, x7, x8])
      (fun σ _ => (flat els).length - slotI σ 2) ⟨[], els, [], none, none, none, none, rfl, ok, same_new no, upd_same, .nil, rfl⟩ ?_
    rintro σ H' ⟨a, b, ps, x5, x6, x7, x8, eab, okb, sm, ho, hrows, rfl⟩
    have big_e : big = 1000000 := rfl
    have lall : (flat els).length = (flat a).length + (flat b).length := by rw [eab, flat_app, List.length_append]
    rcases b with _ | ⟨e, b⟩
    · -- the end
      rw [List.append_nil] at eab
      refine ⟨_, rfl, _, rfl, _, _, rfl, rfl, _, rfl, ?_⟩
      rw [decide_eq_false (by rw [eab]; omega)]
      refine ⟨_, rfl, o, _, rfl, .inl ⟨.inl (.inl ho), fun p np => ?_⟩⟩
      have np0 : H p = none := by
        cases hp : H p with
        | none => rfl
        | some z =>
          rw [sm p z hp] at np
          cases np
      refine q _ p ps (fun b' z ez => ?_) np0 upd_same ?_
      · rw [upd_ne (ne_of_none (sm _ _ ez) np)]
        exact sm _ _ ez
      · rw [eab]
        exact rows_keep hrows fun b' z ez => by rw [upd_ne (ne_of_none ez np)]; exact ez
    · have lb : (flat (e :: b)).length = e.txt.length + (flat b).length := by rw [flat_cons, List.length_append]
      have fa2 : flat (a ++ [e]) = flat a ++ e.txt := by
        rw [flat_app]
        show flat a ++ (e.txt ++ []) = _
        rw [List.append_nil]
      have hadv : adv (1, 1) (flat (a ++ [e])) = adv (adv (1, 1) (flat a)) e.txt := by rw [fa2, adv_app]
      have eab2 : els = (a ++ [e]) ++ b := by rw [eab]; simp
      have okb2 : ElsOk b := by
        cases e with
        | gap g => exact okb.2
        | tok u so v => exact okb.2.2
      have ek : ElK e := by
        cases e with
        | gap g => exact elk_gap okb.1
        | tok u so v => exact elk_tok okb.1
      have col1 : 1 ≤ (adv (1, 1) (flat a)).2 := adv_pos (Nat.le_refl 1) _
      have col2 : (adv (1, 1) (flat a)).2 ≤ 1 + (flat a).length := adv_col (Nat.le_refl 1) _
      have epos : 1 ≤ e.txt.length := by
        cases e with
        | gap g => exact gap_pos okb.1
        | tok u so v => exact (tok_of okb.1 okb.2.1).2
      have at0 : At (flat els) (flat a).length e.txt (flat b) := ⟨by rw [eab, flat_app, List.drop_left' rfl, flat_cons], by omega⟩
      have szl : (ps.map V.ref).length < sizeLine := by
        rw [List.length_map, hrows.length]
        have h1 := due_len (1, 1) a
        have h2 := els_len els ok
        have h3 : a.length ≤ els.length := by rw [eab, List.length_append]; omega
        exact Nat.lt_of_le_of_lt (show _ ≤ 1000000 by omega) (by decide)
      have feeds : due (1, 1) (a ++ [e]) = due (1, 1) a ++ due (adv (1, 1) (flat a)) [e] := due_app _ _ _
      /- what the loop wants behind a turn -/
      have turn : ∀ (H2 : Hp) (ps2 : List Addr) (y5 y6 y7 y8 : Option V) (n2 l2 b2 : Int), Same H H2 → H2 o = some (.lst (ps2.map V.ref)) → RowsAt H2 ps2 (due (1, 1) (a ++ [e])) →
          1 ≤ e.txt.length → n2 = ((flat a).length : Int) + e.txt.length → l2 = ((adv (1, 1) (flat (a ++ [e]))).1 : Int) → b2 = n2 + 1 - ((adv (1, 1) (flat (a ++ [e]))).2 : Int) →
          (∃ (a b : List El) (ps : List Addr) (x5 x6 x7 x8 : Option V), els = a ++ b ∧ ElsOk b ∧ Same H H2 ∧ H2 o = some (.lst (ps.map V.ref)) ∧ RowsAt H2 ps (due (1, 1) a) ∧
            [some (VS (flat els)), some (V.ref o), some (V.int n2), some (V.int l2), some (V.int b2), some (V.int ((flat els).length : Int)), y5, y6, y7, y8] = [some (VS (flat els)), some (.ref o), some (.int ((flat a).length : Int)), some (.int ((adv (1, 1) (flat a)).1 : Int)), some (.int (((flat a).length : Int) + 1 - ((adv (1, 1) (flat a)).2 : Int))), some (.int ((flat els).length : Int)), x5, x6, x7, x8]) ∧
          (flat els).length - slotI [some (VS (flat els)), some (V.ref o), some (V.int n2), some (V.int l2), some (V.int b2), some (V.int ((flat els).length : Int)), y5, y6, y7, y8] 2 < (flat els).length - slotI [some (VS (flat els)), some (.ref o), some (.int ((flat a).length : Int)), some (.int ((adv (1, 1) (flat a)).1 : Int)), some (.int (((flat a).length : Int) + 1 - ((adv (1, 1) (flat a)).2 : Int))), some (.int ((flat els).length : Int)), x5, x6, x7, x8] 2 := by
        intro H2 ps2 y5 y6 y7 y8 n2 l2 b2 sm2 ho2 hrows2 hpos en el eb
        have en' : n2 = ((flat (a ++ [e])).length : Int) := by rw [en, fa2, List.length_append]; rfl
        subst el
        subst eb
        subst en'
        refine ⟨⟨a ++ [e], b, ps2, y5, y6, y7, y8, eab2, okb2, sm2, ho2, hrows2, rfl⟩, ?_⟩
        show (flat els).length - ((flat (a ++ [e])).length : Int).toNat < (flat els).length - ((flat a).length : Int).toNat
        rw [Int.toNat_natCast, Int.toNat_natCast]
        rw [lall, lb]
        rw [fa2, List.length_append]
        omega
      refine ⟨_, rfl, _, rfl, _, _, rfl, rfl, _, rfl, ?_⟩
      rw [decide_eq_true (show ((flat a).length : Int) < ((flat els).length : Int) by omega)]
      have el_else : ∀ c w', e.txt = c :: w' → c ≠ 32 → c ≠ 10 → isLet c = false → (flat els)[(flat a).length]? = some c ∧ C1 c ≠ V.str (Str.ofString " ") ∧ C1 c ≠ V.str (Str.ofString "\n") ∧ c ∉ let52 ∧ (flat els)[(flat a).length]? ≠ some 32 ∧ (flat els)[(flat a).length]? ≠ some 10 := by
        intro c w' ew n32 n10 hl
        have hc : (flat els)[(flat a).length]? = some c := by
          have h := at0.get 0 (by rw [ew]; simp)
          rw [Nat.add_zero] at h
          rw [h]
          simp only [ew]
          rfl
        refine ⟨hc, by rw [s_sp]; exact c1_ne n32, by rw [s_nl]; exact c1_ne n10, ?_, ?_, ?_⟩
        · rw [let52_iff, hl]
          exact Bool.false_ne_true
        · rw [hc]
          exact fun x => n32 (Option.some.inj x)
        · rw [hc]
          exact fun x => n10 (Option.some.inj x)
      cases ek with
      | blank =>
        have hc := at0.get 0 (by decide)
        refine ⟨_, rfl, _, rfl, flat els, _, 32, rfl, rfl, hb, hc, ?_⟩
        refine ⟨_, rfl, rfl, _, rfl, ?_⟩
        rw [decide_eq_true (show C1 32 = V.str (Str.ofString " ") from congrArg V.str s_sp.symm)]
        refine ⟨_, rfl, _, _, rfl, rfl, ?_⟩
        refine turn H' ps _ _ _ _ _ _ _ sm ho ?_ (Nat.le_refl 1) rfl ?_ ?_
        · rw [feeds]
          show RowsAt H' ps (due (1, 1) a ++ [])
          rw [List.append_nil]
          exact hrows
        · rw [hadv]
          rfl
        · rw [hadv]
          show _ = ((flat a).length : Int) + 1 + 1 - (((adv (1, 1) (flat a)).2 + 1 : Nat) : Int)
          omega
      | feed =>
        have hc := at0.get 0 (by decide)
        refine ⟨_, rfl, _, rfl, flat els, _, 10, rfl, rfl, hb, hc, ?_⟩
        refine ⟨_, rfl, rfl, _, rfl, ?_⟩
        rw [decide_eq_false (show ¬ C1 10 = V.str (Str.ofString " ") from by rw [s_sp]; exact c1_ne (by decide))]
        refine ⟨_, rfl, 10, let52, rfl, rfl, _, rfl, ?_⟩
        rw [decide_eq_false (show ¬ 10 ∈ let52 by rw [let52_iff]; decide)]
        refine ⟨_, rfl, 10, sgl, rfl, rfl, _, rfl, ?_⟩
        rw [decide_eq_false (show ¬ 10 ∈ sgl from fun e => (sgl_let 10 e).2.2.1 rfl)]
        refine ⟨_, rfl, rfl, _, rfl, ?_⟩
        rw [decide_eq_true (show C1 10 = V.str (Str.ofString "\n") from congrArg V.str s_nl.symm)]
        refine ⟨_, rfl, _, _, rfl, rfl, _, rfl, _, _, rfl, rfl, _, rfl, ?_⟩
        refine turn H' ps _ _ _ _ _ _ _ sm ho ?_ (Nat.le_refl 1) rfl ?_ ?_
        · rw [feeds]
          show RowsAt H' ps (due (1, 1) a ++ [])
          rw [List.append_nil]
          exact hrows
        · rw [hadv]
          rfl
        · rw [hadv]
          show ((flat a).length : Int) + 1 = ((flat a).length : Int) + 1 + 1 - ((1 : Nat) : Int)
          omega
      | @comment c g' hc0 hg =>
        have hcs : c ≠ 32 ∧ c ≠ 10 ∧ isLet c = false := by
          rcases hc0 with rfl | rfl <;> decide
        have ts : c ∉ sgl := fun e => by
          have := sgl_let c e
          rcases hc0 with h | h
          · exact this.2.2.2.1 h
          · exact this.2.2.2.2.1 h
        obtain ⟨hc, t1, t2, t3, n32, n10⟩ := el_else c g' rfl hcs.1 hcs.2.1 hcs.2.2
        refine ⟨_, rfl, _, rfl, flat els, _, c, rfl, rfl, hb, hc, ?_⟩
        refine ⟨_, rfl, rfl, _, rfl, ?_⟩
        rw [decide_eq_false t1]
        refine ⟨_, rfl, c, let52, rfl, rfl, _, rfl, ?_⟩
        rw [decide_eq_false t3]
        refine ⟨_, rfl, c, sgl, rfl, rfl, _, rfl, ?_⟩
        rw [decide_eq_false ts]
        refine ⟨_, rfl, rfl, _, rfl, ?_⟩
        rw [decide_eq_false t2]
        have hgap : gapN ((flat els).drop (flat a).length) = some (c :: g').length := by
          rw [at0.eq]
          exact gap_of hg _
        refine ⟨_, rfl, _, rfl, flat els, _, _, rfl, by omega, hb, n32, n10, hgap, ?_⟩
        simp only [tRet, tRetN, tOrV, tAndV, tNotV, tChain, tVar, tC, rI0, rI, tOp, tUn, rU, tCons, tNil, tCB, tTup, tLst, tSeq, tNext, tIfS, tTest, tAnd, tOr, tNot, tB, tSl, tPart, tBM, tBM0, tCall, rEq, rNe, scal, gName, tAsg, tAug, ipI, tIf, tDrop, C8.rSlX, List.getElem?_cons_zero, List.getElem?_cons_succ, Option.some.injEq, V.str.injEq, V.int.injEq, V.bl.injEq, V.ref.injEq, exists_eq_left, exists_eq_left', exists_eq_right, exists_eq_right', exists_and_left, exists_and_right, exists_eq, true_and, and_true, List.set_cons_zero, List.set_cons_succ, List.append_nil, List.nil_append, List.cons_append, List.cons.injEq, reduceIte, Bool.false_eq_true, if_true, if_false, decide_eq_true_eq, lt1, Nat.add_sub_cancel_left, decide_not, Bool.not_eq_true', Bool.not_true, Bool.not_false, decide_eq_false_iff_not, Nat.not_lt, Nat.not_le, tCh, rSlN, rInTS, S_eq, n1, n2, nn, nl, nle, ty_s, slotI, wipe, List.map_cons, List.map_nil, Int.toNat_natCast, s_nl]
        rw [if_pos (by simp)]
        have tk : ((flat els).drop (flat a).length).take ((flat a).length + (c :: g').length - (flat a).length) = c :: g' := at0.take
        have lc : (c :: g').length = (El.gap (c :: g')).txt.length := rfl
        refine ⟨_, _, ⟨rfl, rfl⟩, by omega, by omega, _, _, ⟨rfl, rfl⟩, by omega, by omega, ?_⟩
        have hrows2 : RowsAt H' ps (due (1, 1) (a ++ [El.gap (c :: g')])) := by
          rw [feeds]
          show RowsAt H' ps (due (1, 1) a ++ [])
          rw [List.append_nil]
          exact hrows
        have hlen2 : (flat a).length + (c :: g').length = (flat (a ++ [El.gap (c :: g')])).length := by
          rw [fa2, List.length_append]
          rfl
        have hadv2 : adv (1, 1) (flat (a ++ [El.gap (c :: g')])) = adv (adv (1, 1) (flat a)) (c :: g') := hadv
        by_cases hf : 10 ∈ c :: g'
        · obtain ⟨x, y, exy, hy⟩ := last_feed hf
          have e2 : adv (1, 1) (flat (a ++ [El.gap (c :: g')])) = ((adv (1, 1) (flat a)).1 + x.count 10 + 1, 1 + y.length) := by rw [hadv2, exy, adv_last _ _ _ hy]
          have ec : (c :: g').count 10 = x.count 10 + 1 := by
            rw [exy, List.count_append, List.count_cons, List.count_eq_zero.mpr hy]
            rfl
          have el : (c :: g').length = x.length + (y.length + 1) := by rw [exy, List.length_append, List.length_cons]
          refine ⟨_, .inl ⟨x, y, by rw [tk]; exact exy, hy, rfl⟩, _, _, ⟨rfl, rfl⟩, ⟨a ++ [El.gap (c :: g')], b, eab2, okb2, sm, ps, ho, hrows2, hlen2, ?_, ?_⟩, by omega⟩
          · rw [tk, ec, e2]
            show ((_ : Nat) : Int) + ((_ : Nat) : Int) = ((_ : Nat) : Int)
            omega
          · rw [if_pos (by omega), ← hlen2, e2]
            show ((_ : Nat) : Int) + 1 = ((_ : Nat) : Int) - ((1 + y.length : Nat) : Int)
            omega
        · have hcount : (c :: g').count 10 = 0 := List.count_eq_zero.mpr hf
          refine ⟨_, .inr ⟨by rw [tk]; exact hf, rfl⟩, _, _, ⟨rfl, rfl⟩, ⟨a ++ [El.gap (c :: g')], b, eab2, okb2, sm, ps, ho, hrows2, hlen2, ?_, ?_⟩, by omega⟩
          · rw [tk, hcount, hadv2, adv_free hf]
            show ((_ : Nat) : Int) + ((0 : Nat) : Int) = ((_ : Nat) : Int)
            omega
          · rw [if_neg (by omega), ← hlen2, hadv2, adv_free hf]
            show _ = ((_ : Nat) : Int) - (((adv (1, 1) (flat a)).2 + (c :: g').length : Nat) : Int)
            omega
      | @word c w' so v hl hall hv hso =>
        have hc : (flat els)[(flat a).length]? = some c := at0.get 0 epos
        have n0 : c ≠ 32 ∧ c ≠ 10 := ⟨(let_not hl).1, (let_not hl).2.1⟩
        refine ⟨_, rfl, _, rfl, flat els, _, c, rfl, rfl, hb, hc, ?_⟩
        refine ⟨_, rfl, rfl, _, rfl, ?_⟩
        rw [decide_eq_false (show ¬ C1 c = V.str (Str.ofString " ") from by rw [s_sp]; exact c1_ne n0.1)]
        refine ⟨_, rfl, c, let52, rfl, rfl, _, rfl, ?_⟩
        rw [decide_eq_true ((let52_iff c).mpr hl)]
        refine ⟨_, rfl, _, _, rfl, rfl, ?_⟩
        have at1 : At (flat els) (flat a).length (c :: w') (flat b) := at0
        have len := at1.len
        refine while_g (fun σ2 H2 => ∃ i, 1 ≤ i ∧ i ≤ (c :: w').length ∧ σ2 = [some (VS (flat els)), some (.ref o), some (.int ((flat a).length : Int)), some (.int ((adv (1, 1) (flat a)).1 : Int)), some (.int (((flat a).length : Int) + 1 - ((adv (1, 1) (flat a)).2 : Int))), some (.int ((flat els).length : Int)), some (C1 c), some (.int (((flat a).length + i : Nat) : Int)), x7, x8] ∧ H2 = H') (fun σ _ => (flat els).length - slotI σ 7) ⟨1, Nat.le_refl 1, by simp, rfl, rfl⟩ ?_
        rintro σ2 H2 ⟨i, hi1, hi2, rfl, rfl⟩
        subst hv
        simp only [tRet, tRetN, tOrV, tAndV, tNotV, tChain, tVar, tC, rI0, rI, tOp, tUn, rU, tCons, tNil, tCB, tTup, tLst, tSeq, tNext, tIfS, tTest, tAnd, tOr, tNot, tB, tSl, tPart, tBM, tBM0, tCall, rEq, rNe, scal, gName, tAsg, tAug, ipI, tIf, tDrop, C8.rSlX, List.getElem?_cons_zero, List.getElem?_cons_succ, Option.some.injEq, V.str.injEq, V.int.injEq, V.bl.injEq, V.ref.injEq, exists_eq_left, exists_eq_left', exists_eq_right, exists_eq_right', exists_and_left, exists_and_right, exists_eq, true_and, and_true, List.set_cons_zero, List.set_cons_succ, List.append_nil, List.nil_append, List.cons_append, List.cons.injEq, reduceIte, Bool.false_eq_true, if_true, if_false, decide_eq_true_eq, lt1, Nat.add_sub_cancel_left, decide_not, Bool.not_eq_true', Bool.not_true, Bool.not_false, decide_eq_false_iff_not, Nat.not_lt, Nat.not_le, tCh, rSlN, rInTS, S_eq, n1, n2, nn, nl, nle, ty_s, slotI, wipe, List.map_cons, List.map_nil, Int.toNat_natCast, hb]
        by_cases h : i < (c :: w').length
        · rw [if_pos (by omega)]
          refine ⟨_, at1.get i h, ?_⟩
          rw [if_pos ((al62_iff _).mpr (hall _ (List.getElem_mem h)))]
          exact ⟨⟨i + 1, by omega, h, rfl⟩, by omega⟩
        · have ei : i = (c :: w').length := by omega
          subst ei
          have hx := at1.next
          have tk := at1.take
          rw [Nat.add_sub_cancel_left] at tk
          have fol := okb.2.1
          have hul : (c :: w').length ≤ big := by omega
          have hasc := al_asc hall
          have hfree : 10 ∉ c :: w' := all_free (P := isAl) (by decide) hall
          have hadv2 : adv (1, 1) (flat (a ++ [El.tok (c :: w') so (VS ((c :: w').map lo))])) = adv (adv (1, 1) (flat a)) (c :: w') := hadv
          have hlen2 : (flat a).length + (c :: w').length = (flat (a ++ [El.tok (c :: w') so (VS ((c :: w').map lo))])).length := by
            rw [fa2, List.length_append]
            rfl
          have lc : (c :: w').length = (El.tok (c :: w') so (VS ((c :: w').map lo))).txt.length := rfl
          cases hfb : flat b with
          | nil => ?_
          | cons d r => ?_
          case' nil =>
            rw [hfb] at len
            rw [if_neg (by rw [len]; simp)]
          case' cons =>
            rw [hfb] at len hx
            have h2 := fol d (by rw [hfb]; rfl)
            have h3 : (if isLet c = true then isAl d = false else if isFig c = true then isFig d = false else if c = 39 then d ≠ 39 else _) := h2
            rw [if_pos hl] at h3
            rw [if_pos (by rw [len]; simp)]
            refine ⟨d, hx, ?_⟩
            rw [if_neg (by rw [al62_iff, h3]; exact Bool.false_ne_true)]
          all_goals
            rw [tk]
            refine ⟨hasc, hul, .inl ⟨rfl, _, .inl (.inl ho)⟩, wordsL, nm.t_WORDS, ?_⟩
            by_cases hw : (c :: w').map lo ∈ wordsL
          all_goals
            first
              | rw [if_pos hw] at hso ⊢
              | rw [if_neg hw] at hso ⊢
            rw [← hso]
            refine ⟨by show 4 ≤ sizeLine; decide, fun p2 np2 => ?_⟩
            have no2 : o ≠ p2 := ne_of_none ho np2
            refine ⟨o, _, _, rfl, rfl, by rw [upd_ne no2]; exact ho, szl, ?_⟩
            refine ⟨⟨a ++ [El.tok (c :: w') so (VS ((c :: w').map lo))], b, eab2, okb2, ?_, ps ++ [p2], ?_, ?_, hlen2, ?_, ?_⟩, by omega⟩
            · intro b' z ez
              rw [upd_ne (ne_of_none ez no), upd_ne (ne_of_none (sm _ _ ez) np2)]
              exact sm _ _ ez
            · rw [upd_same, List.map_append]
              rfl
            · rw [feeds]
              refine Paired.snoc (rows_keep hrows fun b' z ez => ?_) ?_
              · rw [upd_ne (ne_of ez ho (fun x => by cases x)), upd_ne (ne_of_none ez np2)]
                exact ez
              · rw [upd_ne no2.symm, upd_same]
                have ec : (((flat a).length : Int) - (((flat a).length + 1 : Nat) - ((adv (1, 1) (flat a)).2 : Int)) + 1) = ((adv (1, 1) (flat a)).2 : Int) := by omega
                rw [ec]
                rfl
            · rw [hadv2, adv_free hfree]
            · rw [← hlen2, hadv2, adv_free hfree]
              show ((_ : Nat) : Int) - _ = ((_ : Nat) : Int) - (((adv (1, 1) (flat a)).2 + (c :: w').length : Nat) : Int)
              omega
      | @single c hs =>
        have hl := (sgl_let c hs).1
        obtain ⟨hc, t1, t2, t3, m32, m10⟩ := el_else c [] rfl (sgl_let c hs).2.1 (sgl_let c hs).2.2.1 hl
        refine ⟨_, rfl, _, rfl, flat els, _, c, rfl, rfl, hb, hc, ?_⟩
        refine ⟨_, rfl, rfl, _, rfl, ?_⟩
        rw [decide_eq_false t1]
        refine ⟨_, rfl, c, let52, rfl, rfl, _, rfl, ?_⟩
        rw [decide_eq_false t3]
        refine ⟨_, rfl, c, sgl, rfl, rfl, _, rfl, ?_⟩
        rw [decide_eq_true hs]
        have hadv2 : adv (1, 1) (flat (a ++ [El.tok [c] "sign" (C1 c)])) = adv (adv (1, 1) (flat a)) [c] := hadv
        have hlen2 : (flat a).length + [c].length = (flat (a ++ [El.tok [c] "sign" (C1 c)])).length := by
          rw [fa2, List.length_append]
          rfl
        have lc : [c].length = (El.tok [c] "sign" (C1 c)).txt.length := rfl
        have hfree : 10 ∉ [c] := fun e => (sgl_let c hs).2.2.1 (List.mem_singleton.mp e).symm
        have lc1 : [c].length = 1 := rfl
        simp only [tRet, tRetN, tOrV, tAndV, tNotV, tChain, tVar, tC, rI0, rI, tOp, tUn, rU, tCons, tNil, tCB, tTup, tLst, tSeq, tNext, tIfS, tTest, tAnd, tOr, tNot, tB, tSl, tPart, tBM, tBM0, tCall, rEq, rNe, scal, gName, tAsg, tAug, ipI, tIf, tDrop, C8.rSlX, List.getElem?_cons_zero, List.getElem?_cons_succ, Option.some.injEq, V.str.injEq, V.int.injEq, V.bl.injEq, V.ref.injEq, exists_eq_left, exists_eq_left', exists_eq_right, exists_eq_right', exists_and_left, exists_and_right, exists_eq, true_and, and_true, List.set_cons_zero, List.set_cons_succ, List.append_nil, List.nil_append, List.cons_append, List.cons.injEq, reduceIte, Bool.false_eq_true, if_true, if_false, decide_eq_true_eq, lt1, Nat.add_sub_cancel_left, decide_not, Bool.not_eq_true', Bool.not_true, Bool.not_false, decide_eq_false_iff_not, Nat.not_lt, Nat.not_le, tCh, rSlN, rInTS, S_eq, n1, n2, nn, nl, nle, ty_s, slotI, wipe, List.map_cons, List.map_nil, Int.toNat_natCast]
        refine ⟨.inl ⟨rfl, _, .inl (.inl ho)⟩, by show 4 ≤ sizeLine; decide, fun p2 np2 => ?_⟩
        have no2 : o ≠ p2 := ne_of_none ho np2
        refine ⟨o, _, _, rfl, rfl, by rw [upd_ne no2]; exact ho, szl, ?_⟩
        refine ⟨⟨a ++ [El.tok [c] "sign" (C1 c)], b, eab2, okb2, ?_, ps ++ [p2], ?_, ?_, by rw [← hlen2]; rfl, ?_, ?_⟩, by omega⟩
        · intro b' z ez
          rw [upd_ne (ne_of_none ez no), upd_ne (ne_of_none (sm _ _ ez) np2)]
          exact sm _ _ ez
        · rw [upd_same, List.map_append]
          rfl
        · rw [feeds]
          refine Paired.snoc (rows_keep hrows fun b' z ez => ?_) ?_
          · rw [upd_ne (ne_of ez ho (fun x => by cases x)), upd_ne (ne_of_none ez np2)]
            exact ez
          · rw [upd_ne no2.symm, upd_same]
            have ec : (((flat a).length : Int) - (((flat a).length + 1 : Nat) - ((adv (1, 1) (flat a)).2 : Int)) + 1) = ((adv (1, 1) (flat a)).2 : Int) := by omega
            rw [ec]
            rfl
        · rw [hadv2, adv_free hfree]
        · rw [← hlen2, hadv2, adv_free hfree]
          show ((_ : Nat) : Int) - _ = ((_ : Nat) : Int) - (((adv (1, 1) (flat a)).2 + [c].length : Nat) : Int)
          omega
      | @other c w' so v hl n32 n10 ts tk =>
        obtain ⟨hc, t1, t2, t3, m32, m10⟩ := el_else c w' rfl n32 n10 hl
        refine ⟨_, rfl, _, rfl, flat els, _, c, rfl, rfl, hb, hc, ?_⟩
        refine ⟨_, rfl, rfl, _, rfl, ?_⟩
        rw [decide_eq_false t1]
        refine ⟨_, rfl, c, let52, rfl, rfl, _, rfl, ?_⟩
        rw [decide_eq_false t3]
        refine ⟨_, rfl, c, sgl, rfl, rfl, _, rfl, ?_⟩
        rw [decide_eq_false ts]
        refine ⟨_, rfl, rfl, _, rfl, ?_⟩
        rw [decide_eq_false t2]
        have hgap : gapN ((flat els).drop (flat a).length) = some 0 := by
          rw [at0.eq]
          exact (tok_of okb.1 okb.2.1).1
        refine ⟨_, rfl, _, rfl, flat els, _, _, rfl, by omega, hb, m32, m10, hgap, ?_⟩
        simp only [tRet, tRetN, tOrV, tAndV, tNotV, tChain, tVar, tC, rI0, rI, tOp, tUn, rU, tCons, tNil, tCB, tTup, tLst, tSeq, tNext, tIfS, tTest, tAnd, tOr, tNot, tB, tSl, tPart, tBM, tBM0, tCall, rEq, rNe, scal, gName, tAsg, tAug, ipI, tIf, tDrop, C8.rSlX, List.getElem?_cons_zero, List.getElem?_cons_succ, Option.some.injEq, V.str.injEq, V.int.injEq, V.bl.injEq, V.ref.injEq, exists_eq_left, exists_eq_left', exists_eq_right, exists_eq_right', exists_and_left, exists_and_right, exists_eq, true_and, and_true, List.set_cons_zero, List.set_cons_succ, List.append_nil, List.nil_append, List.cons_append, List.cons.injEq, reduceIte, Bool.false_eq_true, if_true, if_false, decide_eq_true_eq, lt1, Nat.add_sub_cancel_left, decide_not, Bool.not_eq_true', Bool.not_true, Bool.not_false, decide_eq_false_iff_not, Nat.not_lt, Nat.not_le, tCh, rSlN, rInTS, S_eq, n1, n2, nn, nl, nle, ty_s, slotI, wipe, List.map_cons, List.map_nil, Int.toNat_natCast, Nat.add_zero]
        rw [if_neg (Nat.lt_irrefl _)]
        refine ⟨flat els, (flat a).length, c :: w', flat b, so, v, rfl, at0, hb, tk, ?_, okb.2.1, ?_⟩
        · intro c1 w1 e1
          rw [← (List.cons.inj e1).1, hl]
          exact Bool.false_ne_true
        intro H1 p sm1 np1 ep
        have ho1 : H1 o = some (.lst (ps.map V.ref)) := sm1 _ _ ho
        have hrows1 : RowsAt H1 ps (due (1, 1) a) := rows_keep hrows fun b' z ez => sm1 _ _ ez
        refine ⟨p, _, rfl, .inl (.inl ep), rfl, _, _, rfl, _, _, rfl, _, _, rfl, rfl, ?_⟩
        have hadv2 : adv (1, 1) (flat (a ++ [El.tok (c :: w') so v])) = adv (adv (1, 1) (flat a)) (c :: w') := hadv
        have hlen2 : (flat a).length + (c :: w').length = (flat (a ++ [El.tok (c :: w') so v])).length := by
          rw [fa2, List.length_append]
          rfl
        have lc : (c :: w').length = (El.tok (c :: w') so v).txt.length := rfl
        have hfree := tok_free tk
        have hrowlen : 1 ≤ (c :: w').length := epos
        simp only [tRet, tRetN, tOrV, tAndV, tNotV, tChain, tVar, tC, rI0, rI, tOp, tUn, rU, tCons, tNil, tCB, tTup, tLst, tSeq, tNext, tIfS, tTest, tAnd, tOr, tNot, tB, tSl, tPart, tBM, tBM0, tCall, rEq, rNe, scal, gName, tAsg, tAug, ipI, tIf, tDrop, C8.rSlX, List.getElem?_cons_zero, List.getElem?_cons_succ, Option.some.injEq, V.str.injEq, V.int.injEq, V.bl.injEq, V.ref.injEq, exists_eq_left, exists_eq_left', exists_eq_right, exists_eq_right', exists_and_left, exists_and_right, exists_eq, true_and, and_true, List.set_cons_zero, List.set_cons_succ, List.append_nil, List.nil_append, List.cons_append, List.cons.injEq, reduceIte, Bool.false_eq_true, if_true, if_false, decide_eq_true_eq, lt1, Nat.add_sub_cancel_left, decide_not, Bool.not_eq_true', Bool.not_true, Bool.not_false, decide_eq_false_iff_not, Nat.not_lt, Nat.not_le, tCh, rSlN, rInTS, S_eq, n1, n2, nn, nl, nle, ty_s, slotI, wipe, List.map_cons, List.map_nil, Int.toNat_natCast]
        rw [if_neg (by omega)]
        refine ⟨.inl ⟨rfl, _, .inl (.inl ho1)⟩, by show 4 ≤ sizeLine; decide, fun p2 np2 => ?_⟩
        have no2 : o ≠ p2 := ne_of_none ho1 np2
        refine ⟨o, _, _, rfl, rfl, by rw [upd_ne no2]; exact ho1, szl, ?_⟩
        have sm2 : Same H H1 := fun b' z ez => sm1 _ _ (sm _ _ ez)
        refine ⟨⟨a ++ [El.tok (c :: w') so v], b, eab2, okb2, ?_, ps ++ [p2], ?_, ?_, hlen2, ?_, ?_⟩, by omega⟩
        · intro b' z ez
          rw [upd_ne (ne_of_none ez no), upd_ne (ne_of_none (sm2 _ _ ez) np2)]
          exact sm2 _ _ ez
        · rw [upd_same, List.map_append]
          rfl
        · rw [feeds]
          refine Paired.snoc (rows_keep hrows1 fun b' z ez => ?_) ?_
          · rw [upd_ne (ne_of ez ho1 (fun x => by cases x)), upd_ne (ne_of_none ez np2)]
            exact ez
          · rw [upd_ne no2.symm, upd_same]
            have ec : (((flat a).length : Int) - (((flat a).length + 1 : Nat) - ((adv (1, 1) (flat a)).2 : Int)) + 1) = ((adv (1, 1) (flat a)).2 : Int) := by omega
            rw [ec]
            rfl
        · rw [hadv2, adv_free hfree]
        · rw [← hlen2, hadv2, adv_free hfree]
          show ((_ : Nat) : Int) - _ = ((_ : Nat) : Int) - (((adv (1, 1) (flat a)).2 + (c :: w').length : Nat) : Int)
          omega
end
end K0

/-! k00: draws -/
namespace K0
open PySem PySem.Spec PyProof.Rows L2 SX
abbrev sTake : Stmt := topS 21
abbrev sOf : Stmt := topS 22
/-- all but the object at p is as it was -/
def Kp (p : Addr) (H H' : Hp) : Prop := ∀ b o, b ≠ p → H b = some o → H' b = some o
theorem Kp.refl (p : Addr) (H : Hp) : Kp p H H := fun _ _ _ h => h
theorem Kp.trans {p : Addr} {H H1 H2 : Hp} (a : Kp p H H1) (b : Kp p H1 H2) : Kp p H H2 := fun x o n h => b x o n (a x o n h)
theorem Kp.of_same {p : Addr} {H H' : Hp} (h : Same H H') : Kp p H H' := fun b o _ e => h b o e
theorem Kp.put {p : Addr} {H H' : Hp} {o : HO} (h : Kp p H H') : Kp p H (upd H' p o) := fun b z n e => by
  rw [upd_ne n]
  exact h b z n e
theorem Kp.new {p q : Addr} {H H' : Hp} {o : HO} (h : Kp p H H') (n : H' q = none) : Kp p H (upd H' q o) := fun b z nb e => by
  rw [upd_ne (ne_of_none (h b z nb e) n)]
  exact h b z nb e
/-- an object that H does not know may change -/
theorem Kp.mut {p q : Addr} {H H' : Hp} {o : HO} (h : Kp p H H') (n : H q = none) : Kp p H (upd H' q o) := fun b z nb e => by
  rw [upd_ne (ne_of_none e n)]
  exact h b z nb e
theorem Kp.none {p q : Addr} {H H' : Hp} (h : Kp p H H') (hp : ∃ o, H p = some o) (hp' : ∃ o, H' p = some o) (n : H' q = none) : H q = none := by
  cases e : H q with
  | none => rfl
  | some z =>
    by_cases hq : q = p
    · subst hq
      obtain ⟨o, ho⟩ := hp'
      rw [ho] at n
      cases n
    · rw [h q z hq e] at n
      cases n
theorem Kp.rd {p q : Addr} {H H' : Hp} {u : HO} (h : Kp p H H') (n : q ≠ p) (r : Rd H q u) : Rd H' q u := by
  rcases r with r | ⟨o, r⟩
  · exact .inl (h _ _ n r)
  · exact .inr ⟨o, h _ _ n r⟩
theorem Kp.seq {K : PySem.W.Frag} {p q : Addr} {H H' : Hp} {xs : List V} (h : Kp p H H') (n : q ≠ p) (r : SqL K H q xs) : SqL K H' q xs := by
  rcases r with r | r
  · exact .inl (h.rd n r)
  · exact .inr r
/-- a pot of draws: at most n of them done -/
structure Pot (H : Hp) (p : Addr) (n : Nat) : Prop where
  ex : ∃ a m c : Int, H p = some (.lst [.int a, .int m, .int c]) ∧ 0 ≤ a ∧ a < 2 ^ 1000 ∧ 0 ≤ m ∧ m < 2305843009213693921 ∧ 0 ≤ c ∧ c ≤ n
theorem Pot.here {H : Hp} {p : Addr} {n : Nat} (h : Pot H p n) : ∃ o, H p = some o := by
  obtain ⟨a, m, c, e, _⟩ := h.ex
  exact ⟨_, e⟩
theorem Pot.mono {H : Hp} {p : Addr} {n k : Nat} (h : Pot H p n) (le : n ≤ k) : Pot H p k := by
  obtain ⟨a, m, c, e, h1, h2, h3, h4, h5, h6⟩ := h.ex
  exact ⟨a, m, c, e, h1, h2, h3, h4, h5, by omega⟩
theorem Pot.keep {H H' : Hp} {p : Addr} {n : Nat} (h : Pot H p n) (k : ∀ o, H p = some o → H' p = some o) : Pot H' p n := by
  obtain ⟨a, m, c, e, r⟩ := h.ex
  exact ⟨a, m, c, k _ e, r⟩
theorem Pot.new {H : Hp} {p q : Addr} {o : HO} {n : Nat} (h : Pot H p n) (e : H q = none) : Pot (upd H q o) p n := h.keep fun z hz => by
  rw [upd_ne (ne_of_none hz e)]
  exact hz
section
variable {X : Cx}
theorem pe_two {e : Expr} {t1 t2 : TE} (h1 : PE X e t1) (h2 : PE X e t2) : PE X e (fun σ H Q => t1 σ H Q ∨ t2 σ H Q) := by
  constructor
  rintro pins s σ H Q I (q | q)
  · exact h1.run pins s σ H Q I q
  · exact h2.run pins s σ H Q I q
/-- a place of a tracked list, by what stands there -/
def ixAt (o : Option HO) (i : Int) (R : V → Prop) : Prop := match o with
  | some (.lst xs) => match atI xs i with
    | some v => R v
    | none => False
  | _ => False
def rIxT : R2 := fun x y H Q => ∃ p, x = .ref p ∧ ∃ i, y = .int i ∧ ixAt (H p) i fun v => Q v H
theorem ix_T : IxR X rIxT := by
  rintro value slice pins s σ H x y v u Q I rx ry ⟨p, rfl, i, rfl, h⟩ hs
  unfold ixAt at h
  split at h
  · rename_i xs ho
    split at h
    · rename_i z hz
      exact ix_list value slice pins s σ H _ _ v u Q I rx ry ⟨p, xs, i, z, rfl, rfl, .inl (.inl ho), hz, h⟩ hs
    · exact h.elim
  · exact h.elim
def setAt (o : Option HO) (i : Int) (R : List V → Nat → Prop) : Prop := match o with
  | some (.lst xs) => match ixN xs.length i with
    | some j => R xs j
    | none => False
  | _ => False
def rSetT : TSet := fun o i v H Q => ∃ p, o = .ref p ∧ ∃ k, i = .int k ∧ setAt (H p) k fun xs j => Q (upd H p (.lst (xs.set j v)))
theorem set_T : PSet X rSetT := by
  rintro pins s σ H o i v ov iv u Q I ro ri rv ⟨p, rfl, k, rfl, h⟩
  unfold setAt at h
  split at h
  · rename_i xs ho
    split at h
    · rename_i j hj
      exact set_list pins s σ H _ _ v ov iv u Q I ro ri rv ⟨p, xs, k, j, rfl, rfl, ho, hj, h⟩
    · exact h.elim
  · exact h.elim
theorem at3_0 (a b c : V) : atI [a, b, c] 0 = some a := rfl
theorem at3_1 (a b c : V) : atI [a, b, c] 1 = some b := rfl
theorem at3_2 (a b c : V) : atI [a, b, c] 2 = some c := rfl
theorem ix3_0 : ixN 3 0 = some 0 := rfl
theorem ix3_2 : ixN 3 2 = some 2 := rfl
theorem len3 (a b c : V) : [a, b, c].length = 3 := rfl
theorem int_of (i : Int) (Q : VK) (H : Hp) : ((∃ j, V.int i = V.int j ∧ Q (.int j) H) ∨ ∃ k, V.int i = V.bl k ∧ Q (.int (if k = true then 1 else 0)) H) = Q (.int i) H := by
  apply propext
  constructor
  · rintro (⟨j, e, q⟩ | ⟨k, e, _⟩)
    · cases e
      exact q
    · cases e
  · exact fun q => .inl ⟨i, rfl, q⟩
def CPowW (i j : Int) : Prop := 0 ≤ j ∧ (Builtin.Int.intBits i : Int) * j ≤ 2 ^ 27
theorem op_powW : OpR X (binaryOp .Pow) (rI CPowW fun i j => .int (i ^ j.toNat)) := opI fun _ _ _ _ _ _ _ hc q => pow_int hc.1 hc.2 q
end
section
variable {P : Program} {w : World} {K : PySem.W.Frag} {mg : Str → Option Value} {base : Heap} {aW aL : Addr}
def spTake : Sp := fun vs H Q _ => ∃ (p : Addr) (u : Int) (n : Nat), vs = [.ref p, .int u] ∧ 0 < u ∧ u < 2 ^ 40 ∧ Pot H p n ∧ n + 1 ≤ big ∧ ∀ H' (r : Int), Kp p H H' → Pot H' p (n + 1) → 0 ≤ r → r < u → Q (.int r) H'
theorem sc_take : FnScope ["pot", "upto", "digit", "prime", "blend"] ["pot", "upto"] (C8.fnScope sTake) := C8.fnScope_by (by decide +kernel)
theorem ok_take (nm : Nm w K mg aW aL) {f : Addr} {fd : FuncData} (D : C8.Def K mg "_law_take" sTake f fd) (b : Binds K fd ["pot", "upto"] []) : Cg P w K mg base 1 "_law_take" spTake := by
  refine cg0 D b sc_take (fun vs H Q E h => ?_) (fun cdv A outer s H vs Q E hr gg h => ?_)
  · obtain ⟨p, u, n, rfl, _⟩ := h
    rfl
  · obtain ⟨p, u, n, rfl, hu, hu2, hp, hn, q⟩ := h
    have nd := sc_take.nd
    obtain ⟨a, m, c, ep, a1, a2, m1, m2, c1, c2⟩ := hp.ex
    have sq : SqL K H p [.int a, .int m, .int c] := .inl (.inl ep)
    refine ⟨_, (pss_cons (ps_if (pt_cmpR op_gt (pe_ix ix_T (pv 0) pe_int (fun _ _ => rfl)) pe_int (nomark _))
    (pss_cons (ps_set (i := 2) nd rfl (.inl rfl) (pe_op op_mod (pe_callTy call_int1 (by rfl) nm.m_int (by decide +kernel) (pa_cons (pe_ix ix_T (pv 0) pe_int (fun _ _ => rfl)) pa_nil)) (pv 1)))
  (pss_cons (ps_asg (pe_op op_fdivW (pe_ix ix_T (pv 0) pe_int (fun _ _ => rfl)) (pv 1)) (pg_sub (pv 0) pe_int set_T))
  (pss_one (ps_ret (pv 2))))) pss_nil)
  (pss_cons (ps_asg (pe_op op_add (pe_ix ix_T (pv 0) pe_int (fun _ _ => rfl)) pe_int) (pg_sub (pv 0) pe_int set_T))
  (pss_cons (ps_set (i := 3) nd rfl (.inl rfl) (pe_ix ix_T (pe_lst (pa_cons pe_int (pa_cons pe_int (pa_cons pe_int (pa_cons pe_int (pa_cons pe_int pa_nil)))))) (pe_op op_mod (pe_callTy call_int1 (by rfl) nm.m_int (by decide +kernel) (pa_cons (pe_ix ix_T (pv 0) pe_int (fun _ _ => rfl)) pa_nil)) pe_int) (fun _ _ => rfl)))
  (pss_cons (ps_set (i := 4) nd rfl (.inl rfl) (pe_op op_mod (pe_callTy call_int1 (by rfl) nm.m_int (by decide +kernel) (pa_cons (pe_op op_powW (pe_callTy call_int1 (by rfl) nm.m_int (by decide +kernel) (pa_cons (pe_op op_add (pe_op op_add (pe_ix ix_T (pv 0) pe_int (fun _ _ => rfl)) (pe_op op_mulW (pe_op op_mulW pe_int (pe_ix ix_T (pv 0) pe_int (fun _ _ => rfl))) (pe_ix ix_T (pv 0) pe_int (fun _ _ => rfl)))) pe_int) pa_nil)) pe_int) pa_nil)) (pv 3)))
  (pss_one (ps_ret (pe_op op_mod (pe_callTy call_int1 (by rfl) nm.m_int (by decide +kernel) (pa_cons (pe_op op_fdivW (pe_op op_mulW (pv 4) (pe_op op_add (pe_op op_mod (pe_callTy call_int1 (by rfl) nm.m_int (by decide +kernel) (pa_cons (pv 4) pa_nil)) pe_int) (pe_op op_mulW pe_int (pe_ix ix_T (pv 0) pe_int (fun _ _ => rfl))))) pe_int) pa_nil)) (pv 1)))))))), ?_⟩
    rw [show start ["pot", "upto", "digit", "prime", "blend"] [.ref p, .int u] = [some (.ref p), some (.int u), none, none, none] from rfl]
    simp only [tRet, tRetN, tOrV, tAndV, tNotV, tChain, tVar, tC, rI0, rI, tOp, tUn, rU, tCons, tNil, tCB, tTup, tLst, tSeq, tNext, tIfS, tTest, tAnd, tOr, tNot, tB, tSl, tPart, tBM, tBM0, tCall, rEq, rNe, scal, gName, tAsg, tAug, ipI, tIf, tDrop, C8.rSlX, List.getElem?_cons_zero, List.getElem?_cons_succ, Option.some.injEq, V.str.injEq, V.int.injEq, V.bl.injEq, V.ref.injEq, exists_eq_left, exists_eq_left', exists_eq_right, exists_eq_right', exists_and_left, exists_and_right, exists_eq, true_and, and_true, List.set_cons_zero, List.set_cons_succ, List.append_nil, List.nil_append, List.cons_append, List.cons.injEq, reduceIte, Bool.false_eq_true, if_true, if_false, decide_eq_true_eq, lt1, Nat.add_sub_cancel_left, decide_not, Bool.not_eq_true', Bool.not_true, Bool.not_false, decide_eq_false_iff_not, Nat.not_lt, Nat.not_le, tCh, rSlN, rInTS, S_eq, n1, n2, nn, nl, nle, ty_s, slotI, wipe, List.map_cons, List.map_nil, Int.toNat_natCast, rIxT, ixAt, rSetT, setAt, gSub, ep, at3_0, at3_1, at3_2, ix3_0, ix3_2, len3, upd_same, reduceCtorEq, false_and, exists_false, or_false]
    have hdiv : CDivW a u := wide_div (b := 40) hu (by omega) (by decide) (by decide)
    have hbig : big = 1000000 := rfl
    by_cases h0 : 0 < a
    · rw [if_pos h0]
      refine ⟨hu, hdiv, q _ _ (Kp.put (Kp.refl p H)) ⟨a / u, m, c, upd_same, Int.ediv_nonneg a1 (Int.le_of_lt hu), ?_, m1, m2, c1, by omega⟩ (Int.emod_nonneg a (by omega)) (Int.emod_lt_of_pos a hu)⟩
      exact Int.lt_of_le_of_lt (Int.ediv_le_self u a1) a2
    · rw [if_neg h0]
      refine ⟨by decide, fun p1 np1 => ?_⟩
      have ne1 : p ≠ p1 := fun e => by
        rw [← e, upd_same] at np1
        cases np1
      have e2 : upd (upd H p (.lst [.int a, .int m, .int (c + 1)])) p1 (.lst [.int 2147483647, .int 2147483629, .int 2147483587, .int 2147483579, .int 2147483563]) p = some (.lst [.int a, .int m, .int (c + 1)]) := by
        rw [upd_ne ne1, upd_same]
      obtain ⟨pr, epr, pr1, pr2⟩ : ∃ pr : Int, atI [V.int 2147483647, V.int 2147483629, V.int 2147483587, V.int 2147483579, V.int 2147483563] ((c + 1) % 5) = some (.int pr) ∧ 0 < pr ∧ pr < 2 ^ 31 := by
        have h5 : (c + 1) % 5 = 0 ∨ (c + 1) % 5 = 1 ∨ (c + 1) % 5 = 2 ∨ (c + 1) % 5 = 3 ∨ (c + 1) % 5 = 4 := by omega
        rcases h5 with h5 | h5 | h5 | h5 | h5 <;> rw [h5] <;> exact ⟨_, rfl, by decide, by decide⟩
      simp only [tRet, tRetN, tOrV, tAndV, tNotV, tChain, tVar, tC, rI0, rI, tOp, tUn, rU, tCons, tNil, tCB, tTup, tLst, tSeq, tNext, tIfS, tTest, tAnd, tOr, tNot, tB, tSl, tPart, tBM, tBM0, tCall, rEq, rNe, scal, gName, tAsg, tAug, ipI, tIf, tDrop, C8.rSlX, List.getElem?_cons_zero, List.getElem?_cons_succ, Option.some.injEq, V.str.injEq, V.int.injEq, V.bl.injEq, V.ref.injEq, exists_eq_left, exists_eq_left', exists_eq_right, exists_eq_right', exists_and_left, exists_and_right, exists_eq, true_and, and_true, List.set_cons_zero, List.set_cons_succ, List.append_nil, List.nil_append, List.cons_append, List.cons.injEq, reduceIte, Bool.false_eq_true, if_true, if_false, decide_eq_true_eq, lt1, Nat.add_sub_cancel_left, decide_not, Bool.not_eq_true', Bool.not_true, Bool.not_false, decide_eq_false_iff_not, Nat.not_lt, Nat.not_le, tCh, rSlN, rInTS, S_eq, n1, n2, nn, nl, nle, ty_s, slotI, wipe, List.map_cons, List.map_nil, Int.toNat_natCast, rIxT, ixAt, e2, epr, at3_0, at3_1, at3_2, reduceCtorEq, false_and, exists_false, or_false]
      have c3 : c + 1 ≤ 1000000 := by omega
      have sq1 : (c + 1) * (c + 1) ≤ 1000000 * 1000000 := Int.mul_le_mul c3 c3 (by omega) (by decide)
      have sq0 : 0 ≤ (c + 1) * (c + 1) := Int.mul_nonneg (by omega) (by omega)
      have base_e : m + 96001 * (c + 1) * (c + 1) + 171 = m + 96001 * ((c + 1) * (c + 1)) + 171 := by rw [Int.mul_assoc]
      have hpow : (m + 96001 * (c + 1) * (c + 1) + 171).natAbs < 2 ^ 64 := by
        rw [base_e]
        generalize (c + 1) * (c + 1) = z at sq1 sq0
        omega
      generalize hX : (m + 96001 * (c + 1) * (c + 1) + 171) ^ Int.toNat 3 % pr = x
      have x0 : 0 ≤ x := by rw [← hX]; exact Int.emod_nonneg _ (by omega)
      have x1 : x < 2 ^ 31 := by rw [← hX]; exact Int.lt_trans (Int.emod_lt_of_pos _ pr1) pr2
      have y0 : 0 ≤ x % 10007 + 151 * (c + 1) := by omega
      have y1 : x % 10007 + 151 * (c + 1) < 2 ^ 40 := by omega
      refine ⟨by decide, wide_mul (a := 20) (b := 20) (by decide) (by omega) (by decide) (by decide) (by decide), wide_mul (a := 40) (b := 20) (by omega) (by omega) (by decide) (by decide) (by decide), ⟨by decide, bits_mul_le hpow (by decide) (by decide)⟩, pr1, by decide,
        wide_mul (a := 10) (b := 20) (by decide) (by omega) (by decide) (by decide) (by decide), wide_mul (a := 31) (b := 40) (by omega) (by omega) (by decide) (by decide) (by decide), wide_div (b := 10) (by decide) (by decide) (by decide) (by decide), hu, ?_⟩
      refine q _ _ (Kp.new (Kp.put (Kp.refl p H)) np1) ⟨a, m, c + 1, e2, a1, a2, m1, m2, by omega, by omega⟩ (Int.emod_nonneg _ (by omega)) (Int.emod_lt_of_pos _ hu)
def spOf : Sp := fun vs H Q _ => ∃ (p : Addr) (n : Nat), Pot H p n ∧ n + 1 ≤ big ∧
  ((∃ l : L, vs = [.ref p, VS l] ∧ l ≠ [] ∧ l.length ≤ 1000 ∧ ∀ H' c, Kp p H H' → Pot H' p (n + 1) → c ∈ l → Q (C1 c) H') ∨
   (∃ (d : Addr) (xs : List V), vs = [.ref p, .ref d] ∧ d ≠ p ∧ H d = some (.lst xs) ∧ xs ≠ [] ∧ xs.length ≤ 1000 ∧ ∀ H' x, Kp p H H' → Pot H' p (n + 1) → x ∈ xs → Q x H'))
theorem sc_of : FnScope ["pot", "some"] ["pot", "some"] (C8.fnScope sOf) := C8.fnScope_by (by decide +kernel)
theorem ok_of (nm : Nm w K mg aW aL) {f : Addr} {fd : FuncData} (D : C8.Def K mg "_law_of" sOf f fd) (b : Binds K fd ["pot", "some"] []) (c__law_take : Cg P w K mg base 1 "_law_take" spTake) : Cg P w K mg base 2 "_law_of" spOf := by
  refine cg0 D b sc_of (fun vs H Q E h => ?_) (fun cdv A outer s H vs Q E hr gg h => ?_)
  · obtain ⟨p, n, _, _, ⟨l, rfl, _⟩ | ⟨d, xs, rfl, _⟩⟩ := h <;> rfl
  · have nd := sc_of.nd
    have hbig : big = 1000000 := rfl
    refine ⟨_, (pss_one (ps_ret (pe_two (pe_ch (pv 1) (pe_g c__law_take hr (by decide) gg (by rfl) (pa_cons (pv 0) (pa_cons (pe_two (pe_callB call_lenS (by rfl) nm.m_len (by decide +kernel) (pa_cons (pv 1) pa_nil)) (pe_callB call_len_seq (by rfl) nm.m_len (by decide +kernel) (pa_cons (pv 1) pa_nil))) pa_nil))) (fun _ _ => rfl)) (pe_ix ix_list (pv 1) (pe_g c__law_take hr (by decide) gg (by rfl) (pa_cons (pv 0) (pa_cons (pe_two (pe_callB call_lenS (by rfl) nm.m_len (by decide +kernel) (pa_cons (pv 1) pa_nil)) (pe_callB call_len_seq (by rfl) nm.m_len (by decide +kernel) (pa_cons (pv 1) pa_nil))) pa_nil))) (fun _ _ => rfl))))), ?_⟩
    obtain ⟨p, n, hp, hn, ⟨l, rfl, hl, hll, q⟩ | ⟨d, xs, rfl, dp, hd, hx, hxl, q⟩⟩ := h
    · rw [show start ["pot", "some"] [.ref p, VS l] = [some (.ref p), some (VS l)] from rfl]
      have hpos : 0 < l.length := List.length_pos_iff.mpr hl
      refine .inl ⟨_, rfl, _, rfl, .inl ⟨_, rfl, l, rfl, by omega, ?_⟩⟩
      refine ⟨p, _, n, rfl, by omega, by omega, hp, hn, fun H' r k pot r0 r1 => ?_⟩
      have hr' : r.toNat < l.length := by omega
      refine ⟨l, r.toNat, l[r.toNat], rfl, by rw [Int.toNat_of_nonneg r0], by omega, List.getElem?_eq_getElem hr', ?_⟩
      exact q _ _ k pot (List.getElem_mem hr')
    · rw [show start ["pot", "some"] [.ref p, .ref d] = [some (.ref p), some (.ref d)] from rfl]
      have hpos : 0 < xs.length := List.length_pos_iff.mpr hx
      have sq : SqL K H d xs := .inl (.inl hd)
      refine .inr ⟨_, rfl, _, rfl, .inr ⟨_, rfl, d, xs, rfl, .inl sq, ?_⟩⟩
      refine ⟨p, _, n, rfl, by omega, by omega, hp, hn, fun H' r k pot r0 r1 => ?_⟩
      have hr' : r.toNat < xs.length := by omega
      refine ⟨d, xs, r, xs[r.toNat], rfl, rfl, k.seq dp sq, ?_, q _ _ k pot (List.getElem_mem hr')⟩
      have := atI_nat (xs := xs) (j := r.toNat) (List.getElem?_eq_getElem hr')
      rw [Int.toNat_of_nonneg r0] at this
      exact this
end
end K0

/-! k00: tokens that are out, a text some times -/
namespace K0
open PySem PySem.Spec PyProof.Rows L2 SX
section
variable {X : Cx}
/-- a written text, then what wants a token -/
theorem pe_opK {c : Str} {j : Nat} {cp pos : Pos} {f : Expr} {tf : TE} {op : Operator} {r : R2} (ho : OpR X (binaryOp op) r) (hb : PET X f tf) : PE X (.BinOp (.Constant (.str c) j cp) op f pos) (tOp r (tC (.str c)) tf) := by
  constructor
  intro pins s σ H Q I h
  refine wpAny_BinOp (Calls.Constant_str ?_)
  have q1 : tf σ H fun y H2 => r (.str c) y H2 Q := h
  refine thn (hb pins _ σ H _ (Nat.succ_le_succ (Nat.zero_le _)) (I.tok (s.toks + 1)) q1) ?_
  rintro u s2 ⟨y, H2, I2, r2, q2⟩
  exact ho pins s2 σ H2 (.str c) y _ u Q I2 ⟨s.toks, rfl⟩ r2 q2
theorem pst_set {i : Nat} {x : Str} {e : Expr} {te : TE} {pos pos' : Pos} (hN : X.N.Nodup) (hi : X.N[i]? = some x) (hx : Loc X.env.scope x) (he : PET X e te) (hs : swapsWith e (some (.Name x pos')) pos.line X.env = pure false := by rfl)
    (hf : X.fn x = true ∨ X.env.scope.names.lookup x = some .local := by first | exact .inl rfl | exact .inr rfl | assumption) : PST X (.Assign [.Name x pos'] e pos) (tAsg te (gName i)) := by
  intro pins s σ H D h0 I h
  refine wpAny_Assign_Name (thn (he pins s σ H _ h0 I h) ?_) hs
  rintro v s1 ⟨y, H1, I1, r1, q1⟩
  exact store_ok I1 hN hi hx r1 (fun s2 I2 => ⟨_, H1, I2, q1⟩) hf
/-- a list of written texts is stored under a name: behind it a token is out -/
theorem pss_tok {i j : Nat} {x c : Str} {cp lp pos pos' : Pos} {es : List Expr} {ta : TA} {rest : List Stmt} {u : TS} (hN : X.N.Nodup) (hi : X.N[i]? = some x) (hx : Loc X.env.scope x) (he : PA X es ta) (h2 : PSsT X rest u)
    (hs0 : starEach (.Constant (.str c) j cp :: es) X.env = (false, eval (.Constant (.str c) j cp) X.env) :: starEach es X.env := by rfl)
    (hs : swapsWith (.List (.Constant (.str c) j cp :: es) lp) (some (.Name x pos')) pos.line X.env = pure false := by rfl) (hf : X.fn x = true ∨ X.env.scope.names.lookup x = some .local := by first | exact .inl rfl | exact .inr rfl | assumption) :
    PSs X (.Assign [.Name x pos'] (.List (.Constant (.str c) j cp :: es) lp) pos :: rest) (tSeq (tAsg (tLst (tCons (tC (.str c)) ta)) (gName i)) u) := by
  constructor
  intro pins s σ H D I h
  have q0 : ta σ H fun xs H1 => ((.str c : V) :: xs).length ≤ sizeLine ∧ ∀ p, H1 p = none → u D (σ.set i (some (.ref p))) (upd H1 p (.lst (.str c :: xs))) := h
  have lst : wpAny (model X.prog X.w) X.A (eval (.List (.Constant (.str c) j cp :: es) lp) X.env) (fun v s1 => 1 ≤ s1.toks ∧ EP X pins σ (fun w H1 => u D (σ.set i (some w)) H1) v s1) X.xe s := by
    refine wpAny_List_spliced ?_
    rw [hs0]
    have here : wpAny (model X.prog X.w) X.A (spliced ((false, eval (.Constant (.str c) j cp) X.env) :: backTo lp (starEach es X.env))) (fun us s1 => us.length ≤ sizeLine ∧ 1 ≤ s1.toks ∧ EP X pins σ (fun w H1 => u D (σ.set i (some w)) H1) (.ref s1.heap.objs.size) { s1 with heap := s1.heap.push { cls := .type "list", data := .seq us.toArray } }) X.xe s := by
      refine Calls.spliced_cons (Calls.Constant_str ?_)
      refine wpAny_mono (PySem.wpAny_toks (he.run lp pins _ σ H _ (I.tok (s.toks + 1)) q0)) ?_ fun _ _ z => z.2
      rintro us s1 ⟨hk, xs, H1, I1, r, z, q⟩
      have hk' : s.toks + 1 ≤ s1.toks := hk
      refine ⟨?_, Nat.le_trans (Nat.succ_le_succ (Nat.zero_le _)) hk', ?_⟩
      · rw [List.length_cons, ← r.length]
        exact z
      · have hf1 : H1 s1.heap.objs.size = none := I1.hok.fresh (Nat.le_refl _)
        refine ⟨.ref s1.heap.objs.size, upd H1 s1.heap.objs.size (.lst (.str c :: xs)), I1.laid (t' := s1.toks) (fun b u e => Heap.get?_push_of_some _ e) (Nat.le_refl _) ?_, rfl, q _ hf1⟩
        exact ⟨z, .str c s.toks :: us, 0, .cons ⟨s.toks, rfl⟩ r, Heap.get?_push_size _ rfl⟩
    exact here
  refine wpAny_execs_cons (wpAny_Assign_Name (thn lst ?_) hs)
  rintro v s1 ⟨t1, y, H1, I1, r1, q1⟩
  refine wpAny_mono (PySem.wpAny_toks (store_ok (Q := fun _ s2 => Inv X pins (σ.set i (some y)) H1 s2) I1 hN hi hx r1 (fun _ I2 => I2) hf)) ?_ fun _ _ z => z.2
  rintro _ s2 ⟨hk, I2⟩
  have hk' : s1.toks ≤ s2.toks := hk
  exact h2 pins s2 _ H1 D (Nat.le_trans t1 hk') I2 q1
theorem rep_flat (t : L) : ∀ (k : Nat) (acc : Array Nat), ((List.replicate k t.toArray).foldl (· ++ ·) acc).toList = acc.toList ++ (List.replicate k t).flatten
  | 0, acc => by simp
  | k + 1, acc => by
    rw [List.replicate_succ, List.foldl_cons, rep_flat t k, List.replicate_succ, List.flatten_cons, Array.toList_append, List.append_assoc]
theorem op_mulS : OpR X (binaryOp .Mult) (fun x y H Q => ∃ (t : L) (k : Nat), x = VS t ∧ y = .int (k : Int) ∧ t.length ≤ 1000 ∧ k ≤ 1000 ∧ Q (VS (List.replicate k t).flatten) H) := by
  intro pins s σ H x y v u Q I rx ry h
  obtain ⟨t, k, rfl, rfl, ht, hk, q⟩ := h
  obtain ⟨tx, rfl⟩ := rx
  obtain ⟨ty, rfl⟩ := ry
  have hlen : (S t).length = t.length := S_len t
  refine PySem.P.mul_str ?_ ?_ ?_ ?_
  · rw [Bool.or_eq_false_iff, decide_eq_false_iff_not, decide_eq_false_iff_not]
    omega
  · intro h1 h2 h3
    rw [hlen] at h3
    have hk0 : (0 : Int) < k := by omega
    have h4 : (1000 : Int) * 1000 ≤ 2 ^ 63 - 1 := by decide
    have h5 : (1000 : Int) ≤ (2 ^ 63 - 1) / (k : Int) := by
      rw [Int.le_ediv_iff_mul_le hk0]
      have : (1000 : Int) * k ≤ 1000 * 1000 := by omega
      omega
    omega
  · intro h1 h2
    unfold Builtin.Str.tooLong
    rw [hlen, Int.toNat_natCast, decide_eq_false_iff_not]
    have h5 : t.length * k ≤ 1000 * 1000 := Nat.mul_le_mul ht hk
    have h6 : 1000 * 1000 ≤ sizeLine := by decide
    omega
  · have key : ∀ z : Str, z = S (List.replicate k t).flatten → ∀ tk tk', EP X pins σ Q (.str z tk) { s with toks := tk' } := by
      rintro z rfl tk tk'
      exact ⟨VS (List.replicate k t).flatten, H, I.tok _, ⟨tk, rfl⟩, q⟩
    by_cases h1 : (k : Int) < 1
    · rw [if_pos h1]
      have hk0 : k = 0 := by omega
      subst hk0
      exact ⟨Nat.zero_le _, key _ rfl _ _⟩
    · rw [if_neg h1]
      by_cases h2 : ((k : Int) == 1 || (S t).length == 0) = true
      · rw [if_pos h2]
        refine key (S t) ?_ _ _
        rw [Bool.or_eq_true, beq_iff_eq, beq_iff_eq, hlen] at h2
        rcases h2 with h2 | h2
        · have : k = 1 := by omega
          rw [this]
          simp
        · have : t = [] := List.length_eq_zero_iff.mp h2
          subst this
          congr 1
          simp
      · rw [if_neg h2]
        have ez : (⟨(List.replicate (k : Int).toNat (S t).cps).foldl (· ++ ·) #[]⟩ : Str) = S (List.replicate k t).flatten := by
          refine TL.ext_tl ?_
          rw [Int.toNat_natCast]
          show ((List.replicate k (S t).cps).foldl (· ++ ·) #[]).toList = (List.replicate k t).flatten
          rw [rep_flat]
          rfl
        refine ⟨?_, key _ ez _ _⟩
        rw [ez, S_len, List.length_flatten, List.map_replicate, List.sum_replicate_nat]
        have h5 : k * t.length ≤ 1000 * 1000 := Nat.mul_le_mul hk ht
        have h6 : 1000 * 1000 ≤ sizeLine := by decide
        omega
end
end K0

/-! k00: names and words -/
namespace K0
open PySem PySem.Spec PyProof.Rows L2 SX
abbrev sName : Stmt := topS 24
abbrev sWords : Stmt := topS 25
abbrev sSpelt : Stmt := topS 26
def lawWords : List L := (["and", "array", "begin", "case", "const", "div", "do", "downto", "else", "end", "file", "for", "function", "goto", "if", "in", "label", "mod", "nil", "not", "of", "or", "packed", "procedure", "program", "record", "repeat", "set", "then", "to", "until", "var", "while", "with", "type"] : List String).map codes
theorem lawWords_iff (u : L) : u ∈ lawWords ↔ u ∈ wordsL := by
  have h1 : ∀ u ∈ lawWords, u ∈ wordsL := by decide +kernel
  have h2 : ∀ u ∈ wordsL, u ∈ lawWords := by decide +kernel
  exact ⟨h1 u, h2 u⟩
theorem pe_bm0K {X : Cx} {K : PySem.W.Frag} {o : Expr} {to : TE} {name : Str} {apos cpos : Pos} {T id : String} {r : V → List V → Hp → VK → Prop} (hK : X.K = K) (pa : PlainAttrs T) (sl : Slot T name id)
    (ht : typeOf (.builtin id) = pure (.type "method_descriptor")) (hm : MtR X id r) (ho : PE X o to) (hb : attributeBase o name X.env (eval o X.env) = eval o X.env := by rfl) (hl : (apos.endLine == cpos.line) = true := by rfl) :
    PE X (.Call (.Attribute o name apos) [] [] cpos) (tBM0 K T r to) := by
  rw [← hK]
  exact pe_bm0 pa sl ht hm ho hb hl
theorem lc_n {J : It} {n : Nat} {g : TG} {tt : TT} {te : TE} {vs : List Nat} {σ : L2.St} {H1 : Hp} {D : Addr} {Qd : Hp → Prop} (Pv : Nat → Hp → Prop) (h0 : Pv 0 (upd H1 D (.lst []))) (hgo : ∀ i H, i < n → Pv i H → J.go i H) (hst : ∀ H, Pv n H → J.stop n H)
    (hs : ∀ i x H H', i < n → Pv i H → J.yld i H x H' → g x (wipe σ vs) H' fun σ2 H2 => wipe σ2 vs = wipe σ vs ∧ tt σ2 H2 fun b H3 =>
      if b = true then te σ2 H3 fun y H4 => ∃ acc, H4 D = some (.lst acc) ∧ acc.length < sizeLine ∧ Pv (i + 1) (upd H4 D (.lst (acc ++ [y]))) else Pv (i + 1) H3) (hd : ∀ H, Pv n H → Qd H) :
    ∃ W : Nat → Nat → Hp → Prop, (∃ m, W 0 m (upd H1 D (.lst []))) ∧ ∀ i m H, W i m H →
      (J.stop i H ∧ Qd H) ∨ (J.go i H ∧ ∃ Nx : Hp → Prop, (∀ H', Nx H' → ∃ m', m' < m ∧ W (i + 1) m' H') ∧ ∀ x H', J.yld i H x H' → g x (wipe σ vs) H' fun σ2 H2 => wipe σ2 vs = wipe σ vs ∧ tt σ2 H2 fun b H3 =>
        if b = true then te σ2 H3 fun y H4 => ∃ acc, H4 D = some (.lst acc) ∧ acc.length < sizeLine ∧ Nx (upd H4 D (.lst (acc ++ [y]))) else Nx H3) := by
  refine ⟨fun i m H => m = n - i ∧ i ≤ n ∧ Pv i H, ⟨n, rfl, Nat.zero_le _, h0⟩, ?_⟩
  rintro i m H ⟨rfl, hi, p⟩
  by_cases h : i < n
  · refine .inr ⟨hgo i H h p, Pv (i + 1), ?_, ?_⟩
    · intro H' p'
      exact ⟨n - (i + 1), by omega, rfl, h, p'⟩
    · intro x H' y
      exact hs i x H H' h p y
  · have e : i = n := by omega
    subst e
    exact .inl ⟨hst H p, hd H p⟩
theorem words_low : ∀ u ∈ wordsL, u.length ≤ 9 ∧ ∀ c ∈ u, 97 ≤ c ∧ c ≤ 122 := by
  intro u hu
  have h : ∀ u ∈ wordsL, (decide (u.length ≤ 9) && u.all fun c => decide (97 ≤ c) && decide (c ≤ 122)) = true := by decide +kernel
  have h2 := h u hu
  rw [Bool.and_eq_true, decide_eq_true_eq, List.all_eq_true] at h2
  refine ⟨h2.1, fun c hc => ?_⟩
  have := h2.2 c hc
  rw [Bool.and_eq_true, decide_eq_true_eq, decide_eq_true_eq] at this
  exact this
theorem low_range (P : Nat → Prop) [DecidablePred P] (h : ∀ k, k < 26 → P (97 + k)) (c : Nat) (hc : 97 ≤ c ∧ c ≤ 122) : P c := by
  have := h (c - 97) (by omega)
  rw [show 97 + (c - 97) = c by omega] at this
  exact this
theorem low_up (c : Nat) (hc : 97 ≤ c ∧ c ≤ 122) : lo (PyProof.Rows.up1 c) = c := low_range (fun c => lo (PyProof.Rows.up1 c) = c) (by decide) c hc
theorem up_let (c : Nat) (hc : 97 ≤ c ∧ c ≤ 122) : isLet (PyProof.Rows.up1 c) = true := low_range (fun c => isLet (PyProof.Rows.up1 c) = true) (by decide) c hc
theorem low_lo (c : Nat) (hc : 97 ≤ c ∧ c ≤ 122) : lo c = c := low_range (fun c => lo c = c) (by decide) c hc
theorem low_let (c : Nat) (hc : 97 ≤ c ∧ c ≤ 122) : isLet c = true := low_range (fun c => isLet c = true) (by decide) c hc
section
variable {P : Program} {w : World} {K : PySem.W.Frag} {mg : Str → Option Value} {base : Heap} {aW aL : Addr}
def spWords : Sp := fun vs H Q _ => vs = [] ∧ ∀ H' d, Same H H' → H d = none → H' d = some (.lst (lawWords.map VS)) → Q (.ref d) H'
theorem sc_words : FnScope ["some", "more"] [] (C8.fnScope sWords) := C8.fnScope_by (by decide +kernel)
theorem ok_words (nm : Nm w K mg aW aL) {f : Addr} {fd : FuncData} (D : C8.Def K mg "_law_words" sWords f fd) (b : Binds K fd [] []) : Cg P w K mg base 1 "_law_words" spWords := by
  refine cg0 D b sc_words (fun vs H Q E h => ?_) (fun cdv A outer s H vs Q E hr gg h => ?_)
  · obtain ⟨rfl, _⟩ := h
    rfl
  · obtain ⟨rfl, q⟩ := h
    have nd := sc_words.nd
    refine ⟨_, (pss_cons (ps_set (i := 0) nd rfl (.inl rfl) pe_str)
  (pss_cons (ps_set (i := 1) nd rfl (.inl rfl) pe_str)
  (pss_one (ps_ret (pe_op op_cat (pe_bm PySem.F.plainAttrs_str PySem.F.slot_str_split PySem.F.type_str_split mt_split (pe_op op_addS (pe_op op_addS (pv 0) pe_str) (pv 1)) (pa_cons pe_str pa_nil)) (pe_lst (pa_cons (pe_op op_addS pe_str pe_str) pa_nil))))))), ?_⟩
    rw [show start ["some", "more"] [] = [none, none] from rfl]
    simp only [tRet, tRetN, tOrV, tAndV, tNotV, tChain, tVar, tC, rI0, rI, tOp, tUn, rU, tCons, tNil, tCB, tTup, tLst, tSeq, tNext, tIfS, tTest, tAnd, tOr, tNot, tB, tSl, tPart, tBM, tBM0, tCall, rEq, rNe, scal, gName, tAsg, tAug, ipI, tIf, tDrop, C8.rSlX, List.getElem?_cons_zero, List.getElem?_cons_succ, Option.some.injEq, V.str.injEq, V.int.injEq, V.bl.injEq, V.ref.injEq, exists_eq_left, exists_eq_left', exists_eq_right, exists_eq_right', exists_and_left, exists_and_right, exists_eq, true_and, and_true, List.set_cons_zero, List.set_cons_succ, List.append_nil, List.nil_append, List.cons_append, List.cons.injEq, reduceIte, Bool.false_eq_true, if_true, if_false, decide_eq_true_eq, lt1, Nat.add_sub_cancel_left, decide_not, Bool.not_eq_true', Bool.not_true, Bool.not_false, decide_eq_false_iff_not, Nat.not_lt, Nat.not_le, tCh, rSlN, rInTS, S_eq, n1, n2, nn, nl, nle, ty_s, slotI, wipe, List.map_cons, List.map_nil, Int.toNat_natCast, codes_S]
    have e1 : Txt.split (S (codes "and array begin case const div do downto else end file for function goto if in label mod nil not of or" ++ codes " " ++ codes "packed procedure program record repeat set then to until var while with")) (S (codes " ")) = (lawWords.take 34).map S := by
      rw [split_S (by decide +kernel) (by decide +kernel)]
      decide +kernel
    refine ⟨by decide +kernel, by decide +kernel, by decide +kernel, by decide +kernel, ?_⟩
    rw [e1]
    intro p np
    refine ⟨by decide +kernel, by decide, fun p2 np2 => ?_⟩
    have ne : p ≠ p2 := ne_of_none upd_same np2
    refine ⟨p, p2, _, _, rfl, rfl, by rw [upd_ne ne]; exact upd_same, upd_same, by decide +kernel, fun p3 np3 => ?_⟩
    have h2 : H p2 = none := by
      rw [upd_ne ne.symm] at np2
      exact np2
    have ne3 : p3 ≠ p2 := fun e => by
      rw [e, upd_same] at np3
      cases np3
    have ne4 : p3 ≠ p := fun e => by
      rw [e, upd_ne ne, upd_same] at np3
      cases np3
    have h3 : H p3 = none := by
      rw [upd_ne ne3, upd_ne ne4] at np3
      exact np3
    refine q _ _ ?_ h3 ?_
    · intro b z e
      rw [upd_ne (ne_of_none e h3), upd_ne (ne_of_none e h2), upd_ne (ne_of_none e np)]
      exact e
    · rw [upd_same]
      have e2 : ((lawWords.take 34).map S).map V.str ++ [V.str (S (codes "ty" ++ codes "pe"))] = lawWords.map VS := by decide +kernel
      rw [e2]
theorem sc_spelt : FnScope ["pot", "word", "sign"] ["pot", "word"] (C8.fnScope sSpelt) := C8.fnScope_by (by decide +kernel)
def spSpelt : Sp := fun vs H Q _ => ∃ (p : Addr) (n : Nat) (u : L), vs = [.ref p, VS u] ∧ u ∈ wordsL ∧ Pot H p n ∧ n + 20 ≤ big ∧ ∀ H' u', Kp p H H' → Pot H' p (n + 20) → u'.length = u.length → u'.map lo = u → (∀ d ∈ u', isLet d = true) → Q (VS u') H'
theorem ok_spelt (nm : Nm w K mg aW aL) {f : Addr} {fd : FuncData} (D : C8.Def K mg "_law_spelt" sSpelt f fd) (b : Binds K fd ["pot", "word"] []) (c__law_take : Cg P w K mg base 1 "_law_take" spTake) : Cg P w K mg base 2 "_law_spelt" spSpelt := by
  refine cg0 D b sc_spelt (fun vs H Q E h => ?_) (fun cdv A outer s H vs Q E hr gg h => ?_)
  · obtain ⟨p, n, u, rfl, _⟩ := h
    rfl
  · obtain ⟨p, n, u, rfl, hu, hp, hn, q⟩ := h
    have nd := sc_spelt.nd
    refine ⟨_, (pss_one (ps_ret (pe_bm PySem.F.plainAttrs_str PySem.F.slot_str_join PySem.F.type_str_join mt_joinS pe_str (pa_cons (pe_lc (own := [("sign", 2)]) (tt := tYes) rfl nd (pi_str (pv 1)) (blkOk_by (N := ["pot", "word", "sign"]) (sc := C8.fnScope (topS 26)) (by decide +kernel)) (fun _ _ _ _ _ => (pg_name (i := 2) nd rfl (.inl rfl))) (fun _ _ _ _ _ => pts_nil) (fun _ _ _ _ _ => (pe_ifExp (pt_cmpR op_eq (pe_g c__law_take hr (by decide) gg (by rfl) (pa_cons (pv 0) (pa_cons pe_int pa_nil))) pe_int (nomark _)) (pe_bm0K (K := K) rfl PySem.F.plainAttrs_str PySem.F.slot_str_upper PySem.F.type_str_upper mt_upperS (pv 2)) (pv 2)))) pa_nil)))), ?_⟩
    rw [show start ["pot", "word", "sign"] [.ref p, VS u] = [some (.ref p), some (VS u), none] from rfl]
    have hbig : big = 1000000 := rfl
    obtain ⟨ul, uc⟩ := words_low u hu
    refine ⟨rfl, _, rfl, S u, rfl, fun D hD => ?_⟩
    have dp : D ≠ p := fun e => by
      obtain ⟨o, ho⟩ := hp.here
      rw [e, ho] at hD
      cases hD
    refine lc_n (n := u.length) (fun i H' => Kp p H H' ∧ Pot H' p (n + i) ∧ ∃ v : L, v.length = i ∧ v.map lo = u.take i ∧ (∀ d ∈ v, isLet d = true) ∧ H' D = some (.lst (v.map C1)))
      ⟨Kp.mut (Kp.refl p H) hD, hp.new hD, [], rfl, rfl, fun _ h => absurd h List.not_mem_nil, upd_same⟩ ?_ ?_ ?_ ?_
    · intro i H' hi _
      show i < (S u).cps.size
      exact hi
    · intro H' _
      exact Nat.le_refl _
    · rintro i x H' H'' hi ⟨k, pot, v, vl, vm, vt, hv⟩ ⟨rfl, c, hc, rfl⟩
      have hcu : c = u[i] := by
        have e : (S u).cps[i]? = u[i]? := (Array.getElem?_toList (xs := (S u).cps)).symm
        rw [e, List.getElem?_eq_getElem hi] at hc
        exact (Option.some.inj hc).symm
      have low := uc u[i] (List.getElem_mem hi)
      rw [← hcu] at low
      refine ⟨rfl, ?_⟩
      refine ⟨_, rfl, p, 3, n + i, rfl, by decide, by decide, pot, by omega, ?_⟩
      intro H3 r k3 pot3 r0 r3
      have hv3 : H3 D = some (.lst (v.map C1)) := k3 _ _ dp hv
      have fin : ∀ d : Nat, lo d = c → isLet d = true → ∃ acc, H3 D = some (.lst acc) ∧ acc.length < sizeLine ∧ (Kp p H (upd H3 D (.lst (acc ++ [C1 d]))) ∧ Pot (upd H3 D (.lst (acc ++ [C1 d]))) p (n + (i + 1)) ∧ ∃ v : L, v.length = i + 1 ∧ v.map lo = u.take (i + 1) ∧ (∀ d ∈ v, isLet d = true) ∧ upd H3 D (.lst (acc ++ [C1 d])) D = some (.lst (v.map C1))) := by
        intro d hd hl
        refine ⟨_, hv3, ?_, Kp.mut (k.trans k3) hD, ?_, v ++ [d], ?_, ?_, ?_, ?_⟩
        · rw [List.length_map, vl]
          exact Nat.lt_of_lt_of_le (show i < 1000 by omega) (by decide)
        · refine pot3.keep fun o ho => ?_
          rw [upd_ne dp.symm]
          exact ho
        · rw [List.length_append, vl]
          rfl
        · rw [List.map_append, vm, List.take_add_one, List.getElem?_eq_getElem hi, ← hcu]
          show _ ++ [lo d] = _
          rw [hd]
          rfl
        · intro z hz
          rcases List.mem_append.mp hz with hz | hz
          · exact vt z hz
          · rw [List.mem_singleton.mp hz]
            exact hl
        · rw [upd_same, List.map_append]
          rfl
      simp only [tRet, tRetN, tOrV, tAndV, tNotV, tChain, tVar, tC, rI0, rI, tOp, tUn, rU, tCons, tNil, tCB, tTup, tLst, tSeq, tNext, tIfS, tTest, tAnd, tOr, tNot, tB, tSl, tPart, tBM, tBM0, tCall, rEq, rNe, scal, gName, tAsg, tAug, ipI, tIf, tDrop, C8.rSlX, List.getElem?_cons_zero, List.getElem?_cons_succ, Option.some.injEq, V.str.injEq, V.int.injEq, V.bl.injEq, V.ref.injEq, exists_eq_left, exists_eq_left', exists_eq_right, exists_eq_right', exists_and_left, exists_and_right, exists_eq, true_and, and_true, List.set_cons_zero, List.set_cons_succ, List.append_nil, List.nil_append, List.cons_append, List.cons.injEq, reduceIte, Bool.false_eq_true, if_true, if_false, decide_eq_true_eq, lt1, Nat.add_sub_cancel_left, decide_not, Bool.not_eq_true', Bool.not_true, Bool.not_false, decide_eq_false_iff_not, Nat.not_lt, Nat.not_le, tCh, rSlN, rInTS, S_eq, n1, n2, nn, nl, nle, ty_s, slotI, wipe, List.map_cons, List.map_nil, Int.toNat_natCast, TruV]
      by_cases h0 : r = 0
      · rw [if_pos h0]
        refine ⟨by show [c].all (· < 128) = true; simp; omega, by show 1 ≤ 1000000; decide, ?_⟩
        exact fin (PyProof.Rows.up1 c) (low_up c low) (up_let c low)
      · rw [if_neg h0]
        exact fin c (low_lo c low) (low_let c low)
    · rintro H' ⟨k, pot, v, vl, vm, vt, hv⟩
      refine ⟨D, v.map fun c => [c], congrArg V.str s_e, rfl, ?_, ?_, ?_⟩
      · rw [List.map_map]
        exact .inl (.inl hv)
      · rw [flatten_ones]
        omega
      · rw [flatten_ones]
        refine q _ _ k (pot.mono (by omega)) vl ?_ vt
        rw [vm, List.take_length]
end
end K0

/-! k00: drawn names -/
namespace K0
open PySem PySem.Spec PyProof.Rows L2 SX
theorem s_qu : Str.ofString "q" = S [113] := by decide +kernel
theorem words_q : ∀ u ∈ wordsL, u ++ [113] ∉ wordsL := by decide +kernel
structure NameOk (u : L) : Prop where
  first : ∃ c r, u = c :: r ∧ isLet c = true
  all : ∀ d ∈ u, isAl d = true
  out : u.map lo ∉ wordsL
  len : u.length ≤ 12
section
variable {P : Program} {w : World} {K : PySem.W.Frag} {mg : Str → Option Value} {base : Heap} {aW aL : Addr}
theorem of_ints {is : List Int} {x : V} (h : x ∈ is.map V.int) : ∃ i ∈ is, x = .int i := by
  obtain ⟨i, hi, e⟩ := List.mem_map.mp h
  exact ⟨i, hi, e.symm⟩
def spName : Sp := fun vs H Q _ => ∃ (p : Addr) (n : Nat), vs = [.ref p] ∧ Pot H p n ∧ n + 20 ≤ big ∧ ∀ H' u, Kp p H H' → Pot H' p (n + 20) → NameOk u → Q (VS u) H'
theorem sc_name : FnScope ["pot", "while_more", "found", "lap"] ["pot"] (C8.fnScope sName) := C8.fnScope_by (by decide +kernel)
theorem ok_name (nm : Nm w K mg aW aL) {f : Addr} {fd : FuncData} (D : C8.Def K mg "_law_name" sName f fd) (b : Binds K fd ["pot"] []) (c__law_of : Cg P w K mg base 2 "_law_of" spOf) (c__law_words : Cg P w K mg base 1 "_law_words" spWords) :
    Cg P w K mg base 3 "_law_name" spName := by
  refine cg0 D b sc_name (fun vs H Q E h => ?_) (fun cdv A outer s H vs Q E hr gg h => ?_)
  · obtain ⟨p, n, rfl, _⟩ := h
    rfl
  · obtain ⟨p, n, rfl, hp, hn, q⟩ := h
    have nd := sc_name.nd
    have hbig : big = 1000000 := rfl
    refine ⟨_, (pss_cons (ps_set (i := 1) nd rfl (.inl rfl) (pe_g c__law_of hr (by decide) gg (by rfl) (pa_cons (pv 0) (pa_cons (pe_lst (pa_cons pe_int (pa_cons pe_int (pa_cons pe_int (pa_cons pe_int (pa_cons pe_int (pa_cons pe_int (pa_cons pe_int pa_nil)))))))) pa_nil))))
  (pss_cons (ps_set (i := 2) nd rfl (.inl rfl) (pe_g c__law_of hr (by decide) gg (by rfl) (pa_cons (pv 0) (pa_cons pe_str pa_nil))))
  (pss_cons (ps_for PassesOwn.never rfl (pi_range1 rfl nm.m_range (pa_cons (pv 1) pa_nil)) (pg_name (i := 3) nd rfl (.inl rfl))
    (pss_one (ps_set (i := 2) nd rfl (.inl rfl) (pe_op op_addS (pv 2) (pe_g c__law_of hr (by decide) gg (by rfl) (pa_cons (pv 0) (pa_cons pe_str pa_nil)))))))
  (pss_one (ps_ret (pe_op op_addS (pv 2) (pe_op op_mulS pe_str (pe_callTy call_int1 (by rfl) nm.m_int (by decide +kernel) (pa_cons (pe_cmpR op_inT (pe_bm0 PySem.F.plainAttrs_str PySem.F.slot_str_lower PySem.F.type_str_lower mt_lowerS (pv 2)) (pe_g0 c__law_words hr (by decide) gg (by rfl)) (by rfl)) pa_nil))))))))), ?_⟩
    rw [show start ["pot", "while_more", "found", "lap"] [.ref p] = [some (.ref p), none, none, none] from rfl]
    refine ⟨_, rfl, by decide, fun d hd => ?_⟩
    have dp : d ≠ p := fun e => by
      obtain ⟨o, ho⟩ := hp.here
      rw [e, ho] at hd
      cases hd
    refine ⟨p, n, hp.new hd, by omega, .inr ⟨d, [0, 0, 1, 2, 3, 5, 9].map V.int, rfl, dp, upd_same, by simp, by decide, ?_⟩⟩
    intro H1 x k1 pot1 hx
    obtain ⟨i, hi, rfl⟩ := of_ints hx
    obtain ⟨m, rfl, hm⟩ : ∃ m : Nat, i = (m : Int) ∧ m ≤ 9 := by
      have : ∀ i ∈ ([0, 0, 1, 2, 3, 5, 9] : List Int), 0 ≤ i ∧ i ≤ 9 := by decide
      have := this i hi
      exact ⟨i.toNat, by omega, by omega⟩
    have k1' : Kp p H H1 := (Kp.new (Kp.refl p H) hd).trans k1
    refine ⟨_, rfl, ?_⟩
    refine ⟨p, n + 1, pot1, by omega, .inl ⟨let52, by rw [s_52]; rfl, by decide, by decide, ?_⟩⟩
    intro H2 c k2 pot2 hc
    have hl := let52_of c hc
    have hal : isAl c = true := by
      unfold isAl
      rw [hl]
      rfl
    refine ⟨_, rfl, _, rfl, by omega, by omega, ?_⟩
    rw [Int.toNat_natCast]
    refine for_range (n := m) (fun i σ H' => ∃ x4 r, σ = [some (.ref p), some (.int (m : Int)), some (VS (c :: r)), x4] ∧ Kp p H H' ∧ Pot H' p (n + 2 + i) ∧ r.length = i ∧ ∀ d ∈ r, isAl d = true)
      ⟨none, [], rfl, k1'.trans k2, pot2, rfl, fun _ h => absurd h List.not_mem_nil⟩ ?_ ?_
    · rintro i σ H' hi ⟨x4, r, rfl, k, pot, hrl, hra⟩
      refine ⟨_, rfl, _, rfl, p, n + 2 + i, pot, by omega, .inl ⟨al62, by rw [s_62]; rfl, by decide, by decide, ?_⟩⟩
      intro H3 d k3 pot3 hd3
      refine ⟨c :: r, [d], rfl, rfl, by rw [List.length_cons, List.length_singleton]; omega, ?_⟩
      refine ⟨_, r ++ [d], rfl, k.trans k3, pot3, by rw [List.length_append, hrl]; rfl, ?_⟩
      intro z hz
      rcases List.mem_append.mp hz with hz | hz
      · exact hra z hz
      · rw [List.mem_singleton.mp hz]
        exact al62_of d hd3
    · rintro σ H' ⟨x4, r, rfl, k, pot, hrl, hra⟩
      have all : ∀ d ∈ c :: r, isAl d = true := by
        intro z hz
        rcases List.mem_cons.mp hz with hz | hz
        · rw [hz]
          exact hal
        · exact hra z hz
      refine ⟨_, rfl, _, rfl, rfl, c :: r, rfl, rfl, al_asc all, by rw [List.length_cons]; omega, ?_⟩
      refine ⟨rfl, fun H3 d3 sm3 hd3 e3 => ?_⟩
      refine ⟨d3, lawWords, _, rfl, rfl, .inl (.inl (.inl e3)), ?_⟩
      rw [if_neg Bool.false_ne_true]
      refine .inr ⟨_, rfl, ?_⟩
      have pot3 : Pot H3 p (n + 20) := (pot.keep (sm3 p)).mono (by omega)
      have k3 : Kp p H H3 := k.trans (Kp.of_same sm3)
      by_cases hw : (c :: r).map lo ∈ lawWords
      · rw [decide_eq_true hw, if_pos rfl]
        refine ⟨[113], 1, by rw [s_qu], rfl, by decide, by decide, c :: r, [113], rfl, rfl, by rw [List.length_cons, List.length_singleton]; omega, ?_⟩
        refine q _ _ k3 pot3 ⟨⟨c, r ++ [113], rfl, hl⟩, ?_, ?_, ?_⟩
        · intro z hz
          rcases List.mem_append.mp hz with hz | hz
          · exact all z hz
          · rw [List.mem_singleton.mp hz]
            decide
        · rw [List.map_append]
          exact words_q _ ((lawWords_iff _).mp hw)
        · rw [List.length_append, List.length_cons, List.length_singleton]
          omega
      · rw [decide_eq_false hw, if_neg Bool.false_ne_true]
        refine ⟨[113], 0, by rw [s_qu], rfl, by decide, by decide, c :: r, [], rfl, rfl, by rw [List.length_cons, List.length_nil]; omega, ?_⟩
        rw [List.append_nil]
        refine q _ _ k3 pot3 ⟨⟨c, r, rfl, hl⟩, all, ?_, ?_⟩
        · exact fun h => hw ((lawWords_iff _).mpr h)
        · rw [List.length_cons]
          omega
end
end K0

/-! k00: drawn strings and numbers, what may touch -/
namespace K0
open PySem PySem.Spec PyProof.Rows L2 SX
abbrev sString : Stmt := topS 27
abbrev sNumber : Stmt := topS 28
abbrev sTouch : Stmt := topS 30
def strSigns : L := codes "abzAZ019 '''{}(*)+-;:=.,<>[]^!#$&/?@_|~"
theorem strSigns_of : ∀ c ∈ strSigns, c ≠ 10 ∧ c < 128 := by decide +kernel
theorem s_ss : Str.ofString "abzAZ019 '''{}(*)+-;:=.,<>[]^!#$&/?@_|~" = S strSigns := codes_S _
theorem repl_q (x : L) : Txt.replace (S x) (Str.ofString "'") (Str.ofString "''") = S (dblq x) := by
  rw [s_q, s_qq]
  exact TL.ext_tl (StrLaws.replace_double (S x) 39)
theorem asc_alpha : ∀ c, c < 128 → Unicode.isAlpha c = isLet c := by decide +kernel
theorem asc_alnum : ∀ c, c < 128 → Unicode.isAlnum c = isAl c := by decide +kernel
theorem asc_digit : ∀ c, c < 128 → Unicode.isDigit c = isFig c := by decide +kernel
section
variable {X : Cx}
theorem sl_last : SlR X (fun x lo hi H Q => ∃ t : L, x = VS t ∧ lo = some (-1) ∧ hi = none ∧ t ≠ [] ∧ t.length ≤ big ∧ Q (VS (t.drop (t.length - 1))) H) := by
  intro pins s σ H x v vl vu lo hi sl Q I rx hs pl pu h
  obtain ⟨t, rfl, rfl, rfl, ht, hb, q⟩ := h
  exact C8.sl_txt pins s σ H _ v vl vu _ _ sl Q I rx hs pl pu ⟨S t, rfl, by rw [S_len]; exact big_line hb, by rw [slice_last ht]; exact q⟩
theorem sl_first : SlR X (fun x lo hi H Q => ∃ t : L, x = VS t ∧ lo = none ∧ hi = some 1 ∧ t.length ≤ big ∧ Q (VS (t.take 1)) H) := by
  intro pins s σ H x v vl vu lo hi sl Q I rx hs pl pu h
  obtain ⟨t, rfl, rfl, rfl, hb, q⟩ := h
  exact C8.sl_txt pins s σ H _ v vl vu _ _ sl Q I rx hs pl pu ⟨S t, rfl, by rw [S_len]; exact big_line hb, by rw [slice_to (by decide)]; exact q⟩
theorem all_asc {p q : Nat → Bool} (h : ∀ c, c < 128 → p c = q c) {t : L} (ht : asc t) : (S t).cps.all p = t.all q := by
  rw [← Array.all_toList]
  show t.all p = t.all q
  unfold asc at ht
  induction t with
  | nil => rfl
  | cons c r ih =>
    rw [List.all_cons, Bool.and_eq_true, decide_eq_true_eq] at ht
    rw [List.all_cons, List.all_cons, h c ht.1, ih ht.2]
theorem mt_isalphaS : MtR X "str.isalpha" (fun x xs H Q => ∃ t : L, x = VS t ∧ xs = [] ∧ asc t ∧ Q (.bl (decide (t ≠ []) && t.all isLet)) H) := by
  intro pins s σ H x xs v us Q I rx r h
  obtain ⟨t, rfl, rfl, ha, q⟩ := h
  refine mt_isalpha pins s σ H _ _ v us Q I rx r ⟨S t, rfl, rfl, trivial, ?_⟩
  unfold Txt.isalpha
  rw [all_asc asc_alpha ha, S_len, show decide (t.length > 0) = decide (t ≠ []) by rw [Bool.eq_iff_iff, decide_eq_true_eq, decide_eq_true_eq]; exact List.length_pos_iff]
  exact q
theorem mt_isalnumS : MtR X "str.isalnum" (fun x xs H Q => ∃ t : L, x = VS t ∧ xs = [] ∧ asc t ∧ Q (.bl (decide (t ≠ []) && t.all isAl)) H) := by
  intro pins s σ H x xs v us Q I rx r h
  obtain ⟨t, rfl, rfl, ha, q⟩ := h
  refine mt_isalnum pins s σ H _ _ v us Q I rx r ⟨S t, rfl, rfl, trivial, ?_⟩
  unfold Txt.isalnum
  rw [all_asc asc_alnum ha, S_len, show decide (t.length > 0) = decide (t ≠ []) by rw [Bool.eq_iff_iff, decide_eq_true_eq, decide_eq_true_eq]; exact List.length_pos_iff]
  exact q
theorem mt_isdigitS : MtR X "str.isdigit" (fun x xs H Q => ∃ t : L, x = VS t ∧ xs = [] ∧ asc t ∧ Q (.bl (decide (t ≠ []) && t.all isFig)) H) := by
  intro pins s σ H x xs v us Q I rx r h
  obtain ⟨t, rfl, rfl, ha, q⟩ := h
  refine mt_isdigit pins s σ H _ _ v us Q I rx r ⟨S t, rfl, rfl, trivial, ?_⟩
  unfold Txt.isdigit
  rw [all_asc asc_digit ha, S_len, show decide (t.length > 0) = decide (t ≠ []) by rw [Bool.eq_iff_iff, decide_eq_true_eq, decide_eq_true_eq]; exact List.length_pos_iff]
  exact q
end
section
variable {P : Program} {w : World} {K : PySem.W.Frag} {mg : Str → Option Value} {base : Heap} {aW aL : Addr}
theorem two_line (a b : V) : [a, b].length ≤ sizeLine := by
  show 2 ≤ sizeLine
  decide
theorem rep_ones (z c : Nat) : (List.replicate z ([c] : L)).flatten = List.replicate z c := by
  induction z with
  | zero => rfl
  | succ z ih =>
    rw [List.replicate_succ, List.flatten_cons, ih, List.replicate_succ]
    rfl
theorem Same_new {H : Hp} {z : Addr} {o : HO} (n : H z = none) : Same H (upd H z o) := fun b u e => by
  rw [upd_ne (ne_of_none e n)]
  exact e
theorem dblq_le (v : L) : (dblq v).length ≤ 2 * v.length := by
  induction v with
  | nil => exact Nat.le_refl _
  | cons c r ih =>
    unfold dblq StrLaws.dbl
    unfold dblq at ih
    split <;> simp only [List.length_cons] <;> omega
def spString : Sp := fun vs H Q _ => ∃ (p : Addr) (n : Nat), vs = [.ref p] ∧ Pot H p n ∧ n + 20 ≤ big ∧ ∀ H' d (x : L), Kp p H H' → Pot H' p (n + 20) → H d = none → H' d = some (.tup [VS (39 :: (dblq x ++ [39])), VS x]) → x ≠ [] → x.length ≤ 6 → (∀ c ∈ x, c ≠ 10 ∧ c < 128) → Q (.ref d) H'
theorem sc_string : FnScope ["pot", "signs", "lap"] ["pot"] (C8.fnScope sString) := C8.fnScope_by (by decide +kernel)
theorem ok_string (nm : Nm w K mg aW aL) {f : Addr} {fd : FuncData} (D : C8.Def K mg "_law_string" sString f fd) (b : Binds K fd ["pot"] []) (c__law_of : Cg P w K mg base 2 "_law_of" spOf) (c__law_take : Cg P w K mg base 1 "_law_take" spTake) :
    Cg P w K mg base 3 "_law_string" spString := by
  refine cg0 D b sc_string (fun vs H Q E h => ?_) (fun cdv A outer s H vs Q E hr gg h => ?_)
  · obtain ⟨p, n, rfl, _⟩ := h
    rfl
  · obtain ⟨p, n, rfl, hp, hn, q⟩ := h
    have nd := sc_string.nd
    have hbig : big = 1000000 := rfl
    refine ⟨_, (pss_cons (ps_set (i := 1) nd rfl (.inl rfl) (pe_bm PySem.F.plainAttrs_str PySem.F.slot_str_join PySem.F.type_str_join mt_joinS pe_str (pa_cons (pe_lc (own := [("lap", 2)]) (tt := tYes) rfl nd (pi_range1 rfl nm.m_range (pa_cons (pe_op op_add pe_int (pe_g c__law_take hr (by decide) gg (by rfl) (pa_cons (pv 0) (pa_cons pe_int pa_nil)))) pa_nil)) (blkOk_by (N := ["pot", "signs", "lap"]) (sc := C8.fnScope (topS 27)) (by decide +kernel)) (fun _ _ _ _ _ => (pg_name (i := 2) nd rfl (.inl rfl))) (fun _ _ _ _ _ => pts_nil) (fun _ _ _ _ _ => (pe_g c__law_of hr (by decide) gg (by rfl) (pa_cons (pv 0) (pa_cons pe_str pa_nil))))) pa_nil)))
  (pss_one (ps_ret (pe_tup (pa_cons (pe_op op_addS (pe_opK op_addS (CwR.pet_replC (pv 1))) pe_str) (pa_cons (pv 1) pa_nil)))))), ?_⟩
    rw [show start ["pot", "signs", "lap"] [.ref p] = [some (.ref p), none, none] from rfl]
    refine ⟨rfl, _, rfl, p, 6, n, rfl, by decide, by decide, hp, by omega, fun H1 r k1 pot1 r0 r6 => ?_⟩
    refine ⟨1, r, rfl, rfl, 1 + r, rfl, by omega, by omega, fun D hD => ?_⟩
    have dp : D ≠ p := fun e => by
      obtain ⟨o, ho⟩ := pot1.here
      rw [e, ho] at hD
      cases hD
    have hD0 : H D = none := k1.none hp.here pot1.here hD
    refine lc_n (J := Itr 0 (1 + r).toNat) (n := (1 + r).toNat) (fun i H' => Kp p H H' ∧ Pot H' p (n + 1 + i) ∧ ∃ v : L, v.length = i ∧ (∀ c ∈ v, c ≠ 10 ∧ c < 128) ∧ H' D = some (.lst (v.map C1)))
      ⟨Kp.mut k1 hD0, pot1.new hD, [], rfl, fun _ h => absurd h List.not_mem_nil, upd_same⟩ ?_ ?_ ?_ ?_
    · intro i H' hi _
      exact hi
    · intro H' _
      exact Nat.le_refl _
    · rintro i x H' H'' hi ⟨k, pot, v, vl, vt, hv⟩ ⟨rfl, rfl⟩
      refine ⟨rfl, ?_⟩
      refine ⟨_, rfl, p, n + 1 + i, pot, by omega, .inl ⟨strSigns, by rw [s_ss]; rfl, by decide, by decide, fun H3 c k3 pot3 hc => ?_⟩⟩
      refine ⟨_, k3 _ _ dp hv, ?_, Kp.mut (k.trans k3) hD0, ?_, v ++ [c], ?_, ?_, ?_⟩
      · rw [List.length_map, vl]
        exact Nat.lt_of_lt_of_le (show i < 1000 by omega) (by decide)
      · refine pot3.keep fun o ho => ?_
        rw [upd_ne dp.symm]
        exact ho
      · rw [List.length_append, vl]
        rfl
      · intro z hz
        rcases List.mem_append.mp hz with hz | hz
        · exact vt z hz
        · rw [List.mem_singleton.mp hz]
          exact strSigns_of c hc
      · rw [upd_same, List.map_append]
        rfl
    · rintro H' ⟨k, pot, v, vl, vt, hv⟩
      refine ⟨D, v.map fun c => [c], congrArg V.str s_e, rfl, ?_, ?_, ?_⟩
      · rw [List.map_map]
        exact .inl (.inl hv)
      · rw [flatten_ones]
        omega
      rw [flatten_ones]
      have hdq : (dblq v).length ≤ 2 * v.length := dblq_le v
      simp only [tRet, tRetN, tOrV, tAndV, tNotV, tChain, tVar, tC, rI0, rI, tOp, tUn, rU, tCons, tNil, tCB, tTup, tLst, tSeq, tNext, tIfS, tTest, tAnd, tOr, tNot, tB, tSl, tPart, tBM, tBM0, tCall, rEq, rNe, scal, gName, tAsg, tAug, ipI, tIf, tDrop, C8.rSlX, List.getElem?_cons_zero, List.getElem?_cons_succ, Option.some.injEq, V.str.injEq, V.int.injEq, V.bl.injEq, V.ref.injEq, exists_eq_left, exists_eq_left', exists_eq_right, exists_eq_right', exists_and_left, exists_and_right, exists_eq, true_and, and_true, List.set_cons_zero, List.set_cons_succ, List.append_nil, List.nil_append, List.cons_append, List.cons.injEq, reduceIte, Bool.false_eq_true, if_true, if_false, decide_eq_true_eq, lt1, Nat.add_sub_cancel_left, decide_not, Bool.not_eq_true', Bool.not_true, Bool.not_false, decide_eq_false_iff_not, Nat.not_lt, Nat.not_le, tCh, rSlN, rInTS, S_eq, n1, n2, nn, nl, nle, ty_s, slotI, wipe, List.map_cons, List.map_nil, Int.toNat_natCast, and_assoc, tNoPart, tPar, tPar3, CwR.tReplC, repl_q, s_q]
      refine ⟨?_, dblq v, by rw [← s_q, repl_q], ?_, ?_, two_line _ _, fun d hd => ?_⟩
      · rw [S_len, s_qq, S_len, vl, show ([39, 39] : L).length = 2 from rfl]
        omega
      · rw [List.length_singleton]
        omega
      · rw [List.length_cons, List.length_singleton]
        omega
      · refine q _ d v (k.new hd) ((pot.new hd).mono (by omega)) (k.none hp.here pot.here hd) upd_same ?_ (by omega) vt
        intro e
        rw [e, List.length_nil] at vl
        omega
theorem sc_number : FnScope ["pot", "number"] ["pot"] (C8.fnScope sNumber) := C8.fnScope_by (by decide +kernel)
def spNumber : Sp := fun vs H Q _ => ∃ (p : Addr) (n : Nat), vs = [.ref p] ∧ Pot H p n ∧ n + 20 ≤ big ∧ ∀ H' d (k m : Nat), Kp p H H' → Pot H' p (n + 20) → H d = none → H' d = some (.tup [VS (List.replicate k 48 ++ TL.numL m), .int (m : Int)]) → k ≤ 3 → m ≤ 2147483647 → Q (.ref d) H'
theorem ok_number (nm : Nm w K mg aW aL) {f : Addr} {fd : FuncData} (D : C8.Def K mg "_law_number" sNumber f fd) (b : Binds K fd ["pot"] []) (c__law_of : Cg P w K mg base 2 "_law_of" spOf) (c__law_take : Cg P w K mg base 1 "_law_take" spTake) :
    Cg P w K mg base 3 "_law_number" spNumber := by
  refine cg0 D b sc_number (fun vs H Q E h => ?_) (fun cdv A outer s H vs Q E hr gg h => ?_)
  · obtain ⟨p, n, rfl, _⟩ := h
    rfl
  · obtain ⟨p, n, rfl, hp, hn, q⟩ := h
    have nd := sc_number.nd
    have hbig : big = 1000000 := rfl
    refine ⟨_, (pss_cons (ps_set (i := 1) nd rfl (.inl rfl) (pe_g c__law_of hr (by decide) gg (by rfl) (pa_cons (pv 0) (pa_cons (pe_lst (pa_cons pe_int (pa_cons pe_int (pa_cons pe_int (pa_cons pe_int (pa_cons pe_int (pa_cons pe_int (pa_cons pe_int (pa_cons (pe_g c__law_take hr (by decide) gg (by rfl) (pa_cons (pv 0) (pa_cons pe_int pa_nil))) (pa_cons (pe_g c__law_take hr (by decide) gg (by rfl) (pa_cons (pv 0) (pa_cons pe_int pa_nil))) pa_nil)))))))))) pa_nil))))
  (pss_one (ps_ret (pe_tup (pa_cons (pe_op op_addS (pe_op op_mulS pe_str (pe_g c__law_of hr (by decide) gg (by rfl) (pa_cons (pv 0) (pa_cons (pe_lst (pa_cons pe_int (pa_cons pe_int (pa_cons pe_int (pa_cons pe_int (pa_cons pe_int (pa_cons pe_int pa_nil))))))) pa_nil)))) (pe_callTy call_strN (by rfl) nm.m_str (by decide +kernel) (pa_cons (pe_callTy call_int1 (by rfl) nm.m_int (by decide +kernel) (pa_cons (pv 1) pa_nil)) pa_nil))) (pa_cons (pe_callTy call_int1 (by rfl) nm.m_int (by decide +kernel) (pa_cons (pv 1) pa_nil)) pa_nil)))))), ?_⟩
    rw [show start ["pot", "number"] [.ref p] = [some (.ref p), none] from rfl]
    refine ⟨_, rfl, _, rfl, p, 2147483648, n, rfl, by decide, by decide, hp, by omega, fun H1 r1 k1 pot1 r10 r11 => ?_⟩
    refine ⟨_, rfl, p, 1000, n + 1, rfl, by decide, by decide, pot1, by omega, fun H2 r2 k2 pot2 r20 r21 => ?_⟩
    refine ⟨Nat.le_of_ble_eq_true rfl, fun d hd => ?_⟩
    have dp : d ≠ p := fun e => by
      obtain ⟨o, ho⟩ := pot2.here
      rw [e, ho] at hd
      cases hd
    have k2' : Kp p H H2 := k1.trans k2
    refine ⟨p, n + 2, pot2.new hd, by omega, .inr ⟨d, ([0, 1, 9, 10, 255, 2147483647, 2147483646, r1, r2] : List Int).map V.int, rfl, dp, upd_same, by simp, Nat.le_of_ble_eq_true rfl, ?_⟩⟩
    intro H3 x k3 pot3 hx
    obtain ⟨i, hi, rfl⟩ := of_ints hx
    obtain ⟨m, rfl, hm⟩ : ∃ m : Nat, i = (m : Int) ∧ m ≤ 2147483647 := by
      have : 0 ≤ i ∧ i ≤ 2147483647 := by
        simp only [List.mem_cons, List.not_mem_nil, or_false] at hi
        omega
      exact ⟨i.toNat, by omega, by omega⟩
    have k3' : Kp p H H3 := (k2'.new hd).trans k3
    refine ⟨_, rfl, ?_⟩
    refine ⟨Nat.le_of_ble_eq_true rfl, fun d2 hd2 => ?_⟩
    have dp2 : d2 ≠ p := fun e => by
      obtain ⟨o, ho⟩ := pot3.here
      rw [e, ho] at hd2
      cases hd2
    refine ⟨p, n + 3, pot3.new hd2, by omega, .inr ⟨d2, ([0, 0, 0, 0, 1, 3] : List Int).map V.int, rfl, dp2, upd_same, by simp, Nat.le_of_ble_eq_true rfl, ?_⟩⟩
    intro H4 x k4 pot4 hx
    obtain ⟨i, hi, rfl⟩ := of_ints hx
    obtain ⟨z, rfl, hz⟩ : ∃ z : Nat, i = (z : Int) ∧ z ≤ 3 := by
      have : 0 ≤ i ∧ i ≤ 3 := by
        simp only [List.mem_cons, List.not_mem_nil, or_false] at hi
        omega
      exact ⟨i.toNat, by omega, by omega⟩
    have k4' : Kp p H H4 := (k3'.new hd2).trans k4
    refine ⟨[48], z, by rw [s_0], rfl, by decide, by omega, ?_⟩
    rw [rep_ones]
    have ln : (TL.numL m).length ≤ 10 := TL.numL_len (by decide) (by omega)
    refine ⟨_, rfl, .inl ⟨_, rfl, m, rfl, Nat.lt_of_lt_of_le (show m < 2 ^ 40 by omega) (Nat.pow_le_pow_right (by decide) (by decide)), ?_⟩⟩
    refine ⟨List.replicate z 48, TL.numL m, rfl, rfl, by rw [List.length_replicate]; omega, ?_⟩
    refine ⟨_, rfl, .inl ⟨_, rfl, two_line _ _, fun d3 hd3 => ?_⟩⟩
    exact q _ d3 z m (k4'.new hd3) ((pot4.new hd3).mono (by omega)) (k4'.none hp.here pot4.here hd3) upd_same hz hm
def touchB (a b : L) : Bool :=
  match a, b with
  | [], _ => true
  | _, [] => true
  | c :: r, d :: _ => if isLet c = true then !isAl d else if isFig c = true then !isFig d else if (c :: r).drop r.length = [39] then decide (d ≠ 39) else !decide ((c :: r) ++ [d] ∈ (["<=", "<>", ">=", "..", ":=", "(*"] : List String).map codes)
def spTouch : Sp := fun vs H Q _ => ∃ a b : L, vs = [VS a, VS b] ∧ asc a ∧ asc b ∧ a.length ≤ 1000 ∧ b.length ≤ 1000 ∧ ∀ H', Same H H' → Q (.bl (touchB a b)) H'
theorem sc_touch : FnScope ["one", "other", "last", "first"] ["one", "other"] (C8.fnScope sTouch) := C8.fnScope_by (by decide +kernel)
theorem ok_touch (nm : Nm w K mg aW aL) {f : Addr} {fd : FuncData} (D : C8.Def K mg "_law_may_touch" sTouch f fd) (b : Binds K fd ["one", "other"] []) : Cg P w K mg base 1 "_law_may_touch" spTouch := by
  refine cg0 D b sc_touch (fun vs H Q E h => ?_) (fun cdv A outer s H vs Q E hr gg h => ?_)
  · obtain ⟨a, b, rfl, _⟩ := h
    rfl
  · obtain ⟨a, b, rfl, ha, hb, la, lb, q⟩ := h
    have nd := sc_touch.nd
    have hbig : big = 1000000 := rfl
    refine ⟨_, (pss_cons (ps_if (pw_or (pt_cmpR op_eq (pv 0) pe_str (nomark _)) (pw_or1 (pt_cmpR op_eq (pv 1) pe_str (nomark _)))).pt
    (pss_one (ps_ret pe_bl)) pss_nil)
  (pss_cons (ps_par (i := 2) (j := 3) rfl nd rfl rfl (by decide) rfl rfl (pa_cons (pe_slice sl_last (pv 0) (po_some (pe_un un_neg pe_int)) po_none) (pa_cons (pe_slice sl_first (pv 1) po_none (po_some pe_int)) pa_nil)) (by rfl))
  (pss_cons (ps_if (pt_val (pe_bm0 PySem.F.plainAttrs_str PySem.F.slot_str_isalpha PySem.F.type_str_isalpha mt_isalphaS (pe_slice sl_first (pv 0) po_none (po_some pe_int))))
    (pss_one (ps_ret (pe_not (pe_bm0 PySem.F.plainAttrs_str PySem.F.slot_str_isalnum PySem.F.type_str_isalnum mt_isalnumS (pv 3))))) pss_nil)
  (pss_cons (ps_if (pt_val (pe_bm0 PySem.F.plainAttrs_str PySem.F.slot_str_isdigit PySem.F.type_str_isdigit mt_isdigitS (pe_slice sl_first (pv 0) po_none (po_some pe_int))))
    (pss_one (ps_ret (pe_not (pe_bm0 PySem.F.plainAttrs_str PySem.F.slot_str_isdigit PySem.F.type_str_isdigit mt_isdigitS (pv 3))))) pss_nil)
  (pss_cons (ps_if (pt_cmpR op_eq (pv 2) pe_str (nomark _))
    (pss_one (ps_ret (pe_cmpR op_ne (pv 3) pe_str (nomark _)))) pss_nil)
  (pss_one (ps_ret (pe_cmpR op_notInT (pe_op op_addS (pv 0) (pv 3)) (pe_lst (pa_cons pe_str (pa_cons pe_str (pa_cons pe_str (pa_cons pe_str (pa_cons pe_str (pa_cons pe_str pa_nil))))))) (by rfl))))))))), ?_⟩
    rw [show start ["one", "other", "last", "first"] [VS a, VS b] = [some (VS a), some (VS b), none, none] from rfl]
    simp only [tRet, tRetN, tOrV, tAndV, tNotV, tChain, tVar, tC, rI0, rI, tOp, tUn, rU, tCons, tNil, tCB, tTup, tLst, tSeq, tNext, tIfS, tTest, tAnd, tOr, tNot, tB, tSl, tPart, tBM, tBM0, tCall, rEq, rNe, scal, gName, tAsg, tAug, ipI, tIf, tDrop, C8.rSlX, List.getElem?_cons_zero, List.getElem?_cons_succ, Option.some.injEq, V.str.injEq, V.int.injEq, V.bl.injEq, V.ref.injEq, exists_eq_left, exists_eq_left', exists_eq_right, exists_eq_right', exists_and_left, exists_and_right, exists_eq, true_and, and_true, List.set_cons_zero, List.set_cons_succ, List.append_nil, List.nil_append, List.cons_append, List.cons.injEq, reduceIte, Bool.false_eq_true, if_true, if_false, decide_eq_true_eq, lt1, Nat.add_sub_cancel_left, decide_not, Bool.not_eq_true', Bool.not_true, Bool.not_false, decide_eq_false_iff_not, Nat.not_lt, Nat.not_le, tCh, rSlN, rInTS, S_eq, n1, n2, nn, nl, nle, ty_s, slotI, wipe, List.map_cons, List.map_nil, Int.toNat_natCast, and_assoc, tNoPart, tPar, tPar3, s_e, s_q, codes_S]
    cases a with
    | nil =>
      rw [if_pos (by rfl)]
      exact q _ (Same.refl H)
    | cons c r =>
      rw [if_neg (by simp [codes])]
      cases b with
      | nil =>
        rw [if_pos (by rfl)]
        exact q _ (Same.refl H)
      | cons d t =>
        rw [if_neg (by simp [codes])]
        have t1 : List.take 1 (c :: r) = [c] := rfl
        have t2 : List.take 1 (d :: t) = [d] := rfl
        rw [t1, t2]
        have hc : c < 128 := by
          have := ha
          unfold asc at this
          rw [List.all_cons, Bool.and_eq_true, decide_eq_true_eq] at this
          exact this.1
        have hd : d < 128 := by
          have := hb
          unfold asc at this
          rw [List.all_cons, Bool.and_eq_true, decide_eq_true_eq] at this
          exact this.1
        have ac : asc [c] := by
          unfold asc
          simp [hc]
        have ad : asc [d] := by
          unfold asc
          simp [hd]
        have e1 : ∀ (f : Nat → Bool) (z : Nat), (!decide ([z] = ([] : L)) && [z].all f) = f z := by
          intro f z
          simp
        have cl : (c :: r).length ≤ big := by omega
        have dl : (d :: t).length ≤ big := by omega
        rw [e1, e1, e1, e1]
        refine ⟨by simp, cl, dl, cl, ac, ?_⟩
        have eq : touchB (c :: r) (d :: t) = if isLet c = true then !isAl d else if isFig c = true then !isFig d else if (c :: r).drop r.length = [39] then decide (d ≠ 39) else !decide ((c :: r) ++ [d] ∈ (["<=", "<>", ">=", "..", ":=", "(*"] : List String).map codes) := rfl
        rw [eq] at q
        by_cases h1 : isLet c = true
        · rw [if_pos h1]
          rw [if_pos h1] at q
          exact ⟨ad, q _ (Same.refl H)⟩
        rw [if_neg h1]
        rw [if_neg h1] at q
        refine ⟨cl, ac, ?_⟩
        by_cases h2 : isFig c = true
        · rw [if_pos h2]
          rw [if_pos h2] at q
          exact ⟨ad, q _ (Same.refl H)⟩
        rw [if_neg h2]
        rw [if_neg h2] at q
        have e3 : (c :: r).length - 1 = r.length := by rw [List.length_cons, Nat.add_sub_cancel]
        rw [e3, show codes "'" = [39] from by decide +kernel]
        by_cases h3 : List.drop r.length (c :: r) = [39]
        · rw [if_pos h3]
          rw [if_pos h3] at q
          have e4 : (!decide ([d] = [39])) = decide (d ≠ 39) := by
            rw [decide_not]
            congr 1
            simp
          rw [e4]
          exact q _ (Same.refl H)
        rw [if_neg h3]
        rw [if_neg h3] at q
        refine ⟨by rw [List.length_singleton]; omega, by decide, fun z nz => ?_⟩
        refine ⟨(["<=", "<>", ">=", "..", ":=", "(*"] : List String).map codes, .inl (.inl (.inl upd_same)), ?_⟩
        exact q _ (Same_new nz)
end
end K0

/-! k00: drawn tokens -/
namespace K0
open PySem PySem.Spec PyProof.Rows L2 SX
abbrev sToken : Stmt := topS 29
theorem s_ssp : Str.ofString " " = S [32] := codes_S _
def signTexts : List L := (["+", "-", "*", "=", "<", ">", "<>", "<=", ">=", "(", ")", "[", "]", ".", "..", ",", ":", ":=", ";", "^", "<", ">", ".", ":", "(", "*", "=", ">="] : List String).map codes
theorem e_signs : Txt.split (S (codes "+ - * = < > <> <= >= ( ) [ ] . .. , : := ; ^ < > . : ( * = >=")) (S [32]) = signTexts.map S := by
  rw [split_S (by decide +kernel) (by decide +kernel)]
  decide +kernel
theorem signs_ok : ∀ u ∈ signTexts, (∃ c, u = [c] ∧ c ∈ singles) ∨ u ∈ pairsL := by
  intro u hu
  have h : ∀ u ∈ signTexts, ((match u with | [c] => decide (c ∈ singles) | _ => false) || decide (u ∈ pairsL)) = true := by decide +kernel
  have h2 := h u hu
  rw [Bool.or_eq_true, decide_eq_true_eq] at h2
  rcases h2 with h2 | h2
  · left
    match u, h2 with
    | [c], h2 => exact ⟨c, rfl, of_decide_eq_true h2⟩
  · exact .inr h2
theorem signs_asc : ∀ u ∈ signTexts, asc u ∧ u.length ≤ 2 := by
  unfold asc
  decide +kernel
theorem one_line (a : V) : [a].length ≤ sizeLine := by
  show 1 ≤ sizeLine
  decide
theorem three_line (a b c : V) : [a, b, c].length ≤ sizeLine := by
  show 3 ≤ sizeLine
  decide
theorem asc_of {t : L} (h : ∀ c ∈ t, c < 128) : asc t := by
  unfold asc
  rw [List.all_eq_true]
  exact fun c hc => decide_eq_true (h c hc)
theorem dig_asc {t : L} (h : ∀ c ∈ t, isFig c = true) : asc t := asc_of fun c hc => by
  have := h c hc
  unfold isFig at this
  simp only [Bool.and_eq_true, decide_eq_true_eq] at this
  omega
theorem dblq_mem {x : L} {c : Nat} (h : c ∈ dblq x) : c ∈ x := by
  unfold dblq at h
  induction x with
  | nil => exact absurd h List.not_mem_nil
  | cons d r ih =>
    unfold StrLaws.dbl at h
    split at h
    · rcases List.mem_cons.mp h with h | h
      · rw [h]; exact List.mem_cons_self
      rcases List.mem_cons.mp h with h | h
      · rw [h]; exact List.mem_cons_self
      · exact List.mem_cons_of_mem _ (ih h)
    · rcases List.mem_cons.mp h with h | h
      · rw [h]; exact List.mem_cons_self
      · exact List.mem_cons_of_mem _ (ih h)
section
variable {P : Program} {w : World} {K : PySem.W.Frag} {mg : Str → Option Value} {base : Heap} {aW aL : Addr}
def spToken : Sp := fun vs H Q _ => ∃ (p : Addr) (n : Nat), vs = [.ref p] ∧ Pot H p n ∧ n + 50 ≤ big ∧ ∀ H' d (so : String) (u : L) (v : V), Kp p H H' → Pot H' p (n + 50) → H d = none → H' d = some (.tup [.str (Str.ofString so), VS u, v]) → TokOk u so v → u.length ≤ 30 → asc u → Q (.ref d) H'
theorem sc_token : FnScope ["pot", "way", "word", "name", "signs", "sign"] ["pot"] (C8.fnScope sToken) := C8.fnScope_by (by decide +kernel)
theorem ok_token (nm : Nm w K mg aW aL) {f : Addr} {fd : FuncData} (D : C8.Def K mg "_law_token" sToken f fd) (b : Binds K fd ["pot"] []) (c__law_of : Cg P w K mg base 2 "_law_of" spOf) (c__law_take : Cg P w K mg base 1 "_law_take" spTake)
    (c__law_words : Cg P w K mg base 1 "_law_words" spWords) (c__law_spelt : Cg P w K mg base 2 "_law_spelt" spSpelt) (c__law_name : Cg P w K mg base 3 "_law_name" spName) (c__law_string : Cg P w K mg base 3 "_law_string" spString) (c__law_number : Cg P w K mg base 3 "_law_number" spNumber) :
    Cg P w K mg base 4 "_law_token" spToken := by
  refine cg0 D b sc_token (fun vs H Q E h => ?_) (fun cdv A outer s H vs Q E hr gg h => ?_)
  · obtain ⟨p, n, rfl, _⟩ := h
    rfl
  · obtain ⟨p, n, rfl, hp, hn, q⟩ := h
    have nd := sc_token.nd
    have hbig : big = 1000000 := rfl
    refine ⟨_, (pss_cons (ps_set (i := 1) nd rfl (.inl rfl) (pe_g c__law_take hr (by decide) gg (by rfl) (pa_cons (pv 0) (pa_cons pe_int pa_nil))))
  (pss_cons (ps_if (pt_cmpR op_lt (pv 1) pe_int (nomark _))
    (pss_cons (ps_set (i := 2) nd rfl (.inl rfl) (pe_g c__law_of hr (by decide) gg (by rfl) (pa_cons (pv 0) (pa_cons (pe_g0 c__law_words hr (by decide) gg (by rfl)) pa_nil))))
  (pss_one (ps_ret (pe_tup (pa_cons pe_str (pa_cons (pe_g c__law_spelt hr (by decide) gg (by rfl) (pa_cons (pv 0) (pa_cons (pv 2) pa_nil))) (pa_cons (pv 2) pa_nil))))))) pss_nil)
  (pss_cons (ps_if (pt_cmpR op_lt (pv 1) pe_int (nomark _))
    (pss_cons (ps_set (i := 3) nd rfl (.inl rfl) (pe_g c__law_name hr (by decide) gg (by rfl) (pa_cons (pv 0) pa_nil)))
  (pss_one (ps_ret (pe_tup (pa_cons pe_str (pa_cons (pv 3) (pa_cons (pe_bm0 PySem.F.plainAttrs_str PySem.F.slot_str_lower PySem.F.type_str_lower mt_lowerS (pv 3)) pa_nil))))))) pss_nil)
  (pss_cons (ps_if (pt_cmpR op_eq (pv 1) pe_int (nomark _))
    (pss_one (ps_ret (pe_op op_catA (pe_tup (pa_cons pe_str pa_nil)) (pe_g c__law_number hr (by decide) gg (by rfl) (pa_cons (pv 0) pa_nil))))) pss_nil)
  (pss_cons (ps_if (pt_cmpR op_eq (pv 1) pe_int (nomark _))
    (pss_one (ps_ret (pe_op op_catA (pe_tup (pa_cons pe_str pa_nil)) (pe_g c__law_string hr (by decide) gg (by rfl) (pa_cons (pv 0) pa_nil))))) pss_nil)
  (pss_cons (ps_set (i := 4) nd rfl (.inl rfl) (pe_bm PySem.F.plainAttrs_str PySem.F.slot_str_split PySem.F.type_str_split mt_split pe_str (pa_cons pe_str pa_nil)))
  (pss_cons (ps_set (i := 5) nd rfl (.inl rfl) (pe_g c__law_of hr (by decide) gg (by rfl) (pa_cons (pv 0) (pa_cons (pv 4) pa_nil))))
  (pss_one (ps_ret (pe_tup (pa_cons pe_str (pa_cons (pv 5) (pa_cons (pv 5) pa_nil))))))))))))), ?_⟩
    rw [show start ["pot", "way", "word", "name", "signs", "sign"] [.ref p] = [some (.ref p), none, none, none, none, none] from rfl]
    refine ⟨_, rfl, p, 9, n, rfl, by decide, by decide, hp, by omega, fun H1 r k1 pot1 r0 r9 => ?_⟩
    simp only [tRet, tRetN, tOrV, tAndV, tNotV, tChain, tVar, tC, rI0, rI, tOp, tUn, rU, tCons, tNil, tCB, tTup, tLst, tSeq, tNext, tIfS, tTest, tAnd, tOr, tNot, tB, tSl, tPart, tBM, tBM0, tCall, rEq, rNe, scal, gName, tAsg, tAug, ipI, tIf, tDrop, C8.rSlX, List.getElem?_cons_zero, List.getElem?_cons_succ, Option.some.injEq, V.str.injEq, V.int.injEq, V.bl.injEq, V.ref.injEq, exists_eq_left, exists_eq_left', exists_eq_right, exists_eq_right', exists_and_left, exists_and_right, exists_eq, true_and, and_true, List.set_cons_zero, List.set_cons_succ, List.append_nil, List.nil_append, List.cons_append, List.cons.injEq, reduceIte, Bool.false_eq_true, if_true, if_false, decide_eq_true_eq, lt1, Nat.add_sub_cancel_left, decide_not, Bool.not_eq_true', Bool.not_true, Bool.not_false, decide_eq_false_iff_not, Nat.not_lt, Nat.not_le, tCh, rSlN, rInTS, S_eq, n1, n2, nn, nl, nle, ty_s, slotI, wipe, List.map_cons, List.map_nil, Int.toNat_natCast, and_assoc, tNoPart, tPar, tPar3]
    by_cases h2 : r < 2
    · rw [if_pos h2]
      refine ⟨rfl, fun H2 d2 sm2 hd2 e2 => ?_⟩
      have dp : d2 ≠ p := fun e => by
        obtain ⟨o, ho⟩ := pot1.here
        rw [e, ho] at hd2
        cases hd2
      refine ⟨p, n + 1, pot1.keep (sm2 p), by omega, .inr ⟨d2, lawWords.map VS, rfl, dp, e2, by simp [lawWords], by decide, fun H3 x k3 pot3 hx => ?_⟩⟩
      obtain ⟨u, hu, rfl⟩ := List.mem_map.mp hx
      have hu' := (lawWords_iff u).mp hu
      obtain ⟨ul, uc⟩ := words_low u hu'
      refine ⟨p, n + 2, u, rfl, hu', pot3, by omega, fun H4 u' k4 pot4 l4 m4 a4 => ?_⟩
      have kk : Kp p H H4 := ((k1.trans (Kp.of_same sm2)).trans k3).trans k4
      have all : ∀ d ∈ u', isAl d = true := fun d hd => by
        unfold isAl
        rw [a4 d hd]
        rfl
      refine ⟨three_line _ _ _, fun d hd => ?_⟩
      obtain ⟨c, t, ec⟩ : ∃ c t, u' = c :: t := by
        cases u' with
        | nil =>
          have : u = [] := m4.symm
          rw [this] at hu'
          exact absurd hu' (by decide +kernel)
        | cons c t => exact ⟨c, t, rfl⟩
      have hl : isLet c = true := a4 c (by rw [ec]; exact List.mem_cons_self)
      have tk : TokOk u' "word" (VS (u'.map lo)) := TokOk.word ec hl all (by rw [m4]; exact hu')
      rw [m4] at tk
      exact q _ d "word" u' (VS u) (kk.new hd) ((pot4.new hd).mono (by omega)) (kk.none hp.here pot4.here hd) upd_same tk (by omega) (al_asc all)
    rw [if_neg h2]
    by_cases h4 : r < 4
    · rw [if_pos h4]
      refine ⟨p, n + 1, rfl, pot1, by omega, fun H2 u k2 pot2 nu => ?_⟩
      have kk : Kp p H H2 := k1.trans k2
      refine ⟨rfl, u, rfl, al_asc nu.all, by have := nu.len; omega, three_line _ _ _, fun d hd => ?_⟩
      obtain ⟨c, t, ec, hl⟩ := nu.first
      exact q _ d "name" u _ (kk.new hd) ((pot2.new hd).mono (by omega)) (kk.none hp.here pot2.here hd) upd_same (TokOk.name ec hl nu.all nu.out) (by have := nu.len; omega) (al_asc nu.all)
    rw [if_neg h4]
    by_cases h5 : r = 4
    · rw [if_pos h5]
      refine ⟨one_line _, fun d1 hd1 => ?_⟩
      have d1p : d1 ≠ p := fun e => by
        obtain ⟨o, ho⟩ := pot1.here
        rw [e, ho] at hd1
        cases hd1
      refine ⟨p, n + 1, rfl, pot1.new hd1, by omega, fun H2 d2 k m k2 pot2 hd2 e2 hk hm => ?_⟩
      have e1 := k2 d1 _ d1p upd_same
      have kk : Kp p H H2 := (k1.new hd1).trans k2
      refine ⟨d1, d2, _, _, rfl, rfl, .inl (.inl e1), .inl (.inl e2), three_line (.int 0) (.int 0) (.int 0), (fun z => absurd z (by simp)), (fun _ z => absurd z (by simp)), fun _ _ d hd => ?_⟩
      have ln : (TL.numL m).length ≤ 10 := TL.numL_len (by decide) (by omega)
      refine q _ d "number" (List.replicate k 48 ++ TL.numL m) (.int (m : Int)) (kk.new hd) ((pot2.new hd).mono (by omega)) (kk.none hp.here pot2.here hd) upd_same (TokOk.num rfl hm (by omega)) (by rw [List.length_append, List.length_replicate]; omega) ?_
      refine dig_asc fun c hc => num_figs k m c hc
    rw [if_neg h5]
    by_cases h6 : r = 5
    · rw [if_pos h6]
      refine ⟨one_line _, fun d1 hd1 => ?_⟩
      have d1p : d1 ≠ p := fun e => by
        obtain ⟨o, ho⟩ := pot1.here
        rw [e, ho] at hd1
        cases hd1
      refine ⟨p, n + 1, rfl, pot1.new hd1, by omega, fun H2 d2 x k2 pot2 hd2 e2 hx hxl hxc => ?_⟩
      have e1 := k2 d1 _ d1p upd_same
      have kk : Kp p H H2 := (k1.new hd1).trans k2
      refine ⟨d1, d2, _, _, rfl, rfl, .inl (.inl e1), .inl (.inl e2), three_line (.int 0) (.int 0) (.int 0), (fun z => absurd z (by simp)), (fun _ z => absurd z (by simp)), fun _ _ d hd => ?_⟩
      have hdq : (dblq x).length ≤ 2 * x.length := dblq_le x
      refine q _ d "string" (39 :: (dblq x ++ [39])) (VS x) (kk.new hd) ((pot2.new hd).mono (by omega)) (kk.none hp.here pot2.here hd) upd_same (TokOk.str rfl hx fun z => (hxc 10 z).1 rfl) (by rw [List.length_cons, List.length_append, List.length_singleton]; omega) ?_
      refine asc_of fun c hc => ?_
      rcases List.mem_cons.mp hc with hc | hc
      · omega
      rcases List.mem_append.mp hc with hc | hc
      · exact (hxc c (dblq_mem hc)).2
      · rw [List.mem_singleton.mp hc]
        decide
    rw [if_neg h6]
    rw [codes_S "+ - * = < > <> <= >= ( ) [ ] . .. , : := ; ^ < > . : ( * = >=", s_ssp, e_signs]
    refine ⟨by decide +kernel, by decide +kernel, fun d1 hd1 => ?_⟩
    have d1p : d1 ≠ p := fun e => by
      obtain ⟨o, ho⟩ := pot1.here
      rw [e, ho] at hd1
      cases hd1
    refine ⟨p, n + 1, pot1.new hd1, by omega, .inr ⟨d1, signTexts.map VS, rfl, d1p, by rw [upd_same, List.map_map]; rfl, by simp [signTexts], by decide, fun H2 x k2 pot2 hx => ?_⟩⟩
    obtain ⟨u, hu, rfl⟩ := List.mem_map.mp hx
    have kk : Kp p H H2 := (k1.new hd1).trans k2
    obtain ⟨ua, ul⟩ := signs_asc u hu
    refine ⟨three_line _ _ _, fun d hd => ?_⟩
    refine q _ d "sign" u (VS u) (kk.new hd) ((pot2.new hd).mono (by omega)) (kk.none hp.here pot2.here hd) upd_same ?_ (by omega) ua
    rcases signs_ok u hu with ⟨c, rfl, hc⟩ | hu
    · exact TokOk.one hc
    · exact TokOk.two hu
end
end K0

/-! k00: drawn comments and gaps -/
namespace K0
open PySem PySem.Spec PyProof.Rows L2 SX
abbrev sComment : Stmt := topS 31
abbrev sGap : Stmt := topS 32
/-- no end of a comment in it: no sign 125, and 41 only behind a blank -/
def inn : Nat → L → Bool
  | _, [] => true
  | p, c :: r => decide (c ≠ 125) && (decide (c ≠ 41) || decide (p = 32)) && inn c r
theorem inn_mono : ∀ {t : L} {p : Nat}, inn 0 t = true → inn p t = true
  | [], _, _ => rfl
  | c :: r, p, h => by
    unfold inn at h ⊢
    simp only [Bool.and_eq_true, Bool.or_eq_true, decide_eq_true_eq] at h ⊢
    refine ⟨⟨h.1.1, .inl ?_⟩, h.2⟩
    rcases h.1.2 with h | h
    · exact h
    · omega
theorem inn_app : ∀ {a b : L} {p : Nat}, inn p a = true → inn 0 b = true → inn p (a ++ b) = true
  | [], b, p, _, h => inn_mono h
  | c :: r, b, p, h, h2 => by
    unfold inn at h
    show inn p (c :: (r ++ b)) = true
    unfold inn
    simp only [Bool.and_eq_true] at h ⊢
    exact ⟨h.1, inn_app h.2 h2⟩
theorem inn_flat : ∀ {l : List L}, (∀ t ∈ l, inn 0 t = true) → inn 0 l.flatten = true
  | [], _ => rfl
  | t :: r, h => by
    rw [List.flatten_cons]
    exact inn_app (h t List.mem_cons_self) (inn_flat fun u hu => h u (List.mem_cons_of_mem _ hu))
theorem comEnd_cons (c : Nat) (r : L) : comEnd (c :: r) = if c = 125 then some 1 else if c = 42 ∧ r.head? = some 41 then some 2 else (comEnd r).map (· + 1) := rfl
theorem inn_head {t : L} {p c : Nat} (h : inn p t = true) (hp : p ≠ 32) (hc : t.head? = some c) : c ≠ 41 := by
  cases t with
  | nil => cases hc
  | cons d r =>
    obtain rfl := Option.some.inj hc
    unfold inn at h
    simp only [Bool.and_eq_true, Bool.or_eq_true, decide_eq_true_eq] at h
    rcases h.1.2 with h | h
    · exact h
    · omega
theorem inn_com {e : L} (he : e = [125] ∨ e = [42, 41]) (r : L) : ∀ {t : L} {p : Nat}, inn p t = true → comEnd (t ++ e ++ r) = some (t ++ e).length
  | [], p, _ => by
    rcases he with rfl | rfl
    · rfl
    · rfl
  | c :: t, p, h => by
    have h0 := h
    unfold inn at h
    simp only [Bool.and_eq_true, Bool.or_eq_true, decide_eq_true_eq] at h
    have ih := inn_com he r h.2
    show comEnd (c :: (t ++ e ++ r)) = _
    rw [comEnd_cons, if_neg h.1.1, if_neg, ih]
    · rfl
    · rintro ⟨rfl, h3⟩
      cases t with
      | nil => rcases he with rfl | rfl <;> cases h3
      | cons d t => exact inn_head h.2 (by decide) rfl (Option.some.inj h3)
theorem inn_repl {z : L} : ∀ {t : L} {p : Nat}, inn p t = true → StrLaws.replL [42, 41] z t = t
  | [], _, _ => StrLaws.replL_nil
  | c :: t, p, h => by
    unfold inn at h
    simp only [Bool.and_eq_true, Bool.or_eq_true, decide_eq_true_eq] at h
    rw [StrLaws.replL_miss, inn_repl h.2]
    intro e
    cases t with
    | nil => cases e
    | cons d t =>
      have e1 : c = 42 := (List.cons.inj e).1
      have e2 : d = 41 := (List.cons.inj (List.cons.inj e).2).1
      subst e1
      exact inn_head h.2 (by decide) rfl e2
def comTexts : List L := (["a", "'", "{", "(*", "*", "begin", " ", "\n", ";", "12", "(", "* )", "''"] : List String).map codes
theorem com_ok : ∀ t ∈ comTexts, inn 0 t = true := by decide +kernel
theorem com_len : ∀ t ∈ comTexts, t.length ≤ 5 := by decide +kernel
theorem flat_len_le {n : Nat} : ∀ {l : List L}, (∀ t ∈ l, t.length ≤ n) → l.flatten.length ≤ l.length * n
  | [], _ => Nat.zero_le _
  | t :: r, h => by
    rw [List.flatten_cons, List.length_append, List.length_cons, Nat.succ_mul]
    have h1 := h t List.mem_cons_self
    have h2 := flat_len_le (l := r) fun u hu => h u (List.mem_cons_of_mem _ hu)
    omega
theorem ne_pot {H : Hp} {p d : Addr} {n : Nat} (h : Pot H p n) (hd : H d = none) : d ≠ p := fun e => by
  obtain ⟨o, ho⟩ := h.here
  rw [e, ho] at hd
  cases hd
section
variable {P : Program} {w : World} {K : PySem.W.Frag} {mg : Str → Option Value} {base : Heap} {aW aL : Addr}
def spComment : Sp := fun vs H Q _ => ∃ (p : Addr) (n : Nat), vs = [.ref p] ∧ Pot H p n ∧ n + 20 ≤ big ∧ ∀ H' g, Kp p H H' → Pot H' p (n + 20) → GapOk g → g.length ≤ 30 → g.head? = some 123 ∨ g.head? = some 40 → Q (VS g) H'
theorem sc_comment : FnScope ["pot", "some", "inner", "lap"] ["pot"] (C8.fnScope sComment) := C8.fnScope_by (by decide +kernel)
theorem ok_comment (nm : Nm w K mg aW aL) {f : Addr} {fd : FuncData} (D : C8.Def K mg "_law_comment" sComment f fd) (b : Binds K fd ["pot"] []) (c__law_of : Cg P w K mg base 2 "_law_of" spOf) (c__law_take : Cg P w K mg base 1 "_law_take" spTake) :
    Cg P w K mg base 3 "_law_comment" spComment := by
  refine cg0 D b sc_comment (fun vs H Q E h => ?_) (fun cdv A outer s H vs Q E hr gg h => ?_)
  · obtain ⟨p, n, rfl, _⟩ := h
    rfl
  · obtain ⟨p, n, rfl, hp, hn, q⟩ := h
    have nd := sc_comment.nd
    have hbig : big = 1000000 := rfl
    refine ⟨_, (pss_tok (i := 1) nd rfl (.inr rfl) (pa_cons pe_str (pa_cons pe_str (pa_cons pe_str (pa_cons pe_str (pa_cons pe_str (pa_cons pe_str (pa_cons pe_str (pa_cons pe_str (pa_cons pe_str (pa_cons pe_str (pa_cons pe_str (pa_cons pe_str pa_nil))))))))))))
  (psst_cons (PST.of (ps_set (i := 2) nd rfl (.inl rfl) (pe_bm PySem.F.plainAttrs_str PySem.F.slot_str_join PySem.F.type_str_join mt_joinS pe_str (pa_cons (pe_lc (own := [("lap", 3)]) (tt := tYes) rfl nd (pi_range1 rfl nm.m_range (pa_cons (pe_g c__law_take hr (by decide) gg (by rfl) (pa_cons (pv 0) (pa_cons pe_int pa_nil))) pa_nil)) (blkOk_by (N := ["pot", "some", "inner", "lap"]) (sc := C8.fnScope (topS 31)) (by decide +kernel)) (fun _ _ _ _ _ => (pg_name (i := 3) nd rfl (.inl rfl))) (fun _ _ _ _ _ => pts_nil) (fun _ _ _ _ _ => (pe_g c__law_of hr (by decide) gg (by rfl) (pa_cons (pv 0) (pa_cons (pv 1) pa_nil))))) pa_nil))))
  (psst_cons (pst_set (i := 2) nd rfl (.inl rfl) (CwR.pet_replC (pv 2)))
  (PSsT.of (pss_one (ps_ret (pe_op op_addS (pe_op op_addS (pe_g c__law_of hr (by decide) gg (by rfl) (pa_cons (pv 0) (pa_cons (pe_lst (pa_cons pe_str (pa_cons pe_str pa_nil))) pa_nil))) (pv 2)) (pe_g c__law_of hr (by decide) gg (by rfl) (pa_cons (pv 0) (pa_cons (pe_lst (pa_cons pe_str (pa_cons pe_str pa_nil))) pa_nil)))))))))), ?_⟩
    rw [show start ["pot", "some", "inner", "lap"] [.ref p] = [some (.ref p), none, none, none] from rfl]
    refine ⟨Nat.le_of_ble_eq_true rfl, fun d hd => ?_⟩
    have dp : d ≠ p := ne_pot hp hd
    have e0 : [V.str (Str.ofString "a"), V.str (Str.ofString "'"), V.str (Str.ofString "{"), V.str (Str.ofString "(*"), V.str (Str.ofString "*"), V.str (Str.ofString "begin"), V.str (Str.ofString " "), V.str (Str.ofString "\n"), V.str (Str.ofString ";"), V.str (Str.ofString "12"), V.str (Str.ofString "("), V.str (Str.ofString "* )"), V.str (Str.ofString "''")] = comTexts.map VS := by
      simp only [codes_S]
      rfl
    have pot0 := hp.new (q := d) (o := .lst (comTexts.map VS)) hd
    have k0 : Kp p H (upd H d (.lst (comTexts.map VS))) := (Kp.refl p H).new hd
    rw [e0]
    refine ⟨rfl, _, rfl, p, 5, n, rfl, by decide, by decide, pot0, by omega, fun H1 r k1 pot1 r0 r5 => ?_⟩
    have hd1 := k1 d _ dp upd_same
    have k01 := k0.trans k1
    refine ⟨r, rfl, by omega, by omega, fun D hD => ?_⟩
    have Dp : D ≠ p := ne_pot pot1 hD
    have hD0 : H D = none := k01.none hp.here pot1.here hD
    refine lc_n (J := Itr 0 r.toNat) (n := r.toNat) (fun i H' => Kp p H1 H' ∧ Pot H' p (n + 1 + i) ∧ ∃ v : List L, v.length = i ∧ (∀ c ∈ v, c ∈ comTexts) ∧ H' D = some (.lst (v.map VS)))
      ⟨Kp.mut (Kp.refl p H1) hD, pot1.new hD, [], rfl, fun _ h => absurd h List.not_mem_nil, upd_same⟩ ?_ ?_ ?_ ?_
    · intro i H' hi _
      exact hi
    · intro H' _
      exact Nat.le_refl _
    · rintro i x H' H'' hi ⟨k, pot, v, vl, vt, hv⟩ ⟨rfl, rfl⟩
      refine ⟨rfl, ?_⟩
      refine ⟨_, rfl, _, rfl, p, n + 1 + i, pot, by omega, .inr ⟨d, comTexts.map VS, rfl, dp, k d _ dp hd1, by simp [comTexts], by decide, fun H3 c k3 pot3 hc => ?_⟩⟩
      obtain ⟨u, hu, rfl⟩ := List.mem_map.mp hc
      refine ⟨_, k3 _ _ Dp hv, ?_, Kp.mut (k.trans k3) hD, ?_, v ++ [u], ?_, ?_, ?_⟩
      · rw [List.length_map, vl]
        exact Nat.lt_of_lt_of_le (show i < 1000 by omega) (by decide)
      · refine pot3.keep fun o ho => ?_
        rw [upd_ne Dp.symm]
        exact ho
      · rw [List.length_append, vl]
        rfl
      · intro z hz
        rcases List.mem_append.mp hz with hz | hz
        · exact vt z hz
        · rw [List.mem_singleton.mp hz]
          exact hu
      · rw [upd_same, List.map_append]
        rfl
    · rintro H' ⟨k, pot, v, vl, vt, hv⟩
      have fl : v.flatten.length ≤ 20 := by
        have := flat_len_le (n := 5) (l := v) fun t ht => com_len t (vt t ht)
        omega
      have fi : inn 0 v.flatten = true := inn_flat fun t ht => com_ok t (vt t ht)
      refine ⟨D, v, congrArg V.str s_e, rfl, .inl (.inl hv), by omega, ?_⟩
      have kk := k01.trans k
      have er : Txt.replace (S v.flatten) (S [42, 41]) (Str.ofString "* )") = S v.flatten := by
        refine TL.ext_tl ?_
        have h := StrLaws.replace_list (x := S v.flatten) (y := S [42, 41]) (z := Str.ofString "* )") (by decide)
        exact h.trans (inn_repl fi)
      simp only [tRet, tRetN, tOrV, tAndV, tNotV, tChain, tVar, tC, rI0, rI, tOp, tUn, rU, tCons, tNil, tCB, tTup, tLst, tSeq, tNext, tIfS, tTest, tAnd, tOr, tNot, tB, tSl, tPart, tBM, tBM0, tCall, rEq, rNe, scal, gName, tAsg, tAug, ipI, tIf, tDrop, C8.rSlX, List.getElem?_cons_zero, List.getElem?_cons_succ, Option.some.injEq, V.str.injEq, V.int.injEq, V.bl.injEq, V.ref.injEq, exists_eq_left, exists_eq_left', exists_eq_right, exists_eq_right', exists_and_left, exists_and_right, exists_eq, true_and, and_true, List.set_cons_zero, List.set_cons_succ, List.append_nil, List.nil_append, List.cons_append, List.cons.injEq, reduceIte, Bool.false_eq_true, if_true, if_false, decide_eq_true_eq, lt1, Nat.add_sub_cancel_left, decide_not, Bool.not_eq_true', Bool.not_true, Bool.not_false, decide_eq_false_iff_not, Nat.not_lt, Nat.not_le, tCh, rSlN, rInTS, S_eq, n1, n2, nn, nl, nle, ty_s, slotI, wipe, List.map_cons, List.map_nil, Int.toNat_natCast, and_assoc, tNoPart, tPar, tPar3, CwR.tReplC, s_op, er]
      refine ⟨by rw [S_len, show (Str.ofString "* )").length = 3 by decide +kernel]; omega, two_line _ _, fun d2 hd2 => ?_⟩
      have d2p := ne_pot pot hd2
      refine ⟨p, _, pot.new hd2, by omega, .inr ⟨d2, [VS [123], VS [40, 42]], rfl, d2p, by rw [upd_same, s_cu, s_po], by simp, Nat.le_of_ble_eq_true rfl, fun H3 x k3 pot3 hx => ?_⟩⟩
      have kk3 := (kk.new hd2).trans k3
      obtain ⟨o, ho, rfl⟩ : ∃ o : L, (o = [123] ∨ o = [40, 42]) ∧ x = VS o := by
        rcases List.mem_cons.mp hx with hx | hx
        · exact ⟨_, .inl rfl, hx⟩
        · exact ⟨_, .inr rfl, List.mem_singleton.mp hx⟩
      have ol : o.length ≤ 2 := by rcases ho with rfl | rfl <;> decide
      refine ⟨o, rfl, by omega, two_line _ _, fun d3 hd3 => ?_⟩
      have d3p := ne_pot pot3 hd3
      refine ⟨p, _, pot3.new hd3, by omega, .inr ⟨d3, [VS [125], VS [42, 41]], rfl, d3p, by rw [upd_same, s_uc], by simp, Nat.le_of_ble_eq_true rfl, fun H4 x k4 pot4 hx => ?_⟩⟩
      have kk4 := (kk3.new hd3).trans k4
      obtain ⟨e, he, rfl⟩ : ∃ e : L, (e = [125] ∨ e = [42, 41]) ∧ x = VS e := by
        rcases List.mem_cons.mp hx with hx | hx
        · exact ⟨_, .inl rfl, hx⟩
        · exact ⟨_, .inr rfl, List.mem_singleton.mp hx⟩
      have el : e.length ≤ 2 := by rcases he with rfl | rfl <;> decide
      refine ⟨e, rfl, by rw [List.length_append]; omega, ?_⟩
      refine q _ _ kk4 (pot4.mono (by omega)) ?_ (by rw [List.length_append, List.length_append]; omega) (by rcases ho with rfl | rfl <;> simp)
      exact .inr (.inr ⟨o, v.flatten ++ e, ho, List.append_assoc _ _ _, fun r => inn_com he r fi⟩)
theorem s_gsp2 : Str.ofString "  " = S [32, 32] := codes_S _
theorem s_gsnp : Str.ofString " \n " = S [32, 10, 32] := codes_S _
theorem s_gnn : Str.ofString "\n\n" = S [10, 10] := codes_S _
/-- what may stand between two tokens -/
structure Between (gs : List L) : Prop where
  ok : ∀ g ∈ gs, GapOk g
  len : gs.flatten.length ≤ 100
  head : ∀ c, gs.flatten.head? = some c → c = 32 ∨ c = 10 ∨ c = 123 ∨ c = 40
def spGap : Sp := fun vs H Q _ => ∃ (p : Addr) (n : Nat) (a b : L), vs = [.ref p, VS a, VS b] ∧ asc a ∧ asc b ∧ a.length ≤ 1000 ∧ b.length ≤ 1000 ∧ Pot H p n ∧ n + 50 ≤ big ∧ ∀ H' gs, Kp p H H' → Pot H' p (n + 50) → Between gs → (gs = [] → touchB a b = true) → Q (VS gs.flatten) H'
theorem sc_gap : FnScope ["pot", "one", "other", "found"] ["pot", "one", "other"] (C8.fnScope sGap) := C8.fnScope_by (by decide +kernel)
theorem ok_gap (nm : Nm w K mg aW aL) {f : Addr} {fd : FuncData} (D : C8.Def K mg "_law_gap" sGap f fd) (b : Binds K fd ["pot", "one", "other"] []) (c__law_of : Cg P w K mg base 2 "_law_of" spOf) (c__law_take : Cg P w K mg base 1 "_law_take" spTake)
    (c__law_may_touch : Cg P w K mg base 1 "_law_may_touch" spTouch) (c__law_comment : Cg P w K mg base 3 "_law_comment" spComment) :
    Cg P w K mg base 4 "_law_gap" spGap := by
  refine cg0 D b sc_gap (fun vs H Q E h => ?_) (fun cdv A outer s H vs Q E hr gg h => ?_)
  · obtain ⟨p, n, x, y, rfl, _⟩ := h
    rfl
  · obtain ⟨p, n, x, y, rfl, ax, ay, lx, ly, hp, hn, q⟩ := h
    have nd := sc_gap.nd
    have hbig : big = 1000000 := rfl
    refine ⟨_, (C8.pss_cut (ps_if (pw_and (pt_val (pe_g c__law_may_touch hr (by decide) gg (by rfl) (pa_cons (pv 1) (pa_cons (pv 2) pa_nil)))) (pw_and1 (pt_cmpR op_eq (pe_g c__law_take hr (by decide) gg (by rfl) (pa_cons (pv 0) (pa_cons pe_int pa_nil))) pe_int (nomark _)))).pt
    (pss_one (ps_ret pe_str)) pss_nil)
  (pss_cons (ps_set (i := 3) nd rfl (.inl rfl) (pe_g c__law_of hr (by decide) gg (by rfl) (pa_cons (pv 0) (pa_cons (pe_lst (pa_cons pe_str (pa_cons pe_str (pa_cons pe_str (pa_cons pe_str (pa_cons pe_str (pa_cons (pe_g c__law_comment hr (by decide) gg (by rfl) (pa_cons (pv 0) pa_nil)) (pa_cons (pe_op op_addS (pe_op op_addS pe_str (pe_g c__law_comment hr (by decide) gg (by rfl) (pa_cons (pv 0) pa_nil))) pe_str) pa_nil)))))))) pa_nil))))
  (pss_one (ps_ret (pv 3))))), ?_⟩
    rw [show start ["pot", "one", "other", "found"] [.ref p, VS x, VS y] = [some (.ref p), some (VS x), some (VS y), none] from rfl]
    refine ⟨fun σ H1 => σ = [some (.ref p), some (VS x), some (VS y), none] ∧ Kp p H H1 ∧ Pot H1 p (n + 1), ?_, ?_⟩
    · simp only [tRet, tRetN, tOrV, tAndV, tNotV, tChain, tVar, tC, rI0, rI, tOp, tUn, rU, tCons, tNil, tCB, tTup, tLst, tSeq, tNext, tIfS, tTest, tAnd, tOr, tNot, tB, tSl, tPart, tBM, tBM0, tCall, rEq, rNe, scal, gName, tAsg, tAug, ipI, tIf, tDrop, C8.rSlX, List.getElem?_cons_zero, List.getElem?_cons_succ, Option.some.injEq, V.str.injEq, V.int.injEq, V.bl.injEq, V.ref.injEq, exists_eq_left, exists_eq_left', exists_eq_right, exists_eq_right', exists_and_left, exists_and_right, exists_eq, true_and, and_true, List.set_cons_zero, List.set_cons_succ, List.append_nil, List.nil_append, List.cons_append, List.cons.injEq, reduceIte, Bool.false_eq_true, if_true, if_false, decide_eq_true_eq, lt1, Nat.add_sub_cancel_left, decide_not, Bool.not_eq_true', Bool.not_true, Bool.not_false, decide_eq_false_iff_not, Nat.not_lt, Nat.not_le, tCh, rSlN, rInTS, S_eq, n1, n2, nn, nl, nle, ty_s, slotI, wipe, List.map_cons, List.map_nil, Int.toNat_natCast, and_assoc, tNoPart, tPar, tPar3]
      refine ⟨x, y, rfl, ax, ay, lx, ly, fun H1 sm1 => ?_⟩
      have k1 := Kp.of_same (p := p) sm1
      have pot1 := hp.keep (H' := H1) (sm1 p)
      refine ⟨_, rfl, ?_⟩
      by_cases ht : touchB x y = true
      · rw [if_pos ht]
        refine ⟨p, 2, n, rfl, by decide, by decide, pot1, by omega, fun H2 r k2 pot2 r0 r2 => ?_⟩
        refine ⟨rfl, ?_⟩
        by_cases hr0 : r = 0
        · subst hr0
          rw [if_pos rfl, s_e]
          exact q _ [] (k1.trans k2) (pot2.mono (by omega)) ⟨fun g h => absurd h List.not_mem_nil, by decide, fun c h => by cases h⟩ fun _ => ht
        · rw [if_neg fun e => hr0 (V.int.inj e)]
          exact ⟨k1.trans k2, pot2⟩
      · rw [if_neg ht]
        exact ⟨k1, pot1.mono (by omega)⟩
    · rintro σ H1 ⟨rfl, k1, pot1⟩
      simp only [tRet, tRetN, tOrV, tAndV, tNotV, tChain, tVar, tC, rI0, rI, tOp, tUn, rU, tCons, tNil, tCB, tTup, tLst, tSeq, tNext, tIfS, tTest, tAnd, tOr, tNot, tB, tSl, tPart, tBM, tBM0, tCall, rEq, rNe, scal, gName, tAsg, tAug, ipI, tIf, tDrop, C8.rSlX, List.getElem?_cons_zero, List.getElem?_cons_succ, Option.some.injEq, V.str.injEq, V.int.injEq, V.bl.injEq, V.ref.injEq, exists_eq_left, exists_eq_left', exists_eq_right, exists_eq_right', exists_and_left, exists_and_right, exists_eq, true_and, and_true, List.set_cons_zero, List.set_cons_succ, List.append_nil, List.nil_append, List.cons_append, List.cons.injEq, reduceIte, Bool.false_eq_true, if_true, if_false, decide_eq_true_eq, lt1, Nat.add_sub_cancel_left, decide_not, Bool.not_eq_true', Bool.not_true, Bool.not_false, decide_eq_false_iff_not, Nat.not_lt, Nat.not_le, tCh, rSlN, rInTS, S_eq, n1, n2, nn, nl, nle, ty_s, slotI, wipe, List.map_cons, List.map_nil, Int.toNat_natCast, and_assoc, tNoPart, tPar, tPar3]
      refine ⟨p, n + 1, rfl, pot1, by omega, fun H2 g k2 pot2 ok2 l2 h2 => ?_⟩
      refine ⟨p, _, rfl, pot2, by omega, fun H3 g' k3 pot3 ok3 l3 h3 => ?_⟩
      refine ⟨[32], s_ssp, g', rfl, by rw [List.length_singleton]; omega, [32], s_ssp, by rw [List.length_append, List.length_singleton]; omega, Nat.le_of_ble_eq_true rfl, fun d hd => ?_⟩
      have kk := (k1.trans k2).trans k3
      have dp := ne_pot pot3 hd
      refine ⟨p, _, pot3.new hd, by omega, .inr ⟨d, [VS [32], VS [10], VS [32, 32], VS [32, 10, 32], VS [10, 10], VS g, VS ([32] ++ g' ++ [32])], rfl, dp, ?_, by simp, Nat.le_of_ble_eq_true rfl, fun H4 v k4 pot4 hv => ?_⟩⟩
      · rw [upd_same]
        rw [s_ssp, s_nl, s_gsp2, s_gsnp, s_gnn]
      have kk4 := (kk.new hd).trans k4
      have pot5 := pot4.mono (k := n + 50) (by omega)
      have fin : ∀ gs : List L, v = VS gs.flatten → Between gs → gs ≠ [] → Q v H4 := fun gs e bt ne => by
        rw [e]
        exact q _ gs kk4 pot5 bt fun z => absurd z ne
      have o32 : GapOk [32] := .inl rfl
      have o10 : GapOk [10] := .inr (.inl rfl)
      have g0 : ∀ {c : Nat}, g.head? = some c → c = 123 ∨ c = 40 := fun e => by
        rcases h2 with h | h <;> rw [h] at e <;> cases e <;> simp
      simp only [List.mem_cons, List.not_mem_nil, or_false] at hv
      rcases hv with rfl | rfl | rfl | rfl | rfl | rfl | rfl
      · exact fin [[32]] rfl ⟨by simp [o32], by decide, by simp⟩ (by simp)
      · exact fin [[10]] rfl ⟨by simp [o10], by decide, by simp⟩ (by simp)
      · exact fin [[32], [32]] rfl ⟨by simp [o32], by decide, by simp⟩ (by simp)
      · exact fin [[32], [10], [32]] rfl ⟨by simp [o32, o10], by decide, by simp⟩ (by simp)
      · exact fin [[10], [10]] rfl ⟨by simp [o10], by decide, by simp⟩ (by simp)
      · refine fin [g] (by simp) ⟨by simp [ok2], by simp; omega, fun c hc => ?_⟩ (by simp)
        rw [List.flatten_cons, List.flatten_nil, List.append_nil] at hc
        rcases g0 hc with h | h <;> simp [h]
      · refine fin [[32], g', [32]] (by simp) ⟨by simp [ok3, o32], by simp; omega, fun c hc => ?_⟩ (by simp)
        simp at hc
        exact .inl hc.symm
end
end K0

/-! k00: drawn rows of tokens -/
namespace K0
open PySem PySem.Spec PyProof.Rows L2 SX
abbrev sRow : Stmt := topS 33
theorem flat_ne {els : List El} (ok : ElsOk els) (h : els ≠ []) : flat els ≠ [] := by
  cases els with
  | nil => exact absurd rfl h
  | cons e r =>
    intro z
    rw [flat_cons] at z
    have z1 := (List.append_eq_nil_iff.mp z).1
    cases e with
    | gap g =>
      have h1 := gap_pos ok.1
      have z2 : g = [] := z1
      rw [z2] at h1
      exact absurd h1 (by decide)
    | tok w so v =>
      have h1 := (tok_of ok.1 ok.2.1).2
      have z2 : w = [] := z1
      rw [z2] at h1
      exact absurd h1 (by decide)
theorem head_app {a b : L} (h : a ≠ []) : (a ++ b).head? = a.head? := by
  cases a with
  | nil => exact absurd rfl h
  | cons c r => rfl
theorem els_app {a b : List El} (ha : ElsOk a) (hb : ElsOk b) (h : ∀ x w so v, a = x ++ [El.tok w so v] → Fol w (flat b)) : ElsOk (a ++ b) := by
  induction a with
  | nil => exact hb
  | cons e r ih =>
    cases e with
    | gap g => exact ⟨ha.1, ih ha.2 fun x w so v q => h (.gap g :: x) w so v (by rw [q]; rfl)⟩
    | tok w so v =>
      refine ⟨ha.1, ?_, ih ha.2.2 fun x w' so' v' q => h (.tok w so v :: x) w' so' v' (by rw [q]; rfl)⟩
      by_cases hr : r = []
      · subst hr
        exact h [] w so v rfl
      · have h1 := ha.2.1
        intro c hc
        have hc2 : (flat (r ++ b)).head? = some c := hc
        rw [flat_app, head_app (flat_ne ha.2.2 hr)] at hc2
        exact h1 c hc2
def Tail (els : List El) (w : L) : Prop := (w = [] ∧ ∀ e ∈ els, ∃ g, e = El.gap g) ∨ (∃ a so v, els = a ++ [El.tok w so v] ∧ TokOk w so v ∧ asc w ∧ w.length ≤ 30)
theorem sing_four : ∀ d ∈ singles, ∀ c ∈ ([32, 10, 123, 40] : L), [d] ++ [c] ∉ pairsL ∧ [d] ++ [c] ≠ [40, 42] := by decide +kernel
theorem sing_not : ∀ d ∈ singles, isLet d = false ∧ isFig d = false ∧ d ≠ 39 := by decide +kernel
theorem pair_form : ∀ w ∈ pairsL, ∃ d e, w = [d, e] ∧ isLet d = false ∧ isFig d = false ∧ d ≠ 39 ∧ e ≠ 39 := by
  intro w hw
  have h : ∀ w ∈ pairsL, (match w with | [d, e] => decide (isLet d = false ∧ isFig d = false ∧ d ≠ 39 ∧ e ≠ 39) | _ => false) = true := by decide +kernel
  have h2 := h w hw
  match w, h2 with
  | [d, e], h2 => exact ⟨d, e, rfl, of_decide_eq_true h2⟩
theorem pair_two : ∀ w ∈ pairsL, w.length = 2 := by decide +kernel
theorem fig_not_let {c : Nat} (h : isFig c = true) : isLet c = false := by
  unfold isFig at h
  unfold isLet
  simp only [Bool.and_eq_true, decide_eq_true_eq] at h
  simp only [Bool.or_eq_false_iff, Bool.and_eq_false_iff, decide_eq_false_iff_not]
  omega
/-- how a token begins -/
theorem tok_form {w : L} {so : String} {v : V} (h : TokOk w so v) : ∃ d r, w = d :: r ∧ (isLet d = true ∨ (isLet d = false ∧ isFig d = true) ∨ (isLet d = false ∧ isFig d = false ∧ ((d = 39 ∧ w.drop r.length = [39]) ∨ (d ≠ 39 ∧ w.drop r.length ≠ [39] ∧ ((r = [] ∧ d ∈ singles) ∨ w.length = 2))))) := by
  cases h with
  | @word _ c w' e hl hall hw => exact ⟨c, w', e, .inl hl⟩
  | @name _ c w' e hl hall hw => exact ⟨c, w', e, .inl hl⟩
  | @num _ m k eu hm hk =>
    cases w with
    | nil => exact absurd (List.append_eq_nil_iff.mp eu.symm).2 (TL.numL_ne m)
    | cons c w' =>
      have hf := num_figs k m c (by rw [← eu]; exact List.mem_cons_self)
      exact ⟨c, w', rfl, .inr (.inl ⟨fig_not_let hf, hf⟩)⟩
  | @str _ x eu hx h10 =>
    refine ⟨39, dblq x ++ [39], eu, .inr (.inr ⟨by decide, by decide, .inl ⟨rfl, ?_⟩⟩)⟩
    rw [eu, List.length_append]
    show List.drop ((dblq x).length + 1) (39 :: (dblq x ++ [39])) = [39]
    rw [List.drop_succ_cons, List.drop_left' rfl]
  | @one c hc =>
    obtain ⟨h1, h2, h3⟩ := sing_not c hc
    exact ⟨c, [], rfl, .inr (.inr ⟨h1, h2, .inr ⟨h3, fun e => h3 (List.cons.inj e).1, .inl ⟨rfl, hc⟩⟩⟩)⟩
  | two hw =>
    obtain ⟨d, e, rfl, h1, h2, h3, h4⟩ := pair_form w hw
    exact ⟨d, [e], rfl, .inr (.inr ⟨h1, h2, .inr ⟨h3, fun z => h4 (List.cons.inj z).1, .inr rfl⟩⟩)⟩
theorem may_eq (d : Nat) (r : L) (c : Nat) : may (d :: r) c = (if isLet d = true then isAl c = false else if isFig d = true then isFig c = false else if d = 39 then c ≠ 39 else (d :: r) ++ [c] ∉ pairsL ∧ (d :: r) ++ [c] ≠ [40, 42]) := rfl
theorem four_not : ∀ c ∈ ([32, 10, 123, 40] : L), isAl c = false ∧ isFig c = false ∧ c ≠ 39 := by decide +kernel
theorem three_not {w : L} {c : Nat} (h : w.length = 2) : w ++ [c] ∉ pairsL ∧ w ++ [c] ≠ [40, 42] := by
  constructor
  · intro z
    have := pair_two _ z
    rw [List.length_append, h, List.length_singleton] at this
    omega
  · intro z
    have := congrArg List.length z
    rw [List.length_append, h, List.length_singleton] at this
    exact absurd this (by decide)
theorem may_four {w : L} {so : String} {v : V} (h : TokOk w so v) {c : Nat} (hc : c ∈ ([32, 10, 123, 40] : L)) : may w c := by
  obtain ⟨d, r, rfl, h1⟩ := tok_form h
  obtain ⟨c1, c2, c3⟩ := four_not c hc
  rw [may_eq]
  rcases h1 with h1 | ⟨h1, h2⟩ | ⟨h1, h2, h3⟩
  · rw [if_pos h1]; exact c1
  · rw [if_neg (by rw [h1]; decide), if_pos h2]; exact c2
  · rw [if_neg (by rw [h1]; decide), if_neg (by rw [h2]; decide)]
    rcases h3 with ⟨h3, _⟩ | ⟨h3, _, h4⟩
    · rw [if_pos h3]; exact c3
    · rw [if_neg h3]
      rcases h4 with ⟨rfl, h4⟩ | h4
      · exact sing_four d h4 c hc
      · exact three_not h4
def six : List L := (["<=", "<>", ">=", "..", ":=", "(*"] : List String).map codes
theorem six_of : (∀ w ∈ pairsL, w ∈ six) ∧ ([40, 42] : L) ∈ six := by decide +kernel
theorem may_touch {w : L} {so : String} {v : V} (h : TokOk w so v) {c : Nat} {t : L} (hc : touchB w (c :: t) = true) : may w c := by
  obtain ⟨d, r, rfl, h1⟩ := tok_form h
  have eq : touchB (d :: r) (c :: t) = if isLet d = true then !isAl c else if isFig d = true then !isFig c else if (d :: r).drop r.length = [39] then decide (c ≠ 39) else !decide ((d :: r) ++ [c] ∈ six) := rfl
  rw [eq] at hc
  rw [may_eq]
  rcases h1 with h1 | ⟨h1, h2⟩ | ⟨h1, h2, h3⟩
  · rw [if_pos h1] at hc ⊢
    rw [Bool.not_eq_true'] at hc
    exact hc
  · rw [if_neg (by rw [h1]; decide), if_pos h2] at hc ⊢
    rw [Bool.not_eq_true'] at hc
    exact hc
  · rw [if_neg (by rw [h1]; decide), if_neg (by rw [h2]; decide)] at hc ⊢
    rcases h3 with ⟨h3, h5⟩ | ⟨h3, h5, h4⟩
    · rw [if_pos h5] at hc
      rw [if_pos h3]
      exact of_decide_eq_true hc
    · rw [if_neg h5, Bool.not_eq_true', decide_eq_false_iff_not] at hc
      rw [if_neg h3]
      exact ⟨fun z => hc (six_of.1 _ z), fun z => hc (by rw [z]; exact six_of.2)⟩
theorem els_gaps {gs : List L} (h : ∀ g ∈ gs, GapOk g) : ElsOk (gs.map El.gap) := by
  induction gs with
  | nil => trivial
  | cons g r ih => exact ⟨h g List.mem_cons_self, ih fun x hx => h x (List.mem_cons_of_mem _ hx)⟩
theorem flat_gaps (gs : List L) : flat (gs.map El.gap) = gs.flatten := by
  induction gs with
  | nil => rfl
  | cons g r ih =>
    rw [List.map_cons, flat_cons, ih, List.flatten_cons]
    rfl
theorem due_gaps (p : Nat × Nat) (gs : List L) : due p (gs.map El.gap) = [] := by
  induction gs generalizing p with
  | nil => rfl
  | cons g r ih => exact ih _
theorem bt_four {gs : List L} (bt : Between gs) {c : Nat} (h : gs.flatten.head? = some c) : c ∈ ([32, 10, 123, 40] : L) := by
  have := bt.head c h
  simp only [List.mem_cons, List.not_mem_nil, or_false]
  exact this
theorem bt_ne {gs : List L} (bt : Between gs) (h : gs ≠ []) : gs.flatten ≠ [] := by
  rw [← flat_gaps]
  exact flat_ne (els_gaps bt.ok) fun z => h (List.map_eq_nil_iff.mp z)
/-- a tail of blanks -/
theorem row_end {els : List El} {w : L} {gs : List L} (ok : ElsOk els) (tl : Tail els w) (bt : Between gs) : ElsOk (els ++ gs.map El.gap) := by
  refine els_app ok (els_gaps bt.ok) fun x w' so v e => ?_
  rcases tl with ⟨_, hg⟩ | ⟨a, so2, v2, e2, tk, _⟩
  · obtain ⟨g, hg⟩ := hg (.tok w' so v) (by rw [e]; simp)
    cases hg
  · have e3 := List.append_inj_right' (e2.symm.trans e) rfl
    have e4 := (List.cons.inj e3).1
    injection e4 with e5 e6 e7
    subst e5
    intro c hc
    rw [flat_gaps] at hc
    exact may_four tk (bt_four bt hc)
theorem row_step {els : List El} {w : L} {gs : List L} {u : L} {so : String} {v : V} (ok : ElsOk els) (tl : Tail els w) (bt : Between gs) (tk : TokOk u so v) (ht : w ≠ [] → gs = [] → touchB w u = true) : ElsOk (els ++ (gs.map El.gap ++ [El.tok u so v])) := by
  have okb : ElsOk (gs.map El.gap ++ [El.tok u so v]) := els_app (els_gaps bt.ok) (b := [El.tok u so v]) ⟨tk, (fun c hc => nomatch hc), trivial⟩ fun x w' so' v' e => by
    have hm : El.tok w' so' v' ∈ gs.map El.gap := by rw [e]; simp
    obtain ⟨g, _, hg⟩ := List.mem_map.mp hm
    cases hg
  refine els_app ok okb fun x w' so' v' e => ?_
  rcases tl with ⟨_, hg⟩ | ⟨a, so2, v2, e2, tk2, _⟩
  · obtain ⟨g, hg⟩ := hg (.tok w' so' v') (by rw [e]; simp)
    cases hg
  · have e3 := List.append_inj_right' (e2.symm.trans e) rfl
    have e4 := (List.cons.inj e3).1
    injection e4 with e5 e6 e7
    subst e5
    intro c hc
    rw [flat_app, flat_gaps] at hc
    have fu : flat [El.tok u so v] = u := by
      rw [flat_cons, flat_nil, List.append_nil]
      rfl
    by_cases hg : gs = []
    · subst hg
      have wn : w ≠ [] := fun z => by
        subst z
        exact absurd (tok_of tk2 (r := []) fun c hc => by cases hc).2 (by decide)
      have h1 := ht wn rfl
      have hc2 : u.head? = some c := by
        rw [fu] at hc
        exact hc
      cases u with
      | nil => cases hc2
      | cons d t =>
        obtain rfl := Option.some.inj hc2
        exact may_touch tk2 h1
    · rw [head_app (bt_ne bt hg)] at hc
      exact may_four tk2 (bt_four bt hc)
theorem due_step (els : List El) (gs : List L) (u : L) (so : String) (v : V) : due (1, 1) (els ++ (gs.map El.gap ++ [El.tok u so v])) = due (1, 1) els ++ [(so, v, (adv (1, 1) (flat els ++ gs.flatten)).1, (adv (1, 1) (flat els ++ gs.flatten)).2)] := by
  rw [due_app, due_app, due_gaps, flat_gaps, List.nil_append, adv_app]
  rfl
theorem pre_one (c : Nat) (r : L) : TL.pre [10] (c :: r) = decide (c = 10) := by
  rw [Bool.eq_iff_iff]
  simp [TL.pre]
/-- pieces between line feeds -/
theorem feeds : ∀ (t acc : L) (p : Nat × Nat), p.2 = 1 + acc.length → ∃ ini last, TL.spl [10] 0 acc t = ini ++ [last] ∧ ini.length + p.1 = (adv p t).1 ∧ 1 + last.length = (adv p t).2 ∧ last.length ≤ acc.length + t.length
  | [], acc, p, h => ⟨[], acc, TL.spl_nil _ _ _, by simp [adv], by simp [adv, h], by simp⟩
  | c :: r, acc, p, h => by
    by_cases hc : c = 10
    · subst hc
      obtain ⟨ini, last, e, h1, h2, h3⟩ := feeds r [] (p.1 + 1, 1) rfl
      refine ⟨acc :: ini, last, ?_, ?_, ?_, ?_⟩
      · rw [TL.spl_hit (pre_one 10 r)]
        show acc :: TL.spl [10] 0 [] r = _
        rw [e]
        rfl
      · rw [List.length_cons, ← (show adv (p.1 + 1, 1) r = adv p (10 :: r) from rfl), ← h1]
        show ini.length + 1 + p.1 = ini.length + (p.1 + 1)
        omega
      · exact h2
      · simp only [List.length_nil, List.length_cons] at h3 ⊢
        omega
    · obtain ⟨ini, last, e, h1, h2, h3⟩ := feeds r (acc ++ [c]) (p.1, p.2 + 1) (by rw [List.length_append, List.length_singleton]; show p.2 + 1 = _; omega)
      have ea : adv p (c :: r) = adv (p.1, p.2 + 1) r := by
        show adv (if c = 10 then (p.1 + 1, 1) else (p.1, p.2 + 1)) r = _
        rw [if_neg hc]
      refine ⟨ini, last, ?_, ?_, ?_, ?_⟩
      · rw [TL.spl_miss ((pre_one c r).trans (decide_eq_false hc))]
        exact e
      · rw [ea]
        exact h1
      · rw [ea]
        exact h2
      · rw [List.length_append] at h3
        simp only [List.length_cons, List.length_nil] at h3 ⊢
        omega
end K0

/-! k00: drawn rows of tokens, the def -/
namespace K0
open PySem PySem.Spec PyProof.Rows L2 SX
theorem Pot.mut {H : Hp} {p d : Addr} {n : Nat} {o : HO} (h : Pot H p n) (ne : d ≠ p) : Pot (upd H d o) p n := h.keep fun z hz => by
  rw [upd_ne ne.symm]
  exact hz
section
variable {P : Program} {w : World} {K : PySem.W.Frag} {mg : Str → Option Value} {base : Heap} {aW aL : Addr}
def spRow : Sp := fun vs H Q _ => ∃ (p : Addr) (n : Nat), vs = [.ref p] ∧ Pot H p n ∧ n + 3000 ≤ big ∧ ∀ H' d d2 els (ps : List Addr), Kp p H H' → Pot H' p (n + 3000) → H d2 = none → H d = none → H' d2 = some (.tup [VS (flat els), .ref d]) → H' d = some (.lst (ps.map V.ref)) →
  RowsAt H' ps (due (1, 1) els) → ElsOk els → (flat els).length ≤ 4000 → (∀ u so v, El.tok u so v ∈ els → asc u) → Q (.ref d2) H'
theorem sc_row : FnScope ["pot", "text", "due", "ahead", "lap", "sort", "written", "told", "before"] ["pot"] (C8.fnScope sRow) := C8.fnScope_by (by decide +kernel)
theorem ok_row (nm : Nm w K mg aW aL) {f : Addr} {fd : FuncData} (D : C8.Def K mg "_law_row" sRow f fd) (b : Binds K fd ["pot"] []) (c__law_of : Cg P w K mg base 2 "_law_of" spOf) (c__law_take : Cg P w K mg base 1 "_law_take" spTake)
    (c__law_token : Cg P w K mg base 4 "_law_token" spToken) (c__law_gap : Cg P w K mg base 4 "_law_gap" spGap) :
    Cg P w K mg base 5 "_law_row" spRow := by
  refine cg0 D b sc_row (fun vs H Q E h => ?_) (fun cdv A outer s H vs Q E hr gg h => ?_)
  · obtain ⟨p, n, rfl, _⟩ := h
    rfl
  · obtain ⟨p, n, rfl, hp, hn, q⟩ := h
    have nd := sc_row.nd
    have hbig : big = 1000000 := rfl
    refine ⟨_, (C8.pss_cut (ps_par3 (i := 1) (j := 2) (l := 3) rfl nd rfl rfl rfl (by decide) (by decide) (by decide) rfl rfl rfl (pa_cons (pe_ifExp (pt_cmpR op_eq (pe_g c__law_take hr (by decide) gg (by rfl) (pa_cons (pv 0) (pa_cons pe_int pa_nil))) pe_int (nomark _)) (pe_g c__law_gap hr (by decide) gg (by rfl) (pa_cons (pv 0) (pa_cons pe_str (pa_cons pe_str pa_nil)))) pe_str) (pa_cons (pe_lst pa_nil) (pa_cons pe_str pa_nil))) (by rfl))
  (pss_cons (ps_for PassesOwn.never rfl (pi_range1 rfl nm.m_range (pa_cons (pe_g c__law_of hr (by decide) gg (by rfl) (pa_cons (pv 0) (pa_cons (pe_lst (pa_cons pe_int (pa_cons pe_int (pa_cons pe_int (pa_cons pe_int (pa_cons pe_int (pa_cons pe_int (pa_cons pe_int pa_nil)))))))) pa_nil))) pa_nil)) (pg_name (i := 4) nd rfl (.inl rfl))
    (pss_cons (ps_asg (pe_g c__law_token hr (by decide) gg (by rfl) (pa_cons (pv 0) pa_nil)) (pg_tup rfl (pgs_cons (pg_name (i := 5) nd rfl (.inl rfl)) (pgs_cons (pg_name (i := 6) nd rfl (.inl rfl)) (pgs_cons (pg_name (i := 7) nd rfl (.inl rfl)) pgs_nil)))))
  (C8.pss_cut (ps_set (i := 1) nd rfl (.inl rfl) (pe_ifExp (pt_cmpR op_ne (pv 3) pe_str (nomark _)) (pe_op op_addS (pv 1) (pe_g c__law_gap hr (by decide) gg (by rfl) (pa_cons (pv 0) (pa_cons (pv 3) (pa_cons (pv 6) pa_nil))))) (pv 1)))
  (pss_cons (ps_set (i := 8) nd rfl (.inl rfl) (pe_bm PySem.F.plainAttrs_str PySem.F.slot_str_split PySem.F.type_str_split mt_split (pv 1) (pa_cons pe_str pa_nil)))
  (pss_cons (ps_expr (pe_bm PySem.F.plainAttrs_list PySem.F.slot_list_append PySem.F.type_list_append mt_append (pv 2) (pa_cons (pe_tup (pa_cons (pv 5) (pa_cons (pv 7) (pa_cons (pe_callB call_len_seq (by rfl) nm.m_len (by decide +kernel) (pa_cons (pv 8) pa_nil)) (pa_cons (pe_op op_add pe_int (pe_callB call_lenS (by rfl) nm.m_len (by decide +kernel) (pa_cons (pe_ix ix_list (pv 8) (pe_un un_neg pe_int) (fun _ _ => rfl)) pa_nil))) pa_nil))))) pa_nil)))
  (pss_one (ps_par (i := 1) (j := 3) rfl nd rfl rfl (by decide) rfl rfl (pa_cons (pe_op op_addS (pv 1) (pv 6)) (pa_cons (pv 6) pa_nil)) (by rfl))))))))
  (pss_one (ps_ret (pe_tup (pa_cons (pe_op op_addS (pv 1) (pe_ifExp (pt_cmpR op_eq (pe_g c__law_take hr (by decide) gg (by rfl) (pa_cons (pv 0) (pa_cons pe_int pa_nil))) pe_int (nomark _)) (pe_g c__law_gap hr (by decide) gg (by rfl) (pa_cons (pv 0) (pa_cons pe_str (pa_cons pe_str pa_nil)))) pe_str)) (pa_cons (pv 2) pa_nil))))))), ?_⟩
    rw [show start ["pot", "text", "due", "ahead", "lap", "sort", "written", "told", "before"] [.ref p] = [some (.ref p), none, none, none, none, none, none, none, none] from rfl]
    refine ⟨fun σ H1 => ∃ (gs : List L) (d : Addr), Between gs ∧ Kp p H H1 ∧ Pot H1 p (n + 51) ∧ H d = none ∧ H1 d = some (.lst []) ∧
      σ = [some (.ref p), some (VS gs.flatten), some (.ref d), some (VS []), none, none, none, none, none], ?_, ?_⟩
    · simp only [tRet, tRetN, tOrV, tAndV, tNotV, tChain, tVar, tC, rI0, rI, tOp, tUn, rU, tCons, tNil, tCB, tTup, tLst, tSeq, tNext, tIfS, tTest, tAnd, tOr, tNot, tB, tSl, tPart, tBM, tBM0, tCall, rEq, rNe, scal, gName, tAsg, tAug, ipI, tIf, tDrop, C8.rSlX, List.getElem?_cons_zero, List.getElem?_cons_succ, Option.some.injEq, V.str.injEq, V.int.injEq, V.bl.injEq, V.ref.injEq, exists_eq_left, exists_eq_left', exists_eq_right, exists_eq_right', exists_and_left, exists_and_right, exists_eq, true_and, and_true, List.set_cons_zero, List.set_cons_succ, List.append_nil, List.nil_append, List.cons_append, List.cons.injEq, reduceIte, Bool.false_eq_true, if_true, if_false, decide_eq_true_eq, lt1, Nat.add_sub_cancel_left, decide_not, Bool.not_eq_true', Bool.not_true, Bool.not_false, decide_eq_false_iff_not, Nat.not_lt, Nat.not_le, tCh, rSlN, rInTS, S_eq, n1, n2, nn, nl, nle, ty_s, slotI, wipe, List.map_cons, List.map_nil, Int.toNat_natCast, and_assoc, tNoPart, tPar, tPar3]
      refine ⟨p, 2, n, rfl, by decide, by decide, hp, by omega, fun H1 r k1 pot1 r0 r2 => ?_⟩
      refine ⟨rfl, ?_⟩
      by_cases hr0 : r = 0
      · subst hr0
        rw [if_pos rfl]
        refine ⟨p, n + 1, [], [], by rw [s_e], rfl, rfl, by decide, by decide, pot1, by omega, fun H2 gs k2 pot2 bt _ => ?_⟩
        have kk := k1.trans k2
        refine ⟨Nat.zero_le _, fun d hd => ⟨gs, bt, kk.new hd, (pot2.new hd).mono (by omega), d, kk.none hp.here pot2.here hd, upd_same, rfl, rfl, s_e⟩⟩
      · rw [if_neg fun e => hr0 (V.int.inj e)]
        refine ⟨Nat.zero_le _, fun d hd => ⟨[], ⟨fun g h => absurd h List.not_mem_nil, by decide, fun c h => by cases h⟩, k1.new hd, (pot1.new hd).mono (by omega), d, k1.none hp.here pot1.here hd, upd_same, s_e, rfl, s_e⟩⟩
    · rintro σ H1 ⟨gs, d, bt, k1, pot1, hd, hd1, rfl⟩
      have dp : d ≠ p := ne_pot hp hd
      refine ⟨_, rfl, Nat.le_of_ble_eq_true rfl, fun d3 hd3 => ?_⟩
      refine ⟨p, n + 51, pot1.new hd3, by omega, .inr ⟨d3, ([0, 1, 2, 5, 9, 16, 24] : List Int).map V.int, rfl, ne_pot pot1 hd3, upd_same, by simp, Nat.le_of_ble_eq_true rfl, fun H2 x k2 pot2 hx => ?_⟩⟩
      obtain ⟨i, hi, rfl⟩ := of_ints hx
      obtain ⟨m, rfl, hm⟩ : ∃ m : Nat, i = (m : Int) ∧ m ≤ 24 := by
        have : 0 ≤ i ∧ i ≤ 24 := by
          simp only [List.mem_cons, List.not_mem_nil, or_false] at hi
          omega
        exact ⟨i.toNat, by omega, by omega⟩
      have hd2 : H2 d = some (.lst []) := k2 d _ dp (by rw [upd_ne (ne_of_none hd1 hd3)]; exact hd1)
      have k12 : Kp p H H2 := (k1.new hd3).trans k2
      refine ⟨_, rfl, by omega, by omega, ?_⟩
      rw [Int.toNat_natCast]
      have hgl : (flat (gs.map El.gap)).length ≤ 100 := by
        rw [flat_gaps]
        exact bt.len
      refine for_range (n := m) (fun i σ H' => ∃ (els : List El) (ah : L) (ps : List Addr) (x4 x5 x6 x7 x8 : Option V), σ = [some (.ref p), some (VS (flat els)), some (.ref d), some (VS ah), x4, x5, x6, x7, x8] ∧ Kp p H H' ∧ Pot H' p (n + 52 + 100 * i) ∧ H' d = some (.lst (ps.map V.ref)) ∧
          RowsAt H' ps (due (1, 1) els) ∧ ElsOk els ∧ (flat els).length ≤ 100 + 130 * i ∧ ps.length = i ∧ Tail els ah ∧ ∀ u so v, El.tok u so v ∈ els → asc u)
        ⟨gs.map El.gap, [], [], none, none, none, none, none, by rw [flat_gaps], k12, pot2.mono (by omega), hd2, by rw [due_gaps]; exact .nil, els_gaps bt.ok, hgl, rfl, .inl ⟨rfl, fun e he => by
          obtain ⟨g, _, hg⟩ := List.mem_map.mp he
          exact ⟨g, hg.symm⟩⟩, fun u so v hm => by
          obtain ⟨g, _, hg⟩ := List.mem_map.mp hm
          cases hg⟩ ?_ ?_
      · rintro i σ H' hi ⟨els, ah, ps, x4, x5, x6, x7, x8, rfl, k, pot, hdl, hrows, eok, elen, plen, tl, tas⟩
        refine ⟨_, rfl, p, _, rfl, pot, by omega, fun H3 t so u v k3 pot3 ht et tk ul ua => ?_⟩
        have hd3' := k3 d _ dp hdl
        refine ⟨t, _, rfl, .inl (.inl et), rfl, _, _, rfl, _, _, rfl, _, _, rfl, rfl, ?_⟩
        have kk3 := k.trans k3
        have rows3 : RowsAt H3 ps (due (1, 1) els) := rows_keep hrows fun b z hz => k3 b _ (fun e => by
          subst e
          obtain ⟨a, m', c, e2, _⟩ := pot.ex
          rw [e2] at hz
          cases hz) hz
        refine ⟨fun σ2 H4 => ∃ gs2 : List L, Between gs2 ∧ (ah ≠ [] → gs2 = [] → touchB ah u = true) ∧ Kp p H3 H4 ∧ Pot H4 p (n + 52 + 100 * i + 100) ∧
          σ2 = [some (.ref p), some (VS (flat els ++ gs2.flatten)), some (.ref d), some (VS ah), some (.int ((0 : Int) + (i : Nat))), some (.str (Str.ofString so)), some (VS u), some v, x8], ?_, ?_⟩
        · simp only [tRet, tRetN, tOrV, tAndV, tNotV, tChain, tVar, tC, rI0, rI, tOp, tUn, rU, tCons, tNil, tCB, tTup, tLst, tSeq, tNext, tIfS, tTest, tAnd, tOr, tNot, tB, tSl, tPart, tBM, tBM0, tCall, rEq, rNe, scal, gName, tAsg, tAug, ipI, tIf, tDrop, C8.rSlX, List.getElem?_cons_zero, List.getElem?_cons_succ, Option.some.injEq, V.str.injEq, V.int.injEq, V.bl.injEq, V.ref.injEq, exists_eq_left, exists_eq_left', exists_eq_right, exists_eq_right', exists_and_left, exists_and_right, exists_eq, true_and, and_true, List.set_cons_zero, List.set_cons_succ, List.append_nil, List.nil_append, List.cons_append, List.cons.injEq, reduceIte, Bool.false_eq_true, if_true, if_false, decide_eq_true_eq, lt1, Nat.add_sub_cancel_left, decide_not, Bool.not_eq_true', Bool.not_true, Bool.not_false, decide_eq_false_iff_not, Nat.not_lt, Nat.not_le, tCh, rSlN, rInTS, S_eq, n1, n2, nn, nl, nle, ty_s, slotI, wipe, List.map_cons, List.map_nil, Int.toNat_natCast, and_assoc, tNoPart, tPar, tPar3, s_e]
          by_cases ha : ah = []
          · rw [if_neg (not_not_intro ha)]
            exact ⟨[], ⟨fun g h => absurd h List.not_mem_nil, by decide, fun c h => by cases h⟩, fun z => absurd ha z, Kp.refl p H3, pot3.mono (by omega), by rw [List.flatten_nil, List.append_nil]⟩
          · rw [if_pos ha]
            have aa : asc ah ∧ ah.length ≤ 30 := by
              rcases tl with ⟨z, _⟩ | ⟨_, _, _, _, _, z1, z2⟩
              · exact absurd z ha
              · exact ⟨z1, z2⟩
            refine ⟨p, _, ah, u, rfl, aa.1, ua, by omega, by omega, pot3, by omega, fun H4 gs2 k4 pot4 bt2 tch => ?_⟩
            have := bt2.len
            exact ⟨gs2.flatten, rfl, by omega, gs2, bt2, fun _ z => tch z, k4, pot4.mono (by omega), rfl⟩
        · rintro σ2 H4 ⟨gs2, bt2, tch, k4, pot4, rfl⟩
          have kk4 := kk3.trans k4
          have hd4 := k4 d _ dp hd3'
          simp only [tRet, tRetN, tOrV, tAndV, tNotV, tChain, tVar, tC, rI0, rI, tOp, tUn, rU, tCons, tNil, tCB, tTup, tLst, tSeq, tNext, tIfS, tTest, tAnd, tOr, tNot, tB, tSl, tPart, tBM, tBM0, tCall, rEq, rNe, scal, gName, tAsg, tAug, ipI, tIf, tDrop, C8.rSlX, List.getElem?_cons_zero, List.getElem?_cons_succ, Option.some.injEq, V.str.injEq, V.int.injEq, V.bl.injEq, V.ref.injEq, exists_eq_left, exists_eq_left', exists_eq_right, exists_eq_right', exists_and_left, exists_and_right, exists_eq, true_and, and_true, List.set_cons_zero, List.set_cons_succ, List.append_nil, List.nil_append, List.cons_append, List.cons.injEq, reduceIte, Bool.false_eq_true, if_true, if_false, decide_eq_true_eq, lt1, Nat.add_sub_cancel_left, decide_not, Bool.not_eq_true', Bool.not_true, Bool.not_false, decide_eq_false_iff_not, Nat.not_lt, Nat.not_le, tCh, rSlN, rInTS, S_eq, n1, n2, nn, nl, nle, ty_s, slotI, wipe, List.map_cons, List.map_nil, Int.toNat_natCast, and_assoc, tNoPart, tPar, tPar3]
          have gl := bt2.len
          have fl2 : (flat els ++ gs2.flatten).length ≤ 200 + 130 * i := by rw [List.length_append]; omega
          obtain ⟨ini, last, es, el1, el2, el3⟩ := feeds (flat els ++ gs2.flatten) [] (1, 1) rfl
          rw [s_nl, split_S (by decide) (by decide), es]
          refine ⟨by decide, by rw [S_len]; exact Nat.le_trans (show _ ≤ 1000000 by omega) (by decide), fun d5 hd5 => ?_⟩
          have d5p := ne_pot pot4 hd5
          have d5d : d ≠ d5 := ne_of_none hd4 hd5
          have hd5' : upd H4 d5 (.lst (((ini ++ [last]).map S).map V.str)) d = some (.lst (ps.map V.ref)) := by
            rw [upd_ne d5d]
            exact hd4
          refine ⟨.inl ⟨rfl, _, .inl (.inl hd5')⟩, d5, rfl, _, .inl (.inl (.inl upd_same)), ?_⟩
          refine ⟨d5, ini.map VS ++ [VS last], -1, VS last, rfl, rfl, .inl (.inl (by rw [upd_same, List.map_map, List.map_append]; rfl)), atI_last _ _, last, rfl, by simp only [List.length_nil] at el3; omega, Nat.le_of_ble_eq_true rfl, fun d6 hd6 => ?_⟩
          have ln : (((ini ++ [last]).map S).map V.str).length = ini.length + 1 := by simp
          rw [ln]
          have d6d : d ≠ d6 := ne_of_none hd5' hd6
          have d6d5 : d5 ≠ d6 := ne_of_none upd_same hd6
          refine ⟨d, _, _, rfl, rfl, by rw [upd_ne d6d]; exact hd5', ?_, ?_⟩
          · rw [List.length_map, plen]
            exact Nat.lt_of_lt_of_le (show i < 1000 by omega) (by decide)
          refine ⟨by omega, els ++ (gs2.map El.gap ++ [El.tok u so v]), ?_, ?_, ?_, ps ++ [d6], ?_, ?_, ?_, ?_, ?_, ?_, ?_⟩
          · rw [flat_app, flat_app, flat_gaps, List.append_assoc]
            congr 2
            rw [flat_cons, flat_nil, List.append_nil]
            rfl
          · refine Kp.mut (Kp.new (Kp.new kk4 hd5) hd6) hd
          · refine (((pot4.new hd5).new hd6).mut dp).mono (by omega)
          · rw [upd_same, List.map_append]
            rfl
          · rw [due_step]
            refine Paired.snoc (rows_keep rows3 ?_) ?_
            · intro b z hz
              have h1 := k4 b _ (fun e => by
                subst e
                obtain ⟨a, m', c, e2, _⟩ := pot3.ex
                rw [e2] at hz
                cases hz) hz
              rw [upd_ne (ne_of h1 hd4 (fun x => by cases x)), upd_ne (ne_of_none (show upd H4 d5 _ b = some (.tup z) by rw [upd_ne (ne_of_none h1 hd5)]; exact h1) hd6), upd_ne (ne_of_none h1 hd5)]
              exact h1
            · rw [upd_ne d6d.symm, upd_same, ← el1, ← el2]
              have e1 : ((ini.length + 1 : Nat) : Int) = ((ini.length + (1, 1).1 : Nat) : Int) := rfl
              show some (HO.tup [V.str (Str.ofString so), v, V.int ((ini.length + 1 : Nat) : Int), V.int (1 + (last.length : Int))]) = some (HO.tup [V.str (Str.ofString so), v, V.int ((ini.length + 1 : Nat) : Int), V.int ((1 + last.length : Nat) : Int)])
              rw [Int.natCast_add]
              rfl
          · exact row_step eok tl bt2 tk tch
          · rw [flat_app, flat_app, flat_gaps, List.length_append, List.length_append, flat_cons, flat_nil, List.append_nil]
            show _ + (_ + u.length) ≤ _
            omega
          · rw [List.length_append, plen, List.length_singleton]
          · exact .inr ⟨els ++ gs2.map El.gap, so, v, by rw [List.append_assoc], tk, ua, ul⟩
          · intro u' so' v' hm
            rcases List.mem_append.mp hm with hm | hm
            · exact tas u' so' v' hm
            rcases List.mem_append.mp hm with hm | hm
            · obtain ⟨g, _, hg⟩ := List.mem_map.mp hm
              cases hg
            · have e := List.mem_singleton.mp hm
              injection e with e1 e2 e3
              rw [e1]
              exact ua
      · rintro σ H' ⟨els, ah, ps, x4, x5, x6, x7, x8, rfl, k, pot, hdl, hrows, eok, elen, plen, tl, tas⟩
        simp only [tRet, tRetN, tOrV, tAndV, tNotV, tChain, tVar, tC, rI0, rI, tOp, tUn, rU, tCons, tNil, tCB, tTup, tLst, tSeq, tNext, tIfS, tTest, tAnd, tOr, tNot, tB, tSl, tPart, tBM, tBM0, tCall, rEq, rNe, scal, gName, tAsg, tAug, ipI, tIf, tDrop, C8.rSlX, List.getElem?_cons_zero, List.getElem?_cons_succ, Option.some.injEq, V.str.injEq, V.int.injEq, V.bl.injEq, V.ref.injEq, exists_eq_left, exists_eq_left', exists_eq_right, exists_eq_right', exists_and_left, exists_and_right, exists_eq, true_and, and_true, List.set_cons_zero, List.set_cons_succ, List.append_nil, List.nil_append, List.cons_append, List.cons.injEq, reduceIte, Bool.false_eq_true, if_true, if_false, decide_eq_true_eq, lt1, Nat.add_sub_cancel_left, decide_not, Bool.not_eq_true', Bool.not_true, Bool.not_false, decide_eq_false_iff_not, Nat.not_lt, Nat.not_le, tCh, rSlN, rInTS, S_eq, n1, n2, nn, nl, nle, ty_s, slotI, wipe, List.map_cons, List.map_nil, Int.toNat_natCast, and_assoc, tNoPart, tPar, tPar3]
        refine ⟨p, 2, _, rfl, by decide, by decide, pot, by omega, fun H3 r k3 pot3 r0 r2 => ?_⟩
        have kk3 := k.trans k3
        have hd3' := k3 d _ dp hdl
        have rows3 : RowsAt H3 ps (due (1, 1) els) := rows_keep hrows fun b z hz => k3 b _ (fun e => by
          subst e
          obtain ⟨a, m', c, e2, _⟩ := pot.ex
          rw [e2] at hz
          cases hz) hz
        have fin : ∀ (H4 : Hp) (gs2 : List L), Kp p H3 H4 → Pot H4 p (n + 52 + 100 * m + 60) → Between gs2 → True → ∀ q2, H4 q2 = none → Q (.ref q2) (upd H4 q2 (.tup [.str (S (flat els ++ gs2.flatten)), .ref d])) := by
          intro H4 gs2 k4 pot4 bt2 _ q2 hq
          have hd4 := k4 d _ dp hd3'
          have kk4 := kk3.trans k4
          have fe : flat els ++ gs2.flatten = flat (els ++ gs2.map El.gap) := by rw [flat_app, flat_gaps]
          have gl := bt2.len
          have rows4 : RowsAt (upd H4 q2 (.tup [.str (S (flat els ++ gs2.flatten)), .ref d])) ps (due (1, 1) els) := rows_keep rows3 fun b z hz => by
            have h1 := k4 b _ (fun e => by
              subst e
              obtain ⟨a, m', c, e2, _⟩ := pot3.ex
              rw [e2] at hz
              cases hz) hz
            rw [upd_ne (ne_of_none h1 hq)]
            exact h1
          refine q _ d q2 (els ++ gs2.map El.gap) ps (kk4.new hq) ((pot4.new hq).mono (by omega)) (kk4.none hp.here pot4.here hq) hd ?_ ?_ ?_ (row_end eok tl bt2) ?_ ?_
          · rw [upd_same, fe]
          · rw [upd_ne (ne_of_none hd4 hq)]
            exact hd4
          · rw [due_app, due_gaps, List.append_nil]
            exact rows4
          · rw [← fe, List.length_append]
            omega
          · intro u' so' v' hm
            rcases List.mem_append.mp hm with hm | hm
            · exact tas u' so' v' hm
            · obtain ⟨g, _, hg⟩ := List.mem_map.mp hm
              cases hg
        refine ⟨rfl, ?_⟩
        by_cases hr0 : r = 0
        · subst hr0
          rw [if_pos rfl]
          refine ⟨p, _, [], [], by rw [s_e], rfl, rfl, by decide, by decide, pot3, by omega, fun H4 gs2 k4 pot4 bt2 _ => ?_⟩
          have gl := bt2.len
          exact ⟨gs2.flatten, rfl, by omega, two_line _ _, fun q2 hq => fin H4 gs2 k4 (pot4.mono (by omega)) bt2 trivial q2 hq⟩
        · rw [if_neg fun e => hr0 (V.int.inj e)]
          refine ⟨[], s_e, by rw [List.length_nil]; omega, two_line _ _, fun q2 hq => ?_⟩
          exact fin H3 [] (Kp.refl p H3) (pot3.mono (by omega)) ⟨fun g h => absurd h List.not_mem_nil, by decide, fun c h => by cases h⟩ trivial q2 hq
end
end K0

section
set_option maxHeartbeats 4000000
/-! k00: texts without comments -/
namespace K0
open PySem PySem.Spec PyProof.Rows L2 SX
abbrev sPlain : Stmt := topS 34
abbrev sSmall : Stmt := topS 35
def bl (c : Nat) : Nat := if c = 10 then 10 else 32
/-- a text without its comments, sign by sign: signs to skip, the state (1 in a comment, 2 in a string) -/
def pl : Nat → Nat → L → L
  | _, _, [] => []
  | k + 1, st, _ :: r => pl k st r
  | 0, st, c :: r =>
    if st = 1 then (if c = 42 ∧ r.head? = some 41 then 32 :: 32 :: pl 1 0 r else bl c :: pl 0 (if c = 125 then 0 else 1) r)
    else if st = 2 then (if c = 39 ∧ r.head? = some 39 then 39 :: 39 :: pl 1 2 r else c :: pl 0 (if c = 39 then 0 else 2) r)
    else if c = 40 ∧ r.head? = some 42 then 32 :: 32 :: pl 1 1 r else if c = 123 then 32 :: pl 0 1 r else c :: pl 0 (if c = 39 then 2 else 0) r
theorem two_iff {c a b : Nat} {r : L} : (c = a ∧ r.take 1 = [b]) ↔ (c = a ∧ r.head? = some b) := by
  cases r with
  | nil => simp
  | cons d t => simp
theorem two_not {c a b : Nat} {r : L} (h : ¬ c :: r.take 1 = [a, b]) : ¬ (c = a ∧ r.head? = some b) := by
  rintro ⟨rfl, h2⟩
  cases r with
  | nil => cases h2
  | cons d t =>
    obtain rfl := Option.some.inj h2
    exact h rfl
theorem two_yes {c a b : Nat} {r : L} (h : c :: r.take 1 = [a, b]) : c = a ∧ r.head? = some b := by
  cases r with
  | nil => cases h
  | cons d t =>
    have h1 := (List.cons.inj h).1
    have h2 := (List.cons.inj (List.cons.inj h).2).1
    exact ⟨h1, congrArg some h2⟩
theorem pl_skip (st : Nat) (r : L) : pl 1 st r = pl 0 st (r.drop 1) := by
  cases r with
  | nil => rfl
  | cons c r => rfl
theorem pl0 (c : Nat) (r : L) : pl 0 0 (c :: r) = if c = 40 ∧ r.head? = some 42 then 32 :: 32 :: pl 0 1 (r.drop 1) else if c = 123 then 32 :: pl 0 1 r else c :: pl 0 (if c = 39 then 2 else 0) r := by
  rw [← pl_skip]
  rfl
theorem pl1 (c : Nat) (r : L) : pl 0 1 (c :: r) = if c = 42 ∧ r.head? = some 41 then 32 :: 32 :: pl 0 0 (r.drop 1) else bl c :: pl 0 (if c = 125 then 0 else 1) r := by
  rw [← pl_skip]
  rfl
theorem pl2 (c : Nat) (r : L) : pl 0 2 (c :: r) = if c = 39 ∧ r.head? = some 39 then 39 :: 39 :: pl 0 2 (r.drop 1) else c :: pl 0 (if c = 39 then 0 else 2) r := by
  rw [← pl_skip]
  rfl
theorem ite_ap {b : Bool} {A B : Hp → Prop} {H : Hp} (h1 : b = true → A H) (h2 : b = false → B H) : (fun (b : Bool) (H : Hp) => if b = true then A H else B H) b H := by
  cases b with
  | true => exact h1 rfl
  | false => exact h2 rfl
theorem ifS_eq {tt u : TS} {i : Nat} {z c : Str} {D : Ends} {σ : L2.St} {H : Hp} (h : σ[i]? = some (some (.str z))) (q : if z = c then tt D σ H else u D σ H) : tIfS (tTest (tOp rEq (tVar i) (tC (.str c)))) tt u D σ H := by
  simp only [tRet, tRetN, tOrV, tAndV, tNotV, tChain, tVar, tC, rI0, rI, tOp, tUn, rU, tCons, tNil, tCB, tTup, tLst, tSeq, tNext, tIfS, tTest, tAnd, tOr, tNot, tB, tSl, tPart, tBM, tBM0, tCall, rEq, rNe, scal, gName, tAsg, tAug, ipI, tIf, tDrop, C8.rSlX, List.getElem?_cons_zero, List.getElem?_cons_succ, Option.some.injEq, V.str.injEq, V.int.injEq, V.bl.injEq, V.ref.injEq, exists_eq_left, exists_eq_left', exists_eq_right, exists_eq_right', exists_and_left, exists_and_right, exists_eq, true_and, and_true, List.set_cons_zero, List.set_cons_succ, List.append_nil, List.nil_append, List.cons_append, List.cons.injEq, reduceIte, Bool.false_eq_true, if_true, if_false, decide_eq_true_eq, lt1, Nat.add_sub_cancel_left, decide_not, Bool.not_eq_true', Bool.not_true, Bool.not_false, decide_eq_false_iff_not, Nat.not_lt, Nat.not_le, tCh, rSlN, rInTS, S_eq, n1, n2, nn, nl, nle, ty_s, slotI, wipe, List.map_cons, List.map_nil, Int.toNat_natCast, h]
  exact q
def inT (st : Nat) : L := if st = 1 then codes "comment" else if st = 2 then codes "string" else []
section
variable {P : Program} {w : World} {K : PySem.W.Frag} {mg : Str → Option Value} {base : Heap} {aW aL : Addr}
def spPlain : Sp := fun vs H Q _ => ∃ t : L, vs = [VS t] ∧ t.length ≤ 10000 ∧ ∀ H', Same H H' → Q (VS (pl 0 0 t)) H'
theorem sc_plain : FnScope ["text", "found", "inside", "at", "two", "size", "is_end", "is_begun"] ["text"] (C8.fnScope sPlain) := C8.fnScope_by (by decide +kernel)
theorem ok_plain (nm : Nm w K mg aW aL) {f : Addr} {fd : FuncData} (D : C8.Def K mg "_law_plain" sPlain f fd) (b : Binds K fd ["text"] []) :
    Cg P w K mg base 1 "_law_plain" spPlain := by
  refine cg0 D b sc_plain (fun vs H Q E h => ?_) (fun cdv A outer s H vs Q E hr gg h => ?_)
  · obtain ⟨t, rfl, _⟩ := h
    rfl
  · obtain ⟨t, rfl, ht, q⟩ := h
    have nd := sc_plain.nd
    have hbig : big = 1000000 := rfl
    refine ⟨_, (pss_cons (ps_asg (pe_tup (pa_cons pe_str (pa_cons pe_str (pa_cons pe_int pa_nil)))) (pg_tup rfl (pgs_cons (pg_name (i := 1) nd rfl (.inl rfl)) (pgs_cons (pg_name (i := 2) nd rfl (.inl rfl)) (pgs_cons (pg_name (i := 3) nd rfl (.inl rfl)) pgs_nil)))))
  (pss_cons (ps_while PassesOwn.never (pt_cl (pt_cmpR op_lt (pv 3) (pe_callB call_lenS (by rfl) nm.m_len (by decide +kernel) (pa_cons (pv 0) pa_nil)) (nomark _)))
    (C8.pss_cut (ps_set (i := 4) nd rfl (.inl rfl) (pe_slice sl_nat (pv 0) (po_some (pv 3)) (po_some (pe_op op_add (pv 3) pe_int))))
  (C8.pss_cut (ps_if (pt_cmpR op_eq (pv 2) pe_str (nomark _))
    (pss_cons (ps_set (i := 5) nd rfl (.inl rfl) (pe_ifExp (pt_cmpR op_eq (pv 4) pe_str (nomark _)) pe_int pe_int))
  (pss_cons (ps_set (i := 6) nd rfl (.inl rfl) (pe_or (pe_cmpR op_eq (pv 4) pe_str (nomark _)) (pe_one (pe_cmpR op_eq (pe_ch (pv 0) (pv 3) (fun _ _ => rfl)) pe_str (nomark _)))))
  (pss_cons (ps_set (i := 1) nd rfl (.inl rfl) (pe_op op_addS (pv 1) (pe_ifExp (pt_cmpR op_eq (pe_ch (pv 0) (pv 3) (fun _ _ => rfl)) pe_str (nomark _)) pe_str (pe_op op_mulS pe_str (pv 5)))))
  (pss_one (ps_set (i := 2) nd rfl (.inl rfl) (pe_ifExp (pt_val (pv 6)) pe_str (pv 2))))))) (pss_one (ps_if (pt_cmpR op_eq (pv 2) pe_str (nomark _))
    (pss_cons (ps_set (i := 5) nd rfl (.inl rfl) (pe_ifExp (pt_cmpR op_eq (pv 4) pe_str (nomark _)) pe_int pe_int))
  (pss_one (ps_par (i := 1) (j := 2) rfl nd rfl rfl (by decide) rfl rfl (pa_cons (pe_op op_addS (pv 1) (pe_slice sl_nat (pv 0) (po_some (pv 3)) (po_some (pe_op op_add (pv 3) (pv 5))))) (pa_cons (pe_ifExp (pw_and (pt_cmpR op_eq (pe_ch (pv 0) (pv 3) (fun _ _ => rfl)) pe_str (nomark _)) (pw_and1 (pt_cmpR op_eq (pv 5) pe_int (nomark _)))).pt pe_str (pv 2)) pa_nil)) (by rfl)))) (pss_cons (ps_set (i := 5) nd rfl (.inl rfl) (pe_ifExp (pt_cmpR op_eq (pv 4) pe_str (nomark _)) pe_int pe_int))
  (pss_cons (ps_set (i := 7) nd rfl (.inl rfl) (pe_or (pe_cmpR op_eq (pv 4) pe_str (nomark _)) (pe_one (pe_cmpR op_eq (pe_ch (pv 0) (pv 3) (fun _ _ => rfl)) pe_str (nomark _)))))
  (pss_cons (ps_set (i := 2) nd rfl (.inl rfl) (pe_ifExp (pt_val (pv 7)) pe_str (pe_ifExp (pt_cmpR op_eq (pe_ch (pv 0) (pv 3) (fun _ _ => rfl)) pe_str (nomark _)) pe_str pe_str)))
  (pss_one (ps_set (i := 1) nd rfl (.inl rfl) (pe_op op_addS (pv 1) (pe_ifExp (pt_val (pv 7)) (pe_op op_mulS pe_str (pv 5)) (pe_ch (pv 0) (pv 3) (fun _ _ => rfl))))))))))))
  (pss_one (ps_set (i := 3) nd rfl (.inl rfl) (pe_op op_add (pv 3) (pv 5)))))))
  (pss_one (ps_ret (pv 1))))), ?_⟩
    rw [show start ["text", "found", "inside", "at", "two", "size", "is_end", "is_begun"] [VS t] = [some (VS t), none, none, none, none, none, none, none] from rfl]
    have e0 : VS [] = V.str (Str.ofString "") := by rw [s_e]
    refine ⟨three_line _ _ _, fun p0 hp0 => ?_⟩
    refine ⟨p0, _, rfl, .inl (.inl upd_same), rfl, _, _, rfl, _, _, rfl, _, _, rfl, rfl, ?_⟩
    refine while_g (fun σ H' => ∃ (at' st : Nat) (f : L) (x4 x5 x6 x7 : Option V), Same H H' ∧ st ≤ 2 ∧ f ++ pl 0 st (t.drop at') = pl 0 0 t ∧ f.length ≤ at' ∧ at' ≤ t.length + 1 ∧ σ = [some (VS t), some (VS f), some (VS (inT st)), some (.int (at' : Int)), x4, x5, x6, x7])
      (fun σ _ => t.length + 2 - slotI σ 3) ⟨0, 0, [], none, none, none, none, Same_new hp0, by decide, rfl, by decide, by omega, by rw [e0]; rfl⟩ ?_
    rintro σ H' ⟨i, st, f, x4, x5, x6, x7, sm, hst, hf, hfl, hi, rfl⟩
    refine ⟨_, rfl, _, rfl, t, rfl, by omega, _, _, rfl, rfl, _, rfl, ?_⟩
    refine ite_ap (fun hlt => ?_) (fun hlt => ?_)
    rotate_left
    · rw [decide_eq_false_iff_not] at hlt
      have e1 : t.drop i = [] := List.drop_eq_nil_of_le (by omega)
      have e2 : pl 0 st (t.drop i) = [] := by rw [e1]; rfl
      rw [e2, List.append_nil] at hf
      refine ⟨_, rfl, ?_⟩
      rw [hf]
      exact q _ sm
    · rw [decide_eq_true_eq] at hlt
      replace hlt : i < t.length := by omega
      have ed : t.drop i = t[i] :: t.drop (i + 1) := List.drop_eq_getElem_cons hlt
      have et : (t.drop i).take 2 = t[i] :: (t.drop (i + 1)).take 1 := by rw [ed]; rfl
      generalize hc : t[i] = c at ed et
      generalize hr : t.drop (i + 1) = r at ed et
      have hcq : t[i]? = some c := by rw [List.getElem?_eq_getElem hlt, hc]
      have hr2 : t.drop (i + 2) = r.drop 1 := by rw [← hr, List.drop_drop]
      refine ⟨fun σ' H2 => H2 = H' ∧ σ' = [some (VS t), some (VS f), some (VS (inT st)), some (.int (i : Int)), some (VS (c :: r.take 1)), x5, x6, x7], ?_, ?_⟩
      · simp only [tRet, tRetN, tOrV, tAndV, tNotV, tChain, tVar, tC, rI0, rI, tOp, tUn, rU, tCons, tNil, tCB, tTup, tLst, tSeq, tNext, tIfS, tTest, tAnd, tOr, tNot, tB, tSl, tPart, tBM, tBM0, tCall, rEq, rNe, scal, gName, tAsg, tAug, ipI, tIf, tDrop, C8.rSlX, List.getElem?_cons_zero, List.getElem?_cons_succ, Option.some.injEq, V.str.injEq, V.int.injEq, V.bl.injEq, V.ref.injEq, exists_eq_left, exists_eq_left', exists_eq_right, exists_eq_right', exists_and_left, exists_and_right, exists_eq, true_and, and_true, List.set_cons_zero, List.set_cons_succ, List.append_nil, List.nil_append, List.cons_append, List.cons.injEq, reduceIte, Bool.false_eq_true, if_true, if_false, decide_eq_true_eq, lt1, Nat.add_sub_cancel_left, decide_not, Bool.not_eq_true', Bool.not_true, Bool.not_false, decide_eq_false_iff_not, Nat.not_lt, Nat.not_le, tCh, rSlN, rInTS, S_eq, n1, n2, nn, nl, nle, ty_s, slotI, wipe, List.map_cons, List.map_nil, Int.toNat_natCast, and_assoc, tNoPart, tPar, tPar3]
        exact ⟨by omega, et⟩
      rintro σ' H2 ⟨rfl, rfl⟩
      refine ⟨fun σ' H3 => ∃ (k st' : Nat) (f' : L) (x6 x7 : Option V), H3 = H2 ∧ 1 ≤ k ∧ k ≤ 2 ∧ st' ≤ 2 ∧ f' ++ pl 0 st' (t.drop (i + k)) = pl 0 0 t ∧ f'.length ≤ i + k ∧ i + k ≤ t.length + 1 ∧
        σ' = [some (VS t), some (VS f'), some (VS (inT st')), some (.int (i : Int)), some (VS (c :: r.take 1)), some (.int (k : Int)), x6, x7], ?_, ?_⟩
      · have hb : t.length ≤ big := by omega
        have hfb : f.length + 10 ≤ big := by omega
        have hk : i + 1 ≤ t.length + 1 := by omega
        have d1 : t.drop (i + 1) = r := hr
        rw [ed] at hf
        refine ifS_eq rfl ?_
        obtain rfl | rfl | rfl : st = 0 ∨ st = 1 ∨ st = 2 := by omega
        · rw [if_neg (by decide +kernel)]
          refine ifS_eq rfl ?_
          rw [if_neg (by decide +kernel)]
          rw [pl0] at hf
          by_cases h2 : c = 40 ∧ r.take 1 = [42]
          · have h2e := eq_true h2
            rw [if_pos (two_iff.mp h2), ← hr2] at hf
            simp only [tRet, tRetN, tOrV, tAndV, tNotV, tChain, tVar, tC, rI0, rI, tOp, tUn, rU, tCons, tNil, tCB, tTup, tLst, tSeq, tNext, tIfS, tTest, tAnd, tOr, tNot, tB, tSl, tPart, tBM, tBM0, tCall, rEq, rNe, scal, gName, tAsg, tAug, ipI, tIf, tDrop, C8.rSlX, List.getElem?_cons_zero, List.getElem?_cons_succ, Option.some.injEq, V.str.injEq, V.int.injEq, V.bl.injEq, V.ref.injEq, exists_eq_left, exists_eq_left', exists_eq_right, exists_eq_right', exists_and_left, exists_and_right, exists_eq, true_and, and_true, List.set_cons_zero, List.set_cons_succ, List.append_nil, List.nil_append, List.cons_append, List.cons.injEq, reduceIte, Bool.false_eq_true, if_true, if_false, decide_eq_true_eq, lt1, Nat.add_sub_cancel_left, decide_not, Bool.not_eq_true', Bool.not_true, Bool.not_false, decide_eq_false_iff_not, Nat.not_lt, Nat.not_le, tCh, rSlN, rInTS, S_eq, n1, n2, nn, nl, nle, ty_s, slotI, wipe, List.map_cons, List.map_nil, Int.toNat_natCast, and_assoc, tNoPart, tPar, tPar3, s_po, s_op, s_cu, s_uc, s_q, s_qq, s_sp, s_nl, hcq, hb, h2e]
            refine ⟨2, rfl, by decide, by decide, by show f.length + 2 ≤ big; omega, 2, by decide, by decide, 1, by decide, _, ?_, ?_, by omega, rfl, codes_S _, rfl⟩
            · exact (List.append_assoc _ _ _).trans hf
            · rw [List.length_append]
              show f.length + 2 ≤ i + 2
              omega
          · have h2e := eq_false h2
            rw [if_neg fun z => h2 (two_iff.mpr z)] at hf
            by_cases h3 : c = 123
            · have h3e := eq_true h3
              rw [if_pos h3, ← d1] at hf
              simp only [tRet, tRetN, tOrV, tAndV, tNotV, tChain, tVar, tC, rI0, rI, tOp, tUn, rU, tCons, tNil, tCB, tTup, tLst, tSeq, tNext, tIfS, tTest, tAnd, tOr, tNot, tB, tSl, tPart, tBM, tBM0, tCall, rEq, rNe, scal, gName, tAsg, tAug, ipI, tIf, tDrop, C8.rSlX, List.getElem?_cons_zero, List.getElem?_cons_succ, Option.some.injEq, V.str.injEq, V.int.injEq, V.bl.injEq, V.ref.injEq, exists_eq_left, exists_eq_left', exists_eq_right, exists_eq_right', exists_and_left, exists_and_right, exists_eq, true_and, and_true, List.set_cons_zero, List.set_cons_succ, List.append_nil, List.nil_append, List.cons_append, List.cons.injEq, reduceIte, Bool.false_eq_true, if_true, if_false, decide_eq_true_eq, lt1, Nat.add_sub_cancel_left, decide_not, Bool.not_eq_true', Bool.not_true, Bool.not_false, decide_eq_false_iff_not, Nat.not_lt, Nat.not_le, tCh, rSlN, rInTS, S_eq, n1, n2, nn, nl, nle, ty_s, slotI, wipe, List.map_cons, List.map_nil, Int.toNat_natCast, and_assoc, tNoPart, tPar, tPar3, s_po, s_op, s_cu, s_uc, s_q, s_qq, s_sp, s_nl, hcq, hb, h2e, h3e]
              refine ⟨1, rfl, by decide, by decide, by show f.length + 1 ≤ big; omega, 1, by decide, by decide, 1, by decide, _, ?_, ?_, by omega, rfl, codes_S _, rfl⟩
              · exact (List.append_assoc _ _ _).trans hf
              · rw [List.length_append]
                show f.length + 1 ≤ i + 1
                omega
            · have h3e := eq_false h3
              rw [if_neg h3, ← d1] at hf
              by_cases h4 : c = 39
              · have h4e := eq_true h4
                rw [if_pos h4] at hf
                simp only [tRet, tRetN, tOrV, tAndV, tNotV, tChain, tVar, tC, rI0, rI, tOp, tUn, rU, tCons, tNil, tCB, tTup, tLst, tSeq, tNext, tIfS, tTest, tAnd, tOr, tNot, tB, tSl, tPart, tBM, tBM0, tCall, rEq, rNe, scal, gName, tAsg, tAug, ipI, tIf, tDrop, C8.rSlX, List.getElem?_cons_zero, List.getElem?_cons_succ, Option.some.injEq, V.str.injEq, V.int.injEq, V.bl.injEq, V.ref.injEq, exists_eq_left, exists_eq_left', exists_eq_right, exists_eq_right', exists_and_left, exists_and_right, exists_eq, true_and, and_true, List.set_cons_zero, List.set_cons_succ, List.append_nil, List.nil_append, List.cons_append, List.cons.injEq, reduceIte, Bool.false_eq_true, if_true, if_false, decide_eq_true_eq, lt1, Nat.add_sub_cancel_left, decide_not, Bool.not_eq_true', Bool.not_true, Bool.not_false, decide_eq_false_iff_not, Nat.not_lt, Nat.not_le, tCh, rSlN, rInTS, S_eq, n1, n2, nn, nl, nle, ty_s, slotI, wipe, List.map_cons, List.map_nil, Int.toNat_natCast, and_assoc, tNoPart, tPar, tPar3, s_po, s_op, s_cu, s_uc, s_q, s_qq, s_sp, s_nl, hcq, hb, h2e, h3e, h4e]
                refine ⟨by show f.length + 1 ≤ big; omega, 1, by decide, by decide, 2, by decide, _, ?_, ?_, by omega, rfl, codes_S _, rfl⟩
                · exact (List.append_assoc _ _ _).trans hf
                · rw [List.length_append]
                  show f.length + 1 ≤ i + 1
                  omega
              · have h4e := eq_false h4
                rw [if_neg h4] at hf
                simp only [tRet, tRetN, tOrV, tAndV, tNotV, tChain, tVar, tC, rI0, rI, tOp, tUn, rU, tCons, tNil, tCB, tTup, tLst, tSeq, tNext, tIfS, tTest, tAnd, tOr, tNot, tB, tSl, tPart, tBM, tBM0, tCall, rEq, rNe, scal, gName, tAsg, tAug, ipI, tIf, tDrop, C8.rSlX, List.getElem?_cons_zero, List.getElem?_cons_succ, Option.some.injEq, V.str.injEq, V.int.injEq, V.bl.injEq, V.ref.injEq, exists_eq_left, exists_eq_left', exists_eq_right, exists_eq_right', exists_and_left, exists_and_right, exists_eq, true_and, and_true, List.set_cons_zero, List.set_cons_succ, List.append_nil, List.nil_append, List.cons_append, List.cons.injEq, reduceIte, Bool.false_eq_true, if_true, if_false, decide_eq_true_eq, lt1, Nat.add_sub_cancel_left, decide_not, Bool.not_eq_true', Bool.not_true, Bool.not_false, decide_eq_false_iff_not, Nat.not_lt, Nat.not_le, tCh, rSlN, rInTS, S_eq, n1, n2, nn, nl, nle, ty_s, slotI, wipe, List.map_cons, List.map_nil, Int.toNat_natCast, and_assoc, tNoPart, tPar, tPar3, s_po, s_op, s_cu, s_uc, s_q, s_qq, s_sp, s_nl, hcq, hb, h2e, h3e, h4e]
                refine ⟨by show f.length + 1 ≤ big; omega, 1, by decide, by decide, 0, by decide, _, ?_, ?_, by omega, rfl, s_e, rfl⟩
                · exact (List.append_assoc _ _ _).trans hf
                · rw [List.length_append]
                  show f.length + 1 ≤ i + 1
                  omega
        · rw [if_pos (by decide +kernel)]
          rw [pl1] at hf
          by_cases h2 : c = 42 ∧ r.take 1 = [41]
          · have h2e := eq_true h2
            have h3e := eq_false (show ¬ c = 10 by omega)
            rw [if_pos (two_iff.mp h2), ← hr2] at hf
            simp only [tRet, tRetN, tOrV, tAndV, tNotV, tChain, tVar, tC, rI0, rI, tOp, tUn, rU, tCons, tNil, tCB, tTup, tLst, tSeq, tNext, tIfS, tTest, tAnd, tOr, tNot, tB, tSl, tPart, tBM, tBM0, tCall, rEq, rNe, scal, gName, tAsg, tAug, ipI, tIf, tDrop, C8.rSlX, List.getElem?_cons_zero, List.getElem?_cons_succ, Option.some.injEq, V.str.injEq, V.int.injEq, V.bl.injEq, V.ref.injEq, exists_eq_left, exists_eq_left', exists_eq_right, exists_eq_right', exists_and_left, exists_and_right, exists_eq, true_and, and_true, List.set_cons_zero, List.set_cons_succ, List.append_nil, List.nil_append, List.cons_append, List.cons.injEq, reduceIte, Bool.false_eq_true, if_true, if_false, decide_eq_true_eq, lt1, Nat.add_sub_cancel_left, decide_not, Bool.not_eq_true', Bool.not_true, Bool.not_false, decide_eq_false_iff_not, Nat.not_lt, Nat.not_le, tCh, rSlN, rInTS, S_eq, n1, n2, nn, nl, nle, ty_s, slotI, wipe, List.map_cons, List.map_nil, Int.toNat_natCast, and_assoc, tNoPart, tPar, tPar3, s_po, s_op, s_cu, s_uc, s_q, s_qq, s_sp, s_nl, hcq, hb, h2e, h3e]
            refine ⟨2, rfl, by decide, by decide, by show f.length + 2 ≤ big; omega, 2, by decide, by decide, 0, by decide, _, ?_, ?_, by omega, rfl, s_e, rfl⟩
            · exact (List.append_assoc _ _ _).trans hf
            · rw [List.length_append]
              show f.length + 2 ≤ i + 2
              omega
          · have h2e := eq_false h2
            rw [if_neg fun z => h2 (two_iff.mpr z), ← d1] at hf
            unfold bl at hf
            by_cases h3 : c = 10
            · have h3e := eq_true h3
              have h4e := eq_false (show ¬ c = 125 by omega)
              rw [if_pos h3, if_neg (by omega)] at hf
              simp only [tRet, tRetN, tOrV, tAndV, tNotV, tChain, tVar, tC, rI0, rI, tOp, tUn, rU, tCons, tNil, tCB, tTup, tLst, tSeq, tNext, tIfS, tTest, tAnd, tOr, tNot, tB, tSl, tPart, tBM, tBM0, tCall, rEq, rNe, scal, gName, tAsg, tAug, ipI, tIf, tDrop, C8.rSlX, List.getElem?_cons_zero, List.getElem?_cons_succ, Option.some.injEq, V.str.injEq, V.int.injEq, V.bl.injEq, V.ref.injEq, exists_eq_left, exists_eq_left', exists_eq_right, exists_eq_right', exists_and_left, exists_and_right, exists_eq, true_and, and_true, List.set_cons_zero, List.set_cons_succ, List.append_nil, List.nil_append, List.cons_append, List.cons.injEq, reduceIte, Bool.false_eq_true, if_true, if_false, decide_eq_true_eq, lt1, Nat.add_sub_cancel_left, decide_not, Bool.not_eq_true', Bool.not_true, Bool.not_false, decide_eq_false_iff_not, Nat.not_lt, Nat.not_le, tCh, rSlN, rInTS, S_eq, n1, n2, nn, nl, nle, ty_s, slotI, wipe, List.map_cons, List.map_nil, Int.toNat_natCast, and_assoc, tNoPart, tPar, tPar3, s_po, s_op, s_cu, s_uc, s_q, s_qq, s_sp, s_nl, hcq, hb, h2e, h3e, h4e]
              refine ⟨by show f.length + 1 ≤ big; omega, 1, by decide, by decide, 1, by decide, _, ?_, ?_, by omega, rfl, rfl, rfl⟩
              · exact (List.append_assoc _ _ _).trans hf
              · rw [List.length_append]
                show f.length + 1 ≤ i + 1
                omega
            · have h3e := eq_false h3
              rw [if_neg h3] at hf
              by_cases h4 : c = 125
              · have h4e := eq_true h4
                rw [if_pos h4] at hf
                simp only [tRet, tRetN, tOrV, tAndV, tNotV, tChain, tVar, tC, rI0, rI, tOp, tUn, rU, tCons, tNil, tCB, tTup, tLst, tSeq, tNext, tIfS, tTest, tAnd, tOr, tNot, tB, tSl, tPart, tBM, tBM0, tCall, rEq, rNe, scal, gName, tAsg, tAug, ipI, tIf, tDrop, C8.rSlX, List.getElem?_cons_zero, List.getElem?_cons_succ, Option.some.injEq, V.str.injEq, V.int.injEq, V.bl.injEq, V.ref.injEq, exists_eq_left, exists_eq_left', exists_eq_right, exists_eq_right', exists_and_left, exists_and_right, exists_eq, true_and, and_true, List.set_cons_zero, List.set_cons_succ, List.append_nil, List.nil_append, List.cons_append, List.cons.injEq, reduceIte, Bool.false_eq_true, if_true, if_false, decide_eq_true_eq, lt1, Nat.add_sub_cancel_left, decide_not, Bool.not_eq_true', Bool.not_true, Bool.not_false, decide_eq_false_iff_not, Nat.not_lt, Nat.not_le, tCh, rSlN, rInTS, S_eq, n1, n2, nn, nl, nle, ty_s, slotI, wipe, List.map_cons, List.map_nil, Int.toNat_natCast, and_assoc, tNoPart, tPar, tPar3, s_po, s_op, s_cu, s_uc, s_q, s_qq, s_sp, s_nl, hcq, hb, h2e, h3e, h4e]
                refine ⟨1, rfl, by decide, by decide, by show f.length + 1 ≤ big; omega, 1, by decide, by decide, 0, by decide, _, ?_, ?_, by omega, rfl, s_e, rfl⟩
                · exact (List.append_assoc _ _ _).trans hf
                · rw [List.length_append]
                  show f.length + 1 ≤ i + 1
                  omega
              · have h4e := eq_false h4
                rw [if_neg h4] at hf
                simp only [tRet, tRetN, tOrV, tAndV, tNotV, tChain, tVar, tC, rI0, rI, tOp, tUn, rU, tCons, tNil, tCB, tTup, tLst, tSeq, tNext, tIfS, tTest, tAnd, tOr, tNot, tB, tSl, tPart, tBM, tBM0, tCall, rEq, rNe, scal, gName, tAsg, tAug, ipI, tIf, tDrop, C8.rSlX, List.getElem?_cons_zero, List.getElem?_cons_succ, Option.some.injEq, V.str.injEq, V.int.injEq, V.bl.injEq, V.ref.injEq, exists_eq_left, exists_eq_left', exists_eq_right, exists_eq_right', exists_and_left, exists_and_right, exists_eq, true_and, and_true, List.set_cons_zero, List.set_cons_succ, List.append_nil, List.nil_append, List.cons_append, List.cons.injEq, reduceIte, Bool.false_eq_true, if_true, if_false, decide_eq_true_eq, lt1, Nat.add_sub_cancel_left, decide_not, Bool.not_eq_true', Bool.not_true, Bool.not_false, decide_eq_false_iff_not, Nat.not_lt, Nat.not_le, tCh, rSlN, rInTS, S_eq, n1, n2, nn, nl, nle, ty_s, slotI, wipe, List.map_cons, List.map_nil, Int.toNat_natCast, and_assoc, tNoPart, tPar, tPar3, s_po, s_op, s_cu, s_uc, s_q, s_qq, s_sp, s_nl, hcq, hb, h2e, h3e, h4e]
                refine ⟨1, rfl, by decide, by decide, by show f.length + 1 ≤ big; omega, 1, by decide, by decide, 1, by decide, _, ?_, ?_, by omega, rfl, rfl, rfl⟩
                · exact (List.append_assoc _ _ _).trans hf
                · rw [List.length_append]
                  show f.length + 1 ≤ i + 1
                  omega
        · rw [if_neg (by decide +kernel)]
          refine ifS_eq rfl ?_
          rw [if_pos (by decide +kernel)]
          rw [pl2] at hf
          have e1 : (t.drop i).take 1 = [c] := by rw [ed]; rfl
          by_cases h2 : c = 39 ∧ r.take 1 = [39]
          · have h2e := eq_true h2.2
            have h3e := eq_true h2.1
            have e2 : (t.drop i).take 2 = [39, 39] := by rw [et, h2.1, h2.2]
            have n21 : ((2 : Int) = 1) = False := by simp
            rw [if_pos (two_iff.mp h2), ← hr2] at hf
            simp only [tRet, tRetN, tOrV, tAndV, tNotV, tChain, tVar, tC, rI0, rI, tOp, tUn, rU, tCons, tNil, tCB, tTup, tLst, tSeq, tNext, tIfS, tTest, tAnd, tOr, tNot, tB, tSl, tPart, tBM, tBM0, tCall, rEq, rNe, scal, gName, tAsg, tAug, ipI, tIf, tDrop, C8.rSlX, List.getElem?_cons_zero, List.getElem?_cons_succ, Option.some.injEq, V.str.injEq, V.int.injEq, V.bl.injEq, V.ref.injEq, exists_eq_left, exists_eq_left', exists_eq_right, exists_eq_right', exists_and_left, exists_and_right, exists_eq, true_and, and_true, List.set_cons_zero, List.set_cons_succ, List.append_nil, List.nil_append, List.cons_append, List.cons.injEq, reduceIte, Bool.false_eq_true, if_true, if_false, decide_eq_true_eq, lt1, Nat.add_sub_cancel_left, decide_not, Bool.not_eq_true', Bool.not_true, Bool.not_false, decide_eq_false_iff_not, Nat.not_lt, Nat.not_le, tCh, rSlN, rInTS, S_eq, n1, n2, nn, nl, nle, ty_s, slotI, wipe, List.map_cons, List.map_nil, Int.toNat_natCast, and_assoc, tNoPart, tPar, tPar3, s_po, s_op, s_cu, s_uc, s_q, s_qq, s_sp, s_nl, hcq, hb, h2e, h3e, false_and, n21]
            rw [e2]
            refine ⟨by show f.length + 2 ≤ big; omega, 2, by decide, by decide, 2, by decide, _, ?_, ?_, by omega, rfl, rfl, rfl⟩
            · exact (List.append_assoc _ _ _).trans hf
            · rw [List.length_append]
              show f.length + 2 ≤ i + 2
              omega
          · have h2e := eq_false h2
            rw [if_neg fun z => h2 (two_iff.mpr z), ← d1] at hf
            by_cases h3 : c = 39
            · have h3e := eq_true h3
              have h2e := eq_false (fun z => h2 ⟨h3, z⟩ : ¬ r.take 1 = [39])
              rw [if_pos h3] at hf
              simp only [tRet, tRetN, tOrV, tAndV, tNotV, tChain, tVar, tC, rI0, rI, tOp, tUn, rU, tCons, tNil, tCB, tTup, tLst, tSeq, tNext, tIfS, tTest, tAnd, tOr, tNot, tB, tSl, tPart, tBM, tBM0, tCall, rEq, rNe, scal, gName, tAsg, tAug, ipI, tIf, tDrop, C8.rSlX, List.getElem?_cons_zero, List.getElem?_cons_succ, Option.some.injEq, V.str.injEq, V.int.injEq, V.bl.injEq, V.ref.injEq, exists_eq_left, exists_eq_left', exists_eq_right, exists_eq_right', exists_and_left, exists_and_right, exists_eq, true_and, and_true, List.set_cons_zero, List.set_cons_succ, List.append_nil, List.nil_append, List.cons_append, List.cons.injEq, reduceIte, Bool.false_eq_true, if_true, if_false, decide_eq_true_eq, lt1, Nat.add_sub_cancel_left, decide_not, Bool.not_eq_true', Bool.not_true, Bool.not_false, decide_eq_false_iff_not, Nat.not_lt, Nat.not_le, tCh, rSlN, rInTS, S_eq, n1, n2, nn, nl, nle, ty_s, slotI, wipe, List.map_cons, List.map_nil, Int.toNat_natCast, and_assoc, tNoPart, tPar, tPar3, s_po, s_op, s_cu, s_uc, s_q, s_qq, s_sp, s_nl, hcq, hb, h2e, h3e, false_and]
              rw [e1]
              refine ⟨by show f.length + 1 ≤ big; omega, 1, by decide, by decide, 0, by decide, _, ?_, ?_, by omega, rfl, s_e, rfl⟩
              · exact (List.append_assoc _ _ _).trans hf
              · rw [List.length_append]
                show f.length + 1 ≤ i + 1
                omega
            · have h3e := eq_false h3
              rw [if_neg h3] at hf
              simp only [tRet, tRetN, tOrV, tAndV, tNotV, tChain, tVar, tC, rI0, rI, tOp, tUn, rU, tCons, tNil, tCB, tTup, tLst, tSeq, tNext, tIfS, tTest, tAnd, tOr, tNot, tB, tSl, tPart, tBM, tBM0, tCall, rEq, rNe, scal, gName, tAsg, tAug, ipI, tIf, tDrop, C8.rSlX, List.getElem?_cons_zero, List.getElem?_cons_succ, Option.some.injEq, V.str.injEq, V.int.injEq, V.bl.injEq, V.ref.injEq, exists_eq_left, exists_eq_left', exists_eq_right, exists_eq_right', exists_and_left, exists_and_right, exists_eq, true_and, and_true, List.set_cons_zero, List.set_cons_succ, List.append_nil, List.nil_append, List.cons_append, List.cons.injEq, reduceIte, Bool.false_eq_true, if_true, if_false, decide_eq_true_eq, lt1, Nat.add_sub_cancel_left, decide_not, Bool.not_eq_true', Bool.not_true, Bool.not_false, decide_eq_false_iff_not, Nat.not_lt, Nat.not_le, tCh, rSlN, rInTS, S_eq, n1, n2, nn, nl, nle, ty_s, slotI, wipe, List.map_cons, List.map_nil, Int.toNat_natCast, and_assoc, tNoPart, tPar, tPar3, s_po, s_op, s_cu, s_uc, s_q, s_qq, s_sp, s_nl, hcq, hb, h2e, h3e, false_and]
              rw [e1]
              refine ⟨by show f.length + 1 ≤ big; omega, 1, by decide, by decide, 2, by decide, _, ?_, ?_, by omega, rfl, rfl, rfl⟩
              · exact (List.append_assoc _ _ _).trans hf
              · rw [List.length_append]
                show f.length + 1 ≤ i + 1
                omega
      · rintro σ' H3 ⟨k, st', f', y6, y7, rfl, k1, k2, hst', hf', hfl', hi', rfl⟩
        simp only [tRet, tRetN, tOrV, tAndV, tNotV, tChain, tVar, tC, rI0, rI, tOp, tUn, rU, tCons, tNil, tCB, tTup, tLst, tSeq, tNext, tIfS, tTest, tAnd, tOr, tNot, tB, tSl, tPart, tBM, tBM0, tCall, rEq, rNe, scal, gName, tAsg, tAug, ipI, tIf, tDrop, C8.rSlX, List.getElem?_cons_zero, List.getElem?_cons_succ, Option.some.injEq, V.str.injEq, V.int.injEq, V.bl.injEq, V.ref.injEq, exists_eq_left, exists_eq_left', exists_eq_right, exists_eq_right', exists_and_left, exists_and_right, exists_eq, true_and, and_true, List.set_cons_zero, List.set_cons_succ, List.append_nil, List.nil_append, List.cons_append, List.cons.injEq, reduceIte, Bool.false_eq_true, if_true, if_false, decide_eq_true_eq, lt1, Nat.add_sub_cancel_left, decide_not, Bool.not_eq_true', Bool.not_true, Bool.not_false, decide_eq_false_iff_not, Nat.not_lt, Nat.not_le, tCh, rSlN, rInTS, S_eq, n1, n2, nn, nl, nle, ty_s, slotI, wipe, List.map_cons, List.map_nil, Int.toNat_natCast, and_assoc, tNoPart, tPar, tPar3]
        exact ⟨sm, ⟨i + k, st', hst', f', hf', hfl', hi', rfl, rfl, by rw [Int.natCast_add]⟩, by omega⟩
end
end K0
end

/-! k00: texts in small letters -/
namespace K0
open PySem PySem.Spec PyProof.Rows L2 SX
/-- small letters outside quotes -/
def sml : Bool → L → L
  | _, [] => []
  | b, c :: r => if c = 39 then 39 :: sml (!b) r else (if b = true then c else lo c) :: sml b r
theorem pg_tupK {X : Cx} {K : PySem.W.Frag} (hK : X.K = K) {es : List Expr} {k : Nat} {t : TGs} {n : Nat} {pos : Pos} (hc : X.calm = true) (h : PGs X es t)
    (hn : (assignEach es X.env).length = n) (hst : (assignEach es X.env).findIdx? (·.1) = none := by rfl) : PG X (.Tuple es k pos) (gTup K n t) := by
  rw [← hK]
  exact pg_tup hc h hn hst
theorem joinLS (a : L) : ∀ ys : List L, (TL.joinL a ys).length ≤ ys.flatten.length + ys.length * a.length
  | [] => Nat.zero_le _
  | [y] => by
    show y.length ≤ _
    simp
  | y :: z :: r => by
    have ih := joinLS a (z :: r)
    show (y ++ (a ++ TL.joinL a (z :: r))).length ≤ _
    rw [List.length_append, List.length_append, List.flatten_cons, List.length_append, List.length_cons, Nat.succ_mul]
    omega
section
variable {X : Cx}
theorem mt_joinQ : MtR X "str.join" (fun x xs H Q => ∃ (p : Addr) (ys : List L), x = VS [39] ∧ xs = [.ref p] ∧ SqL X.K H p (ys.map VS) ∧ ys.flatten.length + ys.length ≤ big ∧ Q (VS (TL.joinL [39] ys)) H) := by
  intro pins s σ H x xs v us Q I rx r h
  obtain ⟨p, ys, rfl, rfl, hp, hb, q⟩ := h
  refine mt_join pins s σ H _ _ v us Q I rx r ⟨S [39], p, ys.map S, rfl, rfl, .inl ?_, ?_, ?_⟩
  · rw [List.map_map]
    exact hp
  · rw [sum_lens, List.length_map]
    show _ + _ * 1 ≤ _
    rw [Nat.mul_one]
    exact Nat.le_trans hb (by decide)
  · rw [join_S]
    exact q
end
/-- every other one in small letters -/
def lp : Nat → List L → List L
  | _, [] => []
  | k, x :: r => (if k % 2 = 1 then x else x.map lo) :: lp (k + 1) r
theorem lp_snoc : ∀ (a : List L) (k : Nat) (x : L), lp k (a ++ [x]) = lp k a ++ [if (k + a.length) % 2 = 1 then x else x.map lo]
  | [], _, _ => rfl
  | y :: r, k, x => by
    show _ :: lp (k + 1) (r ++ [x]) = _ :: (lp (k + 1) r ++ _)
    rw [lp_snoc r (k + 1) x, List.length_cons, show k + (r.length + 1) = k + 1 + r.length by omega]
theorem lp_len : ∀ (a : List L) (k : Nat), (lp k a).length = a.length ∧ (lp k a).flatten.length = a.flatten.length
  | [], _ => ⟨rfl, rfl⟩
  | y :: r, k => by
    obtain ⟨h1, h2⟩ := lp_len r (k + 1)
    refine ⟨congrArg (· + 1) h1, ?_⟩
    show (_ ++ (lp (k + 1) r).flatten).length = (y ++ r.flatten).length
    rw [List.length_append, List.length_append, h2]
    split
    · rfl
    · rw [List.length_map]
theorem pre_q (c : Nat) (r : L) : TL.pre [39] (c :: r) = decide (c = 39) := by
  rw [Bool.eq_iff_iff]
  simp [TL.pre]
theorem spl_ne : ∀ (t acc : L), ∃ y r, TL.spl [39] 0 acc t = y :: r
  | [], acc => ⟨acc, [], TL.spl_nil _ _ _⟩
  | c :: r, acc => by
    by_cases hc : c = 39
    · subst hc
      exact ⟨_, _, TL.spl_hit (pre_q 39 r)⟩
    · rw [TL.spl_miss ((pre_q c r).trans (decide_eq_false hc))]
      exact spl_ne r _
theorem spl_sml : ∀ (t acc : L) (k : Nat), TL.joinL [39] (lp k (TL.spl [39] 0 acc t)) = (if k % 2 = 1 then acc else acc.map lo) ++ sml (decide (k % 2 = 1)) t
  | [], acc, k => by
    rw [TL.spl_nil]
    show (if k % 2 = 1 then acc else acc.map lo) = _ ++ []
    rw [List.append_nil]
  | c :: r, acc, k => by
    by_cases hc : c = 39
    · subst hc
      rw [TL.spl_hit (pre_q 39 r)]
      have ih := spl_sml r [] (k + 1)
      obtain ⟨y, z, e⟩ := spl_ne r []
      show TL.joinL [39] (_ :: lp (k + 1) (TL.spl [39] 0 [] r)) = _
      rw [e] at ih ⊢
      show _ ++ ([39] ++ TL.joinL [39] (lp (k + 1) (y :: z))) = _
      rw [ih]
      have e2 : (if (k + 1) % 2 = 1 then ([] : L) else [].map lo) = [] := by split <;> rfl
      have e3 : decide ((k + 1) % 2 = 1) = !decide (k % 2 = 1) := by
        rw [Bool.eq_iff_iff, decide_eq_true_eq, Bool.not_eq_true', decide_eq_false_iff_not]
        omega
      rw [e2, e3]
      rfl
    · rw [TL.spl_miss ((pre_q c r).trans (decide_eq_false hc)), spl_sml r (acc ++ [c]) k]
      have e4 : sml (decide (k % 2 = 1)) (c :: r) = (if decide (k % 2 = 1) = true then c else lo c) :: sml (decide (k % 2 = 1)) r := by
        show (if c = 39 then _ else _) = _
        rw [if_neg hc]
      rw [e4]
      by_cases hk : k % 2 = 1
      · rw [if_pos hk, if_pos hk, decide_eq_true hk, if_pos rfl, List.append_assoc]
        rfl
      · rw [if_neg hk, if_neg hk, decide_eq_false hk, if_neg (by decide), List.map_append, List.append_assoc]
        rfl
theorem spl_len : ∀ (t acc : L), (TL.spl [39] 0 acc t).flatten.length + (TL.spl [39] 0 acc t).length = acc.length + t.length + 1
  | [], acc => by
    rw [TL.spl_nil]
    simp
  | c :: r, acc => by
    by_cases hc : c = 39
    · subst hc
      rw [TL.spl_hit (pre_q 39 r)]
      have ih := spl_len r []
      show (acc ++ (TL.spl [39] 0 [] r).flatten).length + ((TL.spl [39] 0 [] r).length + 1) = _
      rw [List.length_append, List.length_cons]
      simp only [List.length_nil] at ih
      omega
    · rw [TL.spl_miss ((pre_q c r).trans (decide_eq_false hc)), spl_len r (acc ++ [c]), List.length_append, List.length_cons]
      simp only [List.length_cons, List.length_nil]
      omega
theorem spl_part : ∀ (t acc : L), ∀ p ∈ TL.spl [39] 0 acc t, p.length ≤ acc.length + t.length ∧ ∀ c ∈ p, c ∈ acc ∨ c ∈ t
  | [], acc, p, hp => by
    rw [TL.spl_nil] at hp
    rw [List.mem_singleton.mp hp]
    exact ⟨Nat.le_refl _, fun c hc => .inl hc⟩
  | c :: r, acc, p, hp => by
    by_cases hc : c = 39
    · subst hc
      rw [TL.spl_hit (pre_q 39 r)] at hp
      rcases List.mem_cons.mp hp with hp | hp
      · rw [hp]
        exact ⟨Nat.le_add_right _ _, fun c hc => .inl hc⟩
      · obtain ⟨h1, h2⟩ := spl_part r [] p hp
        refine ⟨by simp only [List.length_nil, List.length_cons] at h1 ⊢; omega, fun c hc => ?_⟩
        rcases h2 c hc with h | h
        · exact absurd h List.not_mem_nil
        · exact .inr (List.mem_cons_of_mem _ h)
    · rw [TL.spl_miss ((pre_q c r).trans (decide_eq_false hc))] at hp
      obtain ⟨h1, h2⟩ := spl_part r (acc ++ [c]) p hp
      refine ⟨by rw [List.length_append] at h1; simp only [List.length_cons, List.length_nil] at h1 ⊢; omega, fun d hd => ?_⟩
      rcases h2 d hd with h | h
      · rcases List.mem_append.mp h with h | h
        · exact .inl h
        · rw [List.mem_singleton.mp h]
          exact .inr List.mem_cons_self
      · exact .inr (List.mem_cons_of_mem _ h)
section
variable {P : Program} {w : World} {K : PySem.W.Frag} {mg : Str → Option Value} {base : Heap} {aW aL : Addr}
def spSmall : Sp := fun vs H Q _ => ∃ t : L, vs = [VS t] ∧ t.length ≤ 10000 ∧ asc t ∧ ∀ H', Same H H' → Q (VS (sml false t)) H'
theorem sc_small : FnScope ["text", "parts", "at", "part"] ["text"] (C8.fnScope sSmall) := C8.fnScope_by (by decide +kernel)
theorem ok_small (nm : Nm w K mg aW aL) {f : Addr} {fd : FuncData} (D : C8.Def K mg "_law_small" sSmall f fd) (b : Binds K fd ["text"] []) :
    Cg P w K mg base 1 "_law_small" spSmall := by
  refine cg0 D b sc_small (fun vs H Q E h => ?_) (fun cdv A outer s H vs Q E hr gg h => ?_)
  · obtain ⟨t, rfl, _⟩ := h
    rfl
  · obtain ⟨t, rfl, ht, ta, q⟩ := h
    have nd := sc_small.nd
    have hbig : big = 1000000 := rfl
    refine ⟨_, (pss_cons (ps_set (i := 1) nd rfl (.inl rfl) (pe_bm PySem.F.plainAttrs_str PySem.F.slot_str_split PySem.F.type_str_split mt_split (pv 0) (pa_cons pe_str pa_nil)))
  (pss_one (ps_ret (pe_bm PySem.F.plainAttrs_str PySem.F.slot_str_join PySem.F.type_str_join mt_joinQ pe_str (pa_cons (pe_lc (own := [("at", 2), ("part", 3)]) (tt := tYes) rfl nd (pi_enum rfl nm.m_enumerate (pa_cons (pv 1) pa_nil)) (blkOk_by (N := ["text", "parts", "at", "part"]) (sc := C8.fnScope (topS 35)) (by decide +kernel)) (fun _ _ _ _ _ => (pg_tupK (K := K) (n := 2) rfl rfl (pgs_cons (pg_name (i := 2) nd rfl (.inl rfl)) (pgs_cons (pg_name (i := 3) nd rfl (.inl rfl)) pgs_nil)) rfl)) (fun _ _ _ _ _ => pts_nil) (fun _ _ _ _ _ => (pe_ifExp (pt_cmpR op_eq (pe_op op_mod (pe_callTy call_int1 (by rfl) nm.m_int (by decide +kernel) (pa_cons (pv 2) pa_nil)) pe_int) pe_int (nomark _)) (pv 3) (pe_bm0K (K := K) rfl PySem.F.plainAttrs_str PySem.F.slot_str_lower PySem.F.type_str_lower mt_lowerS (pv 3))))) pa_nil))))), ?_⟩
    rw [show start ["text", "parts", "at", "part"] [VS t] = [some (VS t), none, none, none] from rfl]
    have es : Txt.split (S t) (Str.ofString "'") = (TL.spl [39] 0 [] t).map S := by
      rw [s_q]
      exact split_S (by decide) (by decide)
    generalize hparts : TL.spl [39] 0 [] t = parts at es
    have hp1 := spl_part t []
    rw [hparts] at hp1
    have hp2 := spl_len t []
    rw [hparts] at hp2
    have hp3 := spl_sml t [] 0
    rw [hparts] at hp3
    refine ⟨_, rfl, rfl, S t, _, rfl, rfl, by rw [s_q]; decide, by rw [S_len]; exact Nat.le_trans (show _ ≤ 1000000 by omega) (by decide), fun d hd => ?_⟩
    rw [es]
    have e1 : (parts.map S).map V.str = parts.map VS := by rw [List.map_map]; rfl
    rw [e1]
    refine ⟨rfl, _, rfl, d, _, rfl, .inl (.inl upd_same), fun D hD => ?_⟩
    have dD : d ≠ D := ne_of_none upd_same hD
    refine lc_n (J := Ite K d) (n := parts.length) (fun i H' => Same H H' ∧ H' d = some (.lst (parts.map VS)) ∧ H' D = some (.lst ((lp 0 (parts.take i)).map VS)))
      ⟨fun b o e => ?_, by rw [upd_ne dD]; exact upd_same, upd_same⟩ ?_ ?_ ?_ ?_
    · have hn : H D = none := by
        rw [upd_ne dD.symm] at hD
        exact hD
      rw [upd_ne (ne_of_none e hn), upd_ne (ne_of_none e hd)]
      exact e
    · rintro i H' hi ⟨sm, hd', hD'⟩
      exact ⟨_, _, .inl (.inl hd'), by rw [List.getElem?_map, List.getElem?_eq_getElem hi]; rfl⟩
    · rintro H' ⟨sm, hd', hD'⟩
      exact ⟨_, .inl (.inl hd'), by rw [List.length_map]; exact Nat.le_refl _⟩
    · rintro i x H' H'' hi ⟨sm, hd', hD'⟩ ⟨q2, x2, rfl, hq2, rfl, hx⟩
      have hx2 := hx _ (.inl (.inl hd'))
      rw [List.getElem?_map, List.getElem?_eq_getElem hi] at hx2
      obtain rfl := Option.some.inj hx2
      generalize hp : parts[i] = pt at hx2
      have hpt := hp1 pt (by rw [← hp]; exact List.getElem_mem hi)
      have Dq : D ≠ q2 := ne_of_none hD' hq2
      have dq : d ≠ q2 := ne_of_none hd' hq2
      have hDn : H D = none := by
        rw [upd_ne dD.symm] at hD
        exact hD
      refine ⟨q2, _, rfl, .inl (.inl upd_same), rfl, _, _, rfl, _, _, rfl, rfl, rfl, ?_⟩
      have fin : ∀ z : L, z = (if i % 2 = 1 then pt else pt.map lo) → ∃ acc, upd H' q2 (.tup [.int (i : Int), VS pt]) D = some (.lst acc) ∧ acc.length < sizeLine ∧ Same H (upd (upd H' q2 (.tup [.int (i : Int), VS pt])) D (.lst (acc ++ [VS z]))) ∧
          upd (upd H' q2 (.tup [.int (i : Int), VS pt])) D (.lst (acc ++ [VS z])) d = some (.lst (parts.map VS)) ∧ upd (upd H' q2 (.tup [.int (i : Int), VS pt])) D (.lst (acc ++ [VS z])) D = some (.lst ((lp 0 (parts.take (i + 1))).map VS)) := by
        intro z ez
        refine ⟨_, by rw [upd_ne Dq]; exact hD', ?_, ?_, ?_, ?_⟩
        · rw [List.length_map, (lp_len _ _).1, List.length_take]
          simp only [List.length_nil] at hp2
          exact Nat.lt_of_le_of_lt (show _ ≤ 20000 by omega) (by decide)
        · intro b o e
          rw [upd_ne (ne_of_none e hDn), upd_ne (ne_of_none (sm _ _ e) hq2)]
          exact sm _ _ e
        · rw [upd_ne dD, upd_ne dq]
          exact hd'
        · rw [upd_same, List.take_add_one, List.getElem?_eq_getElem hi, hp]
          show _ = some (HO.lst ((lp 0 (parts.take i ++ [pt])).map VS))
          rw [lp_snoc, List.length_take, Nat.min_eq_left (Nat.le_of_lt hi), Nat.zero_add, List.map_append, ← ez]
          rfl
      simp only [tRet, tRetN, tOrV, tAndV, tNotV, tChain, tVar, tC, rI0, rI, tOp, tUn, rU, tCons, tNil, tCB, tTup, tLst, tSeq, tNext, tIfS, tTest, tAnd, tOr, tNot, tB, tSl, tPart, tBM, tBM0, tCall, rEq, rNe, scal, gName, tAsg, tAug, ipI, tIf, tDrop, C8.rSlX, List.getElem?_cons_zero, List.getElem?_cons_succ, Option.some.injEq, V.str.injEq, V.int.injEq, V.bl.injEq, V.ref.injEq, exists_eq_left, exists_eq_left', exists_eq_right, exists_eq_right', exists_and_left, exists_and_right, exists_eq, true_and, and_true, List.set_cons_zero, List.set_cons_succ, List.append_nil, List.nil_append, List.cons_append, List.cons.injEq, reduceIte, Bool.false_eq_true, if_true, if_false, decide_eq_true_eq, lt1, Nat.add_sub_cancel_left, decide_not, Bool.not_eq_true', Bool.not_true, Bool.not_false, decide_eq_false_iff_not, Nat.not_lt, Nat.not_le, tCh, rSlN, rInTS, S_eq, n1, n2, nn, nl, nle, ty_s, slotI, wipe, List.map_cons, List.map_nil, Int.toNat_natCast, and_assoc, tNoPart, tPar, tPar3]
      simp only [tYes, if_true]
      refine .inl ⟨by decide, ?_⟩
      by_cases h1 : i % 2 = 1
      · rw [if_pos (by omega)]
        exact fin pt (by rw [if_pos h1])
      · rw [if_neg (by omega)]
        refine ⟨asc_of fun c hc => ?_, by have := hpt.1; simp only [List.length_nil] at this; omega, fin _ (by rw [if_neg h1])⟩
        rcases hpt.2 c hc with h | h
        · exact absurd h List.not_mem_nil
        · have ta2 := ta
          unfold asc at ta2
          rw [List.all_eq_true] at ta2
          exact of_decide_eq_true (ta2 c h)
    · rintro H' ⟨sm, hd', hD'⟩
      rw [List.take_length] at hD'
      obtain ⟨l1, l2⟩ := lp_len parts 0
      refine ⟨D, lp 0 parts, congrArg V.str s_q, rfl, .inl (.inl hD'), ?_, ?_⟩
      · rw [l1, l2, hp2]
        simp only [List.length_nil]
        omega
      · rw [hp3]
        exact q _ sm
end
end K0

/-! k00: rows of tokens without comments, in small letters -/
namespace K0
open PySem PySem.Spec PyProof.Rows L2 SX
def plainE : List El → List El
  | [] => []
  | .gap g :: r => (g.map fun c => El.gap [bl c]) ++ plainE r
  | .tok w so v :: r => .tok w so v :: plainE r
theorem pl_com (rest : L) : ∀ (i : L), (∀ r, comEnd (i ++ r) = some i.length) → pl 0 1 (i ++ rest) = i.map bl ++ pl 0 0 rest
  | [], h => by
    have := h []
    cases this
  | c :: i, h => by
    show pl 0 1 (c :: (i ++ rest)) = _
    rw [pl1]
    by_cases h1 : c = 125
    · subst h1
      have h2 := h []
      rw [List.cons_append, comEnd_cons, if_pos rfl] at h2
      have h3 := Option.some.inj h2
      rw [List.length_cons] at h3
      have h4 : i = [] := List.length_eq_zero_iff.mp (by omega)
      subst h4
      rw [if_neg (by rintro ⟨z, _⟩; exact absurd z (by decide)), if_pos rfl]
      rfl
    · cases i with
      | nil =>
        have h2 := h []
        rw [List.cons_append, comEnd_cons, if_neg h1, if_neg (by rintro ⟨_, z⟩; cases z)] at h2
        cases h2
      | cons d j =>
        by_cases h2 : c = 42 ∧ d = 41
        · obtain ⟨rfl, rfl⟩ := h2
          have h3 := h []
          rw [List.cons_append, comEnd_cons, if_neg h1, if_pos ⟨rfl, rfl⟩] at h3
          have h4 := Option.some.inj h3
          rw [List.length_cons, List.length_cons] at h4
          have h5 : j = [] := List.length_eq_zero_iff.mp (by omega)
          subst h5
          rw [if_pos ⟨rfl, rfl⟩]
          rfl
        · have h2' : ∀ r : L, ¬ (c = 42 ∧ ((d :: j) ++ r).head? = some 41) := by
            rintro r ⟨z1, z2⟩
            exact h2 ⟨z1, Option.some.inj z2⟩
          rw [if_neg (h2' rest), if_neg h1, pl_com rest (d :: j)]
          · rfl
          · intro r
            have h3 := h r
            rw [List.cons_append, comEnd_cons, if_neg h1, if_neg (h2' r)] at h3
            cases h4 : comEnd ((d :: j) ++ r) with
            | none =>
              rw [h4] at h3
              cases h3
            | some k =>
              rw [h4] at h3
              have h5 : k + 1 = (c :: d :: j).length := Option.some.inj h3
              rw [List.length_cons] at h5
              have h6 : k = (d :: j).length := Nat.succ.inj h5
              rw [h6]
theorem pl_gap {g : L} (h : GapOk g) (rest : L) : pl 0 0 (g ++ rest) = g.map bl ++ pl 0 0 rest := by
  rcases h with rfl | rfl | ⟨o, i, ho, rfl, hi⟩
  · show pl 0 0 (32 :: rest) = _
    rw [pl0, if_neg (by rintro ⟨z, _⟩; exact absurd z (by decide)), if_neg (by decide), if_neg (by decide)]
    rfl
  · show pl 0 0 (10 :: rest) = _
    rw [pl0, if_neg (by rintro ⟨z, _⟩; exact absurd z (by decide)), if_neg (by decide), if_neg (by decide)]
    rfl
  · rcases ho with rfl | rfl
    · show pl 0 0 (123 :: (i ++ rest)) = _
      rw [pl0, if_neg (by rintro ⟨z, _⟩; exact absurd z (by decide)), if_pos rfl, pl_com rest i hi]
      rfl
    · show pl 0 0 (40 :: 42 :: (i ++ rest)) = _
      rw [pl0, if_pos ⟨rfl, rfl⟩]
      show 32 :: 32 :: pl 0 1 (i ++ rest) = _
      rw [pl_com rest i hi]
      rfl
theorem pl_free (rest : L) : ∀ (w : L), (∀ c ∈ w, c ≠ 40 ∧ c ≠ 123 ∧ c ≠ 39) → pl 0 0 (w ++ rest) = w ++ pl 0 0 rest
  | [], _ => rfl
  | c :: w, h => by
    obtain ⟨h1, h2, h3⟩ := h c List.mem_cons_self
    show pl 0 0 (c :: (w ++ rest)) = _
    rw [pl0, if_neg (fun z => h1 z.1), if_neg h2, if_neg h3, pl_free rest w fun d hd => h d (List.mem_cons_of_mem _ hd)]
    rfl
theorem dblq_c (c : Nat) (r : L) : dblq (c :: r) = if c = 39 then 39 :: 39 :: dblq r else c :: dblq r := by
  show (if c = 39 then c :: c :: StrLaws.dbl 39 r else c :: StrLaws.dbl 39 r) = _
  by_cases h : c = 39
  · rw [if_pos h, if_pos h, h]
    rfl
  · rw [if_neg h, if_neg h]
    rfl
theorem pl_str {rest : L} (h : rest.head? ≠ some 39) : ∀ (s : L), pl 0 2 (dblq s ++ (39 :: rest)) = dblq s ++ (39 :: pl 0 0 rest)
  | [] => by
    show pl 0 2 (39 :: rest) = _
    rw [pl2, if_neg (fun z => h z.2), if_pos rfl]
    rfl
  | c :: s => by
    rw [dblq_c]
    by_cases hc : c = 39
    · rw [if_pos hc]
      show pl 0 2 (39 :: 39 :: (dblq s ++ (39 :: rest))) = _
      rw [pl2, if_pos ⟨rfl, rfl⟩]
      show 39 :: 39 :: pl 0 2 (dblq s ++ (39 :: rest)) = _
      rw [pl_str h s]
      rfl
    · rw [if_neg hc]
      show pl 0 2 (c :: (dblq s ++ (39 :: rest))) = _
      rw [pl2, if_neg (fun z => hc z.1), if_neg hc, pl_str h s]
      rfl
theorem al_free {c : Nat} (h : isAl c = true) : c ≠ 40 ∧ c ≠ 123 ∧ c ≠ 39 ∧ c ≠ 10 := by
  unfold isAl isLet isFig at h
  simp only [Bool.or_eq_true, Bool.and_eq_true, decide_eq_true_eq] at h
  omega
theorem fig_al {c : Nat} (h : isFig c = true) : isAl c = true := by
  unfold isAl
  rw [h, Bool.or_true]
theorem sing_free : ∀ d ∈ singles, d ≠ 123 ∧ d ≠ 39 := by decide +kernel
theorem pairs_free2 : ∀ w ∈ pairsL, ∀ c ∈ w, c ≠ 40 ∧ c ≠ 123 ∧ c ≠ 39 := by decide +kernel
theorem pl_tok {w : L} {so : String} {v : V} (h : TokOk w so v) {rest : L} (fo : Fol w rest) : pl 0 0 (w ++ rest) = w ++ pl 0 0 rest := by
  cases h with
  | @word _ c w' e hl hall hw => exact pl_free rest w fun c hc => ⟨(al_free (hall c hc)).1, (al_free (hall c hc)).2.1, (al_free (hall c hc)).2.2.1⟩
  | @name _ c w' e hl hall hw => exact pl_free rest w fun c hc => ⟨(al_free (hall c hc)).1, (al_free (hall c hc)).2.1, (al_free (hall c hc)).2.2.1⟩
  | @num _ m k eu hm hk =>
    refine pl_free rest w fun c hc => ?_
    have h1 := al_free (fig_al (num_figs k m c (by rw [← eu]; exact hc)))
    exact ⟨h1.1, h1.2.1, h1.2.2.1⟩
  | @str _ x eu hx h10 =>
    subst eu
    have h1 : rest.head? ≠ some 39 := by
      intro z
      have h2 := fo 39 z
      rw [may_eq, if_neg (by decide), if_neg (by decide), if_pos rfl] at h2
      exact h2 rfl
    show pl 0 0 (39 :: (dblq x ++ [39] ++ rest)) = _
    rw [pl0, if_neg (by rintro ⟨z, _⟩; exact absurd z (by decide)), if_neg (by decide), if_pos rfl, List.append_assoc]
    show 39 :: pl 0 2 (dblq x ++ (39 :: rest)) = _
    rw [pl_str h1 x, List.cons_append, List.append_assoc]
    rfl
  | @one c hc =>
    obtain ⟨h1, h2⟩ := sing_free c hc
    show pl 0 0 (c :: rest) = _
    rw [pl0, if_neg, if_neg h1, if_neg h2]
    · rfl
    · rintro ⟨rfl, z⟩
      have h3 := fo 42 z
      rw [may_eq, if_neg (by decide), if_neg (by decide), if_neg (by decide)] at h3
      exact h3.2 rfl
  | two hw => exact pl_free rest w fun c hc => pairs_free2 w hw c hc
theorem flat_bl (g : L) : flat (g.map fun c => El.gap [bl c]) = g.map bl := by
  induction g with
  | nil => rfl
  | cons c r ih =>
    rw [List.map_cons, flat_cons, ih]
    rfl
theorem plain_flat : ∀ {els : List El}, ElsOk els → pl 0 0 (flat els) = flat (plainE els)
  | [], _ => rfl
  | .gap g :: r, ok => by
    show pl 0 0 (g ++ flat r) = flat ((g.map fun c => El.gap [bl c]) ++ plainE r)
    rw [pl_gap ok.1, plain_flat ok.2, flat_app, flat_bl]
  | .tok w so v :: r, ok => by
    show pl 0 0 (w ++ flat r) = w ++ flat (plainE r)
    rw [pl_tok ok.1 ok.2.1, plain_flat ok.2.2]
theorem bl_two (c : Nat) : bl c = 32 ∨ bl c = 10 := by
  unfold bl
  split
  · exact .inr rfl
  · exact .inl rfl
theorem els_bl (g : L) : ElsOk (g.map fun c => El.gap [bl c]) := by
  induction g with
  | nil => trivial
  | cons c r ih =>
    refine ⟨?_, ih⟩
    rcases bl_two c with h | h
    · exact .inl (by rw [h])
    · exact .inr (.inl (by rw [h]))
theorem plain_head {els : List El} (ok : ElsOk els) {c : Nat} (h : (flat (plainE els)).head? = some c) : (c = 32 ∨ c = 10) ∨ (flat els).head? = some c := by
  cases els with
  | nil => cases h
  | cons e r =>
    cases e with
    | gap g =>
      have h1 := gap_pos ok.1
      cases g with
      | nil => exact absurd h1 (by decide)
      | cons d t =>
        have h2 : some (bl d) = some c := h
        rw [← Option.some.inj h2]
        exact .inl (bl_two d)
    | tok w so v =>
      have h1 := (tok_of ok.1 ok.2.1).2
      right
      cases w with
      | nil => exact absurd h1 (by decide)
      | cons d t => exact h
theorem plain_ok : ∀ {els : List El}, ElsOk els → ElsOk (plainE els)
  | [], _ => trivial
  | .gap g :: r, ok => by
    refine els_app (els_bl g) (plain_ok ok.2) fun x w so v e => ?_
    have hm : El.tok w so v ∈ g.map fun c => El.gap [bl c] := by rw [e]; simp
    obtain ⟨g, _, hg⟩ := List.mem_map.mp hm
    cases hg
  | .tok w so v :: r, ok => by
    refine ⟨ok.1, fun c hc => ?_, plain_ok ok.2.2⟩
    rcases plain_head ok.2.2 hc with (h | h) | h
    · exact may_four ok.1 (by rw [h]; decide)
    · exact may_four ok.1 (by rw [h]; decide)
    · exact ok.2.1 c h
theorem adv_map (f : Nat → Nat) (hf : ∀ c, f c = 10 ↔ c = 10) : ∀ (t : L) (p : Nat × Nat), adv p (t.map f) = adv p t
  | [], _ => rfl
  | c :: r, p => by
    show adv (if f c = 10 then (p.1 + 1, 1) else (p.1, p.2 + 1)) (r.map f) = adv (if c = 10 then (p.1 + 1, 1) else (p.1, p.2 + 1)) r
    rw [adv_map f hf r]
    by_cases h : c = 10
    · rw [if_pos h, if_pos ((hf c).mpr h)]
    · rw [if_neg h, if_neg fun z => h ((hf c).mp z)]
theorem bl_10 (c : Nat) : bl c = 10 ↔ c = 10 := by
  unfold bl
  split
  · simp [*]
  · constructor
    · intro h; exact absurd h (by decide)
    · intro h; contradiction
theorem due_bl (r : List El) : ∀ (g : L) (p : Nat × Nat), due p ((g.map fun c => El.gap [bl c]) ++ r) = due (adv p (g.map bl)) r
  | [], _ => rfl
  | c :: g, p => due_bl r g _
theorem plain_due : ∀ (els : List El) (p : Nat × Nat), due p (plainE els) = due p els
  | [], _ => rfl
  | .gap g :: r, p => by
    show due p ((g.map fun c => El.gap [bl c]) ++ plainE r) = due (adv p g) r
    rw [due_bl, adv_map bl bl_10, plain_due r]
  | .tok w so v :: r, p => by
    show _ :: due (adv p w) (plainE r) = _ :: due (adv p w) r
    rw [plain_due r]
theorem flat_len_plain {els : List El} (ok : ElsOk els) : (flat (plainE els)).length = (flat els).length := by
  induction els with
  | nil => rfl
  | cons e r ih =>
    cases e with
    | gap g =>
      show (flat ((g.map fun c => El.gap [bl c]) ++ plainE r)).length = (g ++ flat r).length
      rw [flat_app, flat_bl, List.length_append, List.length_append, List.length_map, ih ok.2]
    | tok w so v =>
      show (w ++ flat (plainE r)).length = (w ++ flat r).length
      rw [List.length_append, List.length_append, ih ok.2.2]
theorem asc_app {a b : L} (ha : asc a) (hb : asc b) : asc (a ++ b) := by
  unfold asc at *
  rw [List.all_append, ha, hb]
  rfl
theorem plain_asc : ∀ {els : List El}, (∀ w so v, El.tok w so v ∈ els → asc w) → asc (flat (plainE els))
  | [], _ => rfl
  | .gap g :: r, h => by
    show asc (flat ((g.map fun c => El.gap [bl c]) ++ plainE r))
    rw [flat_app, flat_bl]
    refine asc_app (asc_of fun c hc => ?_) (plain_asc fun w so v hm => h w so v (List.mem_cons_of_mem _ hm))
    obtain ⟨d, _, rfl⟩ := List.mem_map.mp hc
    rcases bl_two d with z | z <;> rw [z] <;> decide
  | .tok w so v :: r, h => asc_app (h w so v List.mem_cons_self) (plain_asc fun w so v hm => h w so v (List.mem_cons_of_mem _ hm))
end K0

/-! k00: rows of tokens in small letters -/
namespace K0
open PySem PySem.Spec PyProof.Rows L2 SX
def low (w : L) : L := if w.head? = some 39 then w else w.map lo
def lowEl : El → El
  | .gap g => .gap g
  | .tok w so v => .tok (low w) so v
def lowE (els : List El) : List El := els.map lowEl
/-- gaps that are a blank or a line feed -/
def Bare (els : List El) : Prop := ∀ g, El.gap g ∈ els → g = [32] ∨ g = [10]
theorem bare_plain : ∀ (els : List El), Bare (plainE els)
  | [] => fun g h => absurd h List.not_mem_nil
  | .gap g :: r => by
    intro x hx
    rcases List.mem_append.mp hx with hx | hx
    · obtain ⟨c, _, e⟩ := List.mem_map.mp hx
      injection e with e
      rw [← e]
      rcases bl_two c with h | h <;> rw [h] <;> simp
    · exact bare_plain r x hx
  | .tok w so v :: r => by
    intro x hx
    rcases List.mem_cons.mp hx with hx | hx
    · cases hx
    · exact bare_plain r x hx
theorem lo_def (c : Nat) : lo c = if 65 ≤ c ∧ c ≤ 90 then c + 32 else c := by
  show PyProof.Rows.lo1 c = _
  unfold PyProof.Rows.lo1
  rfl
theorem lo_let (c : Nat) : isLet (lo c) = isLet c := by
  rw [lo_def, Bool.eq_iff_iff]
  unfold isLet
  simp only [Bool.or_eq_true, Bool.and_eq_true, decide_eq_true_eq]
  split <;> omega
theorem lo_fig (c : Nat) : isFig (lo c) = isFig c := by
  rw [lo_def, Bool.eq_iff_iff]
  unfold isFig
  simp only [Bool.and_eq_true, decide_eq_true_eq]
  split <;> omega
theorem lo_al (c : Nat) : isAl (lo c) = isAl c := by
  unfold isAl
  rw [lo_let, lo_fig]
theorem lo_lo (c : Nat) : lo (lo c) = lo c := by
  rw [lo_def, lo_def]
  split
  · rw [if_neg (by omega)]
  · rfl
theorem lo_same {c : Nat} (h : ¬ (65 ≤ c ∧ c ≤ 90)) : lo c = c := by
  rw [lo_def, if_neg h]
theorem lo_39 (c : Nat) : lo c = 39 ↔ c = 39 := by
  rw [lo_def]
  split <;> omega
theorem lo_10 (c : Nat) : lo c = 10 ↔ c = 10 := by
  rw [lo_def]
  split <;> omega
theorem fig_lo {c : Nat} (h : isFig c = true) : lo c = c := by
  unfold isFig at h
  simp only [Bool.and_eq_true, decide_eq_true_eq] at h
  exact lo_same (by omega)
theorem map_same {f : Nat → Nat} {w : L} (h : ∀ c ∈ w, f c = c) : w.map f = w := by
  induction w with
  | nil => rfl
  | cons c r ih => rw [List.map_cons, h c List.mem_cons_self, ih fun d hd => h d (List.mem_cons_of_mem _ hd)]
theorem sing_lo : ∀ d ∈ singles, lo d = d ∧ d ≠ 39 := by decide +kernel
theorem pairs_lo : ∀ w ∈ pairsL, (∀ c ∈ w, lo c = c ∧ c ≠ 39 ∧ c < 97) := by decide +kernel
theorem low_map {w : L} (h : ∀ c ∈ w, c ≠ 39) : low w = w.map lo := by
  unfold low
  rw [if_neg]
  intro z
  cases w with
  | nil => cases z
  | cons c r => exact h c List.mem_cons_self (Option.some.inj z)
theorem low_c (d : Nat) (r : L) : low (d :: r) = if d = 39 then d :: r else (d :: r).map lo := by
  show (if some d = some 39 then d :: r else (d :: r).map lo) = _
  by_cases h : d = 39
  · rw [if_pos h, if_pos (by rw [h])]
  · rw [if_neg h, if_neg fun z => h (Option.some.inj z)]
theorem low_q (r : L) : low (39 :: r) = 39 :: r := by
  rw [low_c, if_pos rfl]
theorem low_len (w : L) : (low w).length = w.length := by
  unfold low
  split
  · rfl
  · rw [List.length_map]
theorem low_tok {w : L} {so : String} {v : V} (h : TokOk w so v) : TokOk (low w) so v := by
  cases h with
  | @word _ c w' e hl hall hw =>
    rw [low_map fun c hc => (al_free (hall c hc)).2.2.1]
    have e2 : (w.map lo).map lo = w.map lo := by
      rw [List.map_map]
      exact List.map_congr_left fun c _ => lo_lo c
    have := TokOk.word (w := w.map lo) (c := lo c) (r := w'.map lo) (by rw [e]; rfl) (by rw [lo_let]; exact hl) (fun d hd => by
      obtain ⟨x, hx, rfl⟩ := List.mem_map.mp hd
      rw [lo_al]
      exact hall x hx) (by rw [e2]; exact hw)
    rw [e2] at this
    exact this
  | @name _ c w' e hl hall hw =>
    rw [low_map fun c hc => (al_free (hall c hc)).2.2.1]
    have e2 : (w.map lo).map lo = w.map lo := by
      rw [List.map_map]
      exact List.map_congr_left fun c _ => lo_lo c
    have := TokOk.name (w := w.map lo) (c := lo c) (r := w'.map lo) (by rw [e]; rfl) (by rw [lo_let]; exact hl) (fun d hd => by
      obtain ⟨x, hx, rfl⟩ := List.mem_map.mp hd
      rw [lo_al]
      exact hall x hx) (by rw [e2]; exact hw)
    rw [e2] at this
    exact this
  | @num _ m k eu hm hk =>
    have hf : ∀ c ∈ w, isFig c = true := fun c hc => num_figs k m c (by rw [← eu]; exact hc)
    rw [low_map fun c hc => (al_free (fig_al (hf c hc))).2.2.1, map_same fun c hc => fig_lo (hf c hc)]
    exact TokOk.num eu hm hk
  | @str _ x eu hx h10 =>
    subst eu
    rw [low_q]
    exact TokOk.str rfl hx h10
  | @one c hc =>
    obtain ⟨h1, h2⟩ := sing_lo c hc
    have e : low [c] = [c] := by
      rw [low_map fun d hd => by rw [List.mem_singleton.mp hd]; exact h2]
      show [lo c] = [c]
      rw [h1]
    rw [e]
    exact TokOk.one hc
  | two hw =>
    have h := pairs_lo w hw
    rw [low_map fun c hc => (h c hc).2.1, map_same fun c hc => (h c hc).1]
    exact TokOk.two hw
theorem may_low {w : L} {so : String} {v : V} (h : TokOk w so v) {c : Nat} (hc : may w c) : may (low w) (lo c) := by
  obtain ⟨d, r, rfl, h1⟩ := tok_form h
  rw [may_eq] at hc
  rcases h1 with h1 | ⟨h1, h2⟩ | ⟨h1, h2, h3⟩
  · rw [if_pos h1] at hc
    have hd : d ≠ 39 := by
      rintro rfl
      exact absurd h1 (by decide)
    have e : low (d :: r) = lo d :: r.map lo := by
      rw [low_c, if_neg hd]
      rfl
    rw [e, may_eq, lo_let, if_pos h1, lo_al]
    exact hc
  · rw [if_neg (by rw [h1]; decide), if_pos h2] at hc
    have hd : d ≠ 39 := by
      rintro rfl
      exact absurd h2 (by decide)
    have e : low (d :: r) = lo d :: r.map lo := by
      rw [low_c, if_neg hd]
      rfl
    rw [e, may_eq, lo_let, if_neg (by rw [h1]; decide), lo_fig, if_pos h2, lo_fig]
    exact hc
  · rw [if_neg (by rw [h1]; decide), if_neg (by rw [h2]; decide)] at hc
    rcases h3 with ⟨h3, _⟩ | ⟨h3, _, h4⟩
    · rw [if_pos h3] at hc
      subst h3
      rw [low_q, may_eq, if_neg (by decide), if_neg (by decide), if_pos rfl]
      exact fun z => hc ((lo_39 c).mp z)
    · rw [if_neg h3] at hc
      rcases h4 with ⟨rfl, h4⟩ | h4
      · have e : low [d] = [d] := by
          rw [low_c, if_neg h3]
          show [lo d] = [d]
          rw [(sing_lo d h4).1]
        rw [e, may_eq, if_neg (by rw [h1]; decide), if_neg (by rw [h2]; decide), if_neg h3]
        by_cases hu : 65 ≤ c ∧ c ≤ 90
        · have el : lo c = c + 32 := by rw [lo_def, if_pos hu]
          rw [el]
          constructor
          · intro z
            have := (pairs_lo _ z (c + 32) (by simp)).2.2
            omega
          · intro z
            have := (List.cons.inj (List.cons.inj z).2).1
            omega
        · rw [lo_same hu]
          exact hc
      · have e2 : (low (d :: r)).length = 2 := by
          rw [low_len]
          exact h4
        have e : low (d :: r) = lo d :: r.map lo := by
          rw [low_c, if_neg h3]
          rfl
        have h5 := three_not (c := lo c) e2
        rw [e] at h5 ⊢
        rw [may_eq, lo_let, if_neg (by rw [h1]; decide), lo_fig, if_neg (by rw [h2]; decide), if_neg fun z => h3 ((lo_39 d).mp z)]
        exact h5
theorem low_head {els : List El} (ok : ElsOk els) (b : Bare els) {c : Nat} (h : (flat (lowE els)).head? = some c) : ∃ d, (flat els).head? = some d ∧ c = lo d := by
  cases els with
  | nil => cases h
  | cons e r =>
    cases e with
    | gap g =>
      rcases b g List.mem_cons_self with rfl | rfl
      · exact ⟨32, rfl, (Option.some.inj h).symm⟩
      · exact ⟨10, rfl, (Option.some.inj h).symm⟩
    | tok w so v =>
      have h1 := (tok_of ok.1 ok.2.1).2
      cases w with
      | nil => exact absurd h1 (by decide)
      | cons d t =>
        refine ⟨d, rfl, ?_⟩
        by_cases hd : d = 39
        · subst hd
          have h2 : (low (39 :: t) ++ flat (lowE r)).head? = some c := h
          rw [low_q] at h2
          exact (Option.some.inj h2).symm
        · have h2 : (low (d :: t) ++ flat (lowE r)).head? = some c := h
          rw [low_c, if_neg hd] at h2
          exact (Option.some.inj h2).symm
theorem low_ok : ∀ {els : List El}, ElsOk els → Bare els → ElsOk (lowE els)
  | [], _, _ => trivial
  | .gap g :: r, ok, b => ⟨ok.1, low_ok ok.2 fun x hx => b x (List.mem_cons_of_mem _ hx)⟩
  | .tok w so v :: r, ok, b => by
    have b2 : Bare r := fun x hx => b x (List.mem_cons_of_mem _ hx)
    refine ⟨low_tok ok.1, fun c hc => ?_, low_ok ok.2.2 b2⟩
    obtain ⟨d, hd, rfl⟩ := low_head ok.2.2 b2 hc
    exact may_low ok.1 (ok.2.1 d hd)
theorem low_due : ∀ (els : List El) (p : Nat × Nat), due p (lowE els) = due p els
  | [], _ => rfl
  | .gap g :: r, p => low_due r _
  | .tok w so v :: r, p => by
    show _ :: due (adv p (low w)) (lowE r) = _ :: due (adv p w) r
    have e : adv p (low w) = adv p w := by
      unfold low
      split
      · rfl
      · exact adv_map lo lo_10 w p
    rw [e, low_due r]
theorem sml_c (b : Bool) (c : Nat) (r : L) : sml b (c :: r) = if c = 39 then 39 :: sml (!b) r else (if b = true then c else lo c) :: sml b r := rfl
theorem sml_free (rest : L) : ∀ (w : L), (∀ c ∈ w, c ≠ 39) → sml false (w ++ rest) = w.map lo ++ sml false rest
  | [], _ => rfl
  | c :: w, h => by
    show sml false (c :: (w ++ rest)) = _
    rw [sml_c, if_neg (h c List.mem_cons_self), if_neg (by decide), sml_free rest w fun d hd => h d (List.mem_cons_of_mem _ hd)]
    rfl
theorem sml_str (rest : L) : ∀ (s : L), sml true (dblq s ++ (39 :: rest)) = dblq s ++ (39 :: sml false rest)
  | [] => rfl
  | c :: s => by
    rw [dblq_c]
    by_cases hc : c = 39
    · rw [if_pos hc]
      show sml true (39 :: 39 :: (dblq s ++ (39 :: rest))) = _
      rw [sml_c, if_pos rfl, sml_c, if_pos rfl]
      show 39 :: 39 :: sml true (dblq s ++ (39 :: rest)) = _
      rw [sml_str rest s]
      rfl
    · rw [if_neg hc]
      show sml true (c :: (dblq s ++ (39 :: rest))) = _
      rw [sml_c, if_neg hc, if_pos rfl, sml_str rest s]
      rfl
theorem sml_tok {w : L} {so : String} {v : V} (h : TokOk w so v) (rest : L) : sml false (w ++ rest) = low w ++ sml false rest := by
  have fre : (∀ c ∈ w, c ≠ 39) → sml false (w ++ rest) = low w ++ sml false rest := fun f => by rw [low_map f, sml_free rest w f]
  cases h with
  | @word _ c w' e hl hall hw => exact fre fun c hc => (al_free (hall c hc)).2.2.1
  | @name _ c w' e hl hall hw => exact fre fun c hc => (al_free (hall c hc)).2.2.1
  | @num _ m k eu hm hk => exact fre fun c hc => (al_free (fig_al (num_figs k m c (by rw [← eu]; exact hc)))).2.2.1
  | @str _ x eu hx h10 =>
    subst eu
    rw [low_q]
    show sml false (39 :: (dblq x ++ [39] ++ rest)) = _
    rw [sml_c, if_pos rfl, List.append_assoc]
    show 39 :: sml true (dblq x ++ (39 :: rest)) = _
    rw [sml_str rest x, List.cons_append, List.append_assoc]
    rfl
  | @one c hc => exact fre fun d hd => by rw [List.mem_singleton.mp hd]; exact (sing_lo c hc).2
  | two hw => exact fre fun c hc => (pairs_lo w hw c hc).2.1
theorem low_flat : ∀ {els : List El}, ElsOk els → Bare els → sml false (flat els) = flat (lowE els)
  | [], _, _ => rfl
  | .gap g :: r, ok, b => by
    have ih := low_flat ok.2 fun x hx => b x (List.mem_cons_of_mem _ hx)
    rcases b g List.mem_cons_self with rfl | rfl
    · show sml false (32 :: flat r) = 32 :: flat (lowE r)
      rw [sml_c, if_neg (by decide), if_neg (by decide), ih]
      rfl
    · show sml false (10 :: flat r) = 10 :: flat (lowE r)
      rw [sml_c, if_neg (by decide), if_neg (by decide), ih]
      rfl
  | .tok w so v :: r, ok, b => by
    have ih := low_flat ok.2.2 fun x hx => b x (List.mem_cons_of_mem _ hx)
    show sml false (w ++ flat r) = low w ++ flat (lowE r)
    rw [sml_tok ok.1, ih]
theorem flat_len_low (els : List El) : (flat (lowE els)).length = (flat els).length := by
  induction els with
  | nil => rfl
  | cons e r ih =>
    cases e with
    | gap g =>
      show (g ++ flat (lowE r)).length = (g ++ flat r).length
      rw [List.length_append, List.length_append, ih]
    | tok w so v =>
      show (low w ++ flat (lowE r)).length = (w ++ flat r).length
      rw [List.length_append, List.length_append, ih, low_len]
end K0

/-! k00: pots and cells -/
namespace K0
open PySem PySem.Spec PyProof.Rows L2 SX
abbrev sPot : Stmt := topS 20
abbrev sCells : Stmt := topS 23
section
variable {P : Program} {w : World} {K : PySem.W.Frag} {mg : Str → Option Value} {base : Heap} {aW aL : Addr}
def spPot : Sp := fun vs H Q _ => ∃ (a : Addr) (ns : List Int) (i : Nat), vs = [.ref a, .int (i : Int)] ∧ SqL K H a (ns.map V.int) ∧ i ≤ 2 ∧ ∀ H' p, Same H H' → H p = none → Pot H' p 0 → Q (.ref p) H'
theorem sc_pot : FnScope ["script", "place", "cell", "own", "small"] ["script", "place"] (C8.fnScope sPot) := C8.fnScope_by (by decide +kernel)
theorem ok_pot (nm : Nm w K mg aW aL) {f : Addr} {fd : FuncData} (D : C8.Def K mg "_law_pot" sPot f fd) (b : Binds K fd ["script", "place"] []) :
    Cg P w K mg base 1 "_law_pot" (spPot (K := K)) := by
  refine cg0 D b sc_pot (fun vs H Q E h => ?_) (fun cdv A outer s H vs Q E hr gg h => ?_)
  · obtain ⟨a, ns, i, rfl, _⟩ := h
    rfl
  · obtain ⟨a, ns, i, rfl, hs, hi, q⟩ := h
    have nd := sc_pot.nd
    have hbig : big = 1000000 := rfl
    refine ⟨_, (C8.pss_cut (ps_set (i := 2) nd rfl (.inl rfl) (pe_ifExp (pt_cmpR op_lt (pv 1) (pe_callB call_len_seq (by rfl) nm.m_len (by decide +kernel) (pa_cons (pv 0) pa_nil)) (nomark _)) (pe_ix ix_list (pv 0) (pv 1) (fun _ _ => rfl)) (pe_op op_add (pe_op op_add (pe_op op_mod (pe_callTy call_int1 (by rfl) nm.m_int (by decide +kernel) (pa_cons (pe_callB (cr_sum rfl) (by rfl) nm.m_sum (by decide +kernel) (pa_cons (pe_slice sl_list (pv 0) po_none (po_some pe_int)) pa_nil)) pa_nil)) pe_int) (pe_op op_mulW pe_int (pv 1))) pe_int)))
  (C8.pss_cut (ps_set (i := 3) nd rfl (.inl rfl) (pe_op op_mulW (pe_op op_mod (pe_callTy call_int1 (by rfl) nm.m_int (by decide +kernel) (pa_cons (pe_callB call_abs (by rfl) nm.m_abs (by decide +kernel) (pa_cons (pv 2) pa_nil)) pa_nil)) (pe_op op_powW (pe_op op_powW pe_int pe_int) pe_int)) (pe_callTy call_int1 (by rfl) nm.m_int (by decide +kernel) (pa_cons (pe_cmpR op_ge (pe_callB call_abs (by rfl) nm.m_abs (by decide +kernel) (pa_cons (pv 2) pa_nil)) (pe_op op_powW pe_int pe_int) (nomark _)) pa_nil))))
  (pss_cons (ps_set (i := 4) nd rfl (.inl rfl) (pe_op op_mod (pe_callTy call_int1 (by rfl) nm.m_int (by decide +kernel) (pa_cons (pv 2) pa_nil)) pe_int))
  (pss_one (ps_ret (pe_lst (pa_cons (pv 3) (pa_cons (pe_op op_mod (pe_callTy call_int1 (by rfl) nm.m_int (by decide +kernel) (pa_cons (pe_op op_add (pe_op op_add (pe_op op_mulW (pv 4) pe_int) (pe_op op_mulW (pe_op op_mulW pe_int (pv 1)) (pv 1))) pe_int) pa_nil)) pe_int) (pa_cons pe_int pa_nil))))))))), ?_⟩
    rw [show start ["script", "place", "cell", "own", "small"] [.ref a, .int (i : Int)] = [some (.ref a), some (.int (i : Int)), none, none, none] from rfl]
    refine ⟨fun σ H1 => ∃ x : Int, Same H H1 ∧ σ = [some (.ref a), some (.int (i : Int)), some (.int x), none, none], ?_, ?_⟩
    · refine ⟨_, rfl, _, rfl, a, _, rfl, .inl hs, _, _, rfl, rfl, _, rfl, ?_⟩
      by_cases hlt : i < ns.length
      · rw [decide_eq_true (by rw [List.length_map]; omega)]
        simp only [if_true]
        refine ⟨_, rfl, _, rfl, a, _, _, .int ns[i], rfl, rfl, hs, atI_nat (by rw [List.getElem?_map, List.getElem?_eq_getElem hlt]; rfl), ?_⟩
        exact ⟨_, fun _ _ h => h, rfl⟩
      · rw [decide_eq_false (by rw [List.length_map]; omega)]
        simp only [Bool.false_eq_true, if_false]
        refine ⟨_, rfl, _, rfl, a, _, rfl, hs, fun d hd => ?_⟩
        refine ⟨d, ns.take 1, rfl, .inl (.inl ?_), .inl ⟨_, rfl, ?_⟩⟩
        · rw [upd_same]
          congr 2
          cases ns with
          | nil => rfl
          | cons x r =>
            have e : HT.sIx ((x :: r).map V.int).length ((x :: r).map V.int).length (some 1) = 1 := by
              unfold HT.sIx
              simp
              try omega
            unfold cutV
            rw [e]
            rfl
        · simp only [tRet, tRetN, tOrV, tAndV, tNotV, tChain, tVar, tC, rI0, rI, tOp, tUn, rU, tCons, tNil, tCB, tTup, tLst, tSeq, tNext, tIfS, tTest, tAnd, tOr, tNot, tB, tSl, tPart, tBM, tBM0, tCall, rEq, rNe, scal, gName, tAsg, tAug, ipI, tIf, tDrop, C8.rSlX, List.getElem?_cons_zero, List.getElem?_cons_succ, Option.some.injEq, V.str.injEq, V.int.injEq, V.bl.injEq, V.ref.injEq, exists_eq_left, exists_eq_left', exists_eq_right, exists_eq_right', exists_and_left, exists_and_right, exists_eq, true_and, and_true, List.set_cons_zero, List.set_cons_succ, List.append_nil, List.nil_append, List.cons_append, List.cons.injEq, reduceIte, Bool.false_eq_true, if_true, if_false, decide_eq_true_eq, lt1, Nat.add_sub_cancel_left, decide_not, Bool.not_eq_true', Bool.not_true, Bool.not_false, decide_eq_false_iff_not, Nat.not_lt, Nat.not_le, tCh, rSlN, rInTS, S_eq, n1, n2, nn, nl, nle, ty_s, slotI, wipe, List.map_cons, List.map_nil, Int.toNat_natCast, and_assoc, tNoPart, tPar, tPar3]
          exact ⟨by decide, wide_mul (a := 20) (b := 20) (by decide) (by omega) (by decide) (by decide) (by decide), Same_new hd⟩
    rintro σ H1 ⟨x, sm1, rfl⟩
    refine ⟨fun σ H2 => ∃ y : Int, H2 = H1 ∧ 0 ≤ y ∧ y < 2 ^ 1000 ∧ σ = [some (.ref a), some (.int (i : Int)), some (.int x), some (.int y), none], ?_, ?_⟩
    · simp only [tRet, tRetN, tOrV, tAndV, tNotV, tChain, tVar, tC, rI0, rI, tOp, tUn, rU, tCons, tNil, tCB, tTup, tLst, tSeq, tNext, tIfS, tTest, tAnd, tOr, tNot, tB, tSl, tPart, tBM, tBM0, tCall, rEq, rNe, scal, gName, tAsg, tAug, ipI, tIf, tDrop, C8.rSlX, List.getElem?_cons_zero, List.getElem?_cons_succ, Option.some.injEq, V.str.injEq, V.int.injEq, V.bl.injEq, V.ref.injEq, exists_eq_left, exists_eq_left', exists_eq_right, exists_eq_right', exists_and_left, exists_and_right, exists_eq, true_and, and_true, List.set_cons_zero, List.set_cons_succ, List.append_nil, List.nil_append, List.cons_append, List.cons.injEq, reduceIte, Bool.false_eq_true, if_true, if_false, decide_eq_true_eq, lt1, Nat.add_sub_cancel_left, decide_not, Bool.not_eq_true', Bool.not_true, Bool.not_false, decide_eq_false_iff_not, Nat.not_lt, Nat.not_le, tCh, rSlN, rInTS, S_eq, n1, n2, nn, nl, nle, ty_s, slotI, wipe, List.map_cons, List.map_nil, Int.toNat_natCast, and_assoc, tNoPart, tPar, tPar3, CPowW, reduceCtorEq, false_and, exists_false, false_or, or_false]
      have p60 : (10 : Int) ^ Int.toNat 60 = 10 ^ 60 := rfl
      have m0 : (0 : Int) < (10 ^ Int.toNat 60) ^ Int.toNat 5 := by decide +kernel
      have m1 : ((10 : Int) ^ Int.toNat 60) ^ Int.toNat 5 < 2 ^ 1000 := by decide +kernel
      have hb1 : (Builtin.Int.intBits 10 : Int) * 60 ≤ 2 ^ 27 := by decide +kernel
      have hb2 : (Builtin.Int.intBits (10 ^ Int.toNat 60) : Int) * 5 ≤ 2 ^ 27 := by decide +kernel
      have hb3 : (Builtin.Int.intBits 10 : Int) * 18 ≤ 2 ^ 27 := by decide +kernel
      refine ⟨by decide, hb1, by decide, hb2, m0, by decide, hb3, ?_⟩
      generalize ((10 : Int) ^ Int.toNat 60) ^ Int.toNat 5 = M at m0 m1
      generalize (if x < 0 then -x else x) = ax
      have r0 : 0 ≤ ax % M := Int.emod_nonneg _ (by omega)
      have r1 : ax % M < 2 ^ 1000 := Int.lt_trans (Int.emod_lt_of_pos _ m0) m1
      by_cases hc : (10 : Int) ^ Int.toNat 18 ≤ ax
      · rw [if_pos hc]
        refine ⟨wide_mul (a := 1000) (b := 1) ?_ (by decide) (by decide) (by decide) (by decide), _, ?_, ?_, rfl⟩
        · have : ((ax % M).natAbs : Int) < (2 : Int) ^ 1000 := by omega
          have e : ((ax % M).natAbs : Int) < ((2 ^ 1000 : Nat) : Int) := by exact_mod_cast this
          exact Int.ofNat_lt.mp e
        · rw [Int.mul_one]
          exact r0
        · rw [Int.mul_one]
          exact r1
      · rw [if_neg hc]
        refine ⟨wide_mul (a := 1000) (b := 1) ?_ (by decide) (by decide) (by decide) (by decide), _, ?_, ?_, rfl⟩
        · have : ((ax % M).natAbs : Int) < (2 : Int) ^ 1000 := by omega
          have e : ((ax % M).natAbs : Int) < ((2 ^ 1000 : Nat) : Int) := by exact_mod_cast this
          exact Int.ofNat_lt.mp e
        · rw [Int.mul_zero]
          exact Int.le_refl _
        · rw [Int.mul_zero]
          decide +kernel
    rintro σ H2 ⟨y, rfl, y0, y1, rfl⟩
    simp only [tRet, tRetN, tOrV, tAndV, tNotV, tChain, tVar, tC, rI0, rI, tOp, tUn, rU, tCons, tNil, tCB, tTup, tLst, tSeq, tNext, tIfS, tTest, tAnd, tOr, tNot, tB, tSl, tPart, tBM, tBM0, tCall, rEq, rNe, scal, gName, tAsg, tAug, ipI, tIf, tDrop, C8.rSlX, List.getElem?_cons_zero, List.getElem?_cons_succ, Option.some.injEq, V.str.injEq, V.int.injEq, V.bl.injEq, V.ref.injEq, exists_eq_left, exists_eq_left', exists_eq_right, exists_eq_right', exists_and_left, exists_and_right, exists_eq, true_and, and_true, List.set_cons_zero, List.set_cons_succ, List.append_nil, List.nil_append, List.cons_append, List.cons.injEq, reduceIte, Bool.false_eq_true, if_true, if_false, decide_eq_true_eq, lt1, Nat.add_sub_cancel_left, decide_not, Bool.not_eq_true', Bool.not_true, Bool.not_false, decide_eq_false_iff_not, Nat.not_lt, Nat.not_le, tCh, rSlN, rInTS, S_eq, n1, n2, nn, nl, nle, ty_s, slotI, wipe, List.map_cons, List.map_nil, Int.toNat_natCast, and_assoc, tNoPart, tPar, tPar3, reduceCtorEq, false_and, exists_false, false_or, or_false]
    have x0 : 0 ≤ x % 2305843009213693951 := Int.emod_nonneg _ (by decide)
    have x1 : x % 2305843009213693951 < 2305843009213693951 := Int.emod_lt_of_pos _ (by decide)
    refine ⟨by decide, wide_mul (a := 62) (b := 20) (by omega) (by decide) (by decide) (by decide) (by decide), wide_mul (a := 20) (b := 20) (by decide) (by omega) (by decide) (by decide) (by decide),
      wide_mul (a := 20) (b := 20) (by omega) (by omega) (by decide) (by decide) (by decide), by decide, three_line _ _ _, fun d hd => ?_⟩
    have hd0 : H d = none := by
      cases e : H d with
      | none => rfl
      | some z =>
        rw [sm1 _ _ e] at hd
        cases hd
    refine q _ d (fun b o e => ?_) hd0 ⟨_, _, _, upd_same, y0, y1, Int.emod_nonneg _ (by decide), Int.emod_lt_of_pos _ (by decide), Int.le_refl _, Int.le_refl _⟩
    rw [upd_ne (ne_of_none e hd0)]
    exact sm1 _ _ e
def spCells : Sp := fun vs H Q _ => ∃ (a : Addr) (ns : List Int), vs = [.ref a, .int 3] ∧ SqL K H a (ns.map V.int) ∧ ∀ H' p (m : Nat), Same H H' → H p = none → m ≤ 3 → H' p = some (.lst ((List.range m).map fun i => V.int ((i : Nat) : Int))) → Q (.ref p) H'
theorem sc_cells : FnScope ["script", "most"] ["script", "most"] (C8.fnScope sCells) := C8.fnScope_by (by decide +kernel)
theorem ok_cells (nm : Nm w K mg aW aL) {f : Addr} {fd : FuncData} (D : C8.Def K mg "_law_cells" sCells f fd) (b : Binds K fd ["script", "most"] []) :
    Cg P w K mg base 1 "_law_cells" (spCells (K := K)) := by
  refine cg0 D b sc_cells (fun vs H Q E h => ?_) (fun cdv A outer s H vs Q E hr gg h => ?_)
  · obtain ⟨a, ns, rfl, _⟩ := h
    rfl
  · obtain ⟨a, ns, rfl, hs, q⟩ := h
    have nd := sc_cells.nd
    have hbig : big = 1000000 := rfl
    refine ⟨_, (pss_one (ps_ret (pe_listRg rfl (by rfl) nm.m_list (prg_1 (by rfl) nm.m_range (pe_callB (call_max2 rfl) (by rfl) nm.m_max (by decide +kernel) (pa_cons pe_int (pa_cons (pe_callB (call_min2 rfl) (by rfl) nm.m_min (by decide +kernel) (pa_cons (pv 1) (pa_cons (pe_callB call_len_seq (by rfl) nm.m_len (by decide +kernel) (pa_cons (pv 0) pa_nil)) pa_nil))) pa_nil))))))), ?_⟩
    rw [show start ["script", "most"] [.ref a, .int 3] = [some (.ref a), some (.int 3)] from rfl]
    have hs2 : SqL K H a (ns.map V.int) := hs
    refine ⟨_, rfl, _, rfl, a, _, rfl, .inl hs, _, _, rfl, _, _, rfl, _, rfl, ?_⟩
    rw [List.length_map]
    have em : (if (if (ns.length : Int) < 3 then (ns.length : Int) else 3) > 1 then if (ns.length : Int) < 3 then (ns.length : Int) else 3 else 1) = ((max 1 (min 3 ns.length) : Nat) : Int) := by
      split <;> split <;> omega
    rw [em]
    refine ⟨RgOk.of_le (by decide) (by omega) (by decide) (by omega), fun d hd => ?_⟩
    refine q _ d (max 1 (min 3 ns.length)) (Same_new hd) hd (by omega) ?_
    rw [upd_same]
    unfold rgV
    rw [Int.sub_zero, Int.toNat_natCast]
    simp only [Int.zero_add]
end
end K0

/-! k00: what repr shows of rows -/
namespace K0
open PySem PySem.Spec PyProof.Rows L2 SX
def vD : V → PyData
  | .str x => .str x
  | .int i => .int i
  | _ => .none
def rowD (r : Row) : PyData := .tuple [.str (Str.ofString r.1), vD r.2.1, .int (r.2.2.1 : Int), .int (r.2.2.2 : Int)]
def rowsD (rows : List Row) : PyData := .tuple (rows.map rowD)
/-- a row that can be shown -/
def Good (r : Row) : Prop := ((∃ t : L, r.2.1 = VS t ∧ ∀ c ∈ t, c < 128) ∨ ∃ n : Nat, r.2.1 = .int (n : Int) ∧ n ≤ 2147483647) ∧ r.2.2.1 ≤ 100000 ∧ r.2.2.2 ≤ 100000 ∧ (∀ c ∈ codes r.1, c < 128) ∧ (codes r.1).length ≤ 6
theorem small_show {n : Nat} (h : n ≤ 2147483647) : (PyData.int (n : Int)).showable = true := by
  show decide ((n : Int).natAbs.log2 < 1920) = true
  rw [decide_eq_true_eq, Int.natAbs_natCast]
  by_cases h0 : n = 0
  · rw [h0]; decide
  · exact (Nat.log2_lt h0).mpr (Nat.lt_of_lt_of_le (show n < 2 ^ 40 by omega) (Nat.pow_le_pow_right (by decide) (by decide)))
theorem small_leaf {n : Nat} (h : n ≤ 2147483647) : PyData.leavesShort 13 (PyData.int (n : Int)) = true := by
  show decide ((PyData.shown (.int (n : Int))).length ≤ 13) = true
  rw [decide_eq_true_eq]
  show (Str.ofString (toString (n : Int))).length ≤ 13
  rw [num_S n, S_len]
  exact Nat.le_trans (TL.numL_len (k := 10) (by decide) (by omega)) (by decide)
theorem str_leaf {t : L} (h : ∀ c ∈ t, c < 128) : PyData.leavesShort 13 (PyData.str (S t)) = true := by
  show t.all (fun c => decide (c < 16 ^ 8)) = true
  rw [List.all_eq_true]
  exact fun c hc => decide_eq_true (Nat.lt_of_lt_of_le (h c hc) (by decide))
theorem good_v {r : Row} (g : Good r) : (vD r.2.1).showable = true ∧ (vD r.2.1).hasDict = false ∧ (vD r.2.1).depth = 0 ∧ (vD r.2.1).leavesShort 13 = true := by
  obtain ⟨h, _⟩ := g
  rcases h with ⟨x, e, hx⟩ | ⟨n, e, hn⟩
  · rw [e]; exact ⟨rfl, rfl, rfl, str_leaf hx⟩
  · rw [e]; exact ⟨small_show hn, rfl, rfl, small_leaf hn⟩
theorem good_row {r : Row} (g : Good r) : (rowD r).showable = true ∧ (rowD r).hasDict = false ∧ (rowD r).depth = 1 ∧ (rowD r).leavesShort 13 = true := by
  obtain ⟨v1, v2, v3, v4⟩ := good_v g
  obtain ⟨h, h1, h2, h3, h4⟩ := g
  have s1 := small_show (n := r.2.2.1) (by omega)
  have s2 := small_show (n := r.2.2.2) (by omega)
  have l1 := small_leaf (n := r.2.2.1) (by omega)
  have l2 := small_leaf (n := r.2.2.2) (by omega)
  have l3 : PyData.leavesShort 13 (PyData.str (Str.ofString r.1)) = true := by
    rw [codes_S]
    exact str_leaf h3
  refine ⟨?_, ?_, ?_, ?_⟩
  · unfold rowD
    unfold PyData.showable
    unfold PyData.showableAll PyData.showableAll PyData.showableAll PyData.showableAll PyData.showableAll
    rw [v1, s1, s2]
    rfl
  · unfold rowD
    unfold PyData.hasDict
    unfold PyData.hasDictAll PyData.hasDictAll PyData.hasDictAll PyData.hasDictAll PyData.hasDictAll
    rw [v2]
    rfl
  · unfold rowD
    unfold PyData.depth
    unfold PyData.depthAll PyData.depthAll PyData.depthAll PyData.depthAll PyData.depthAll
    rw [v3]
    rfl
  · unfold rowD
    unfold PyData.leavesShort
    unfold PyData.leavesShortAll PyData.leavesShortAll PyData.leavesShortAll PyData.leavesShortAll PyData.leavesShortAll
    rw [v4, l1, l2, l3]
    rfl
theorem good_list : ∀ {rows : List Row}, (∀ r ∈ rows, Good r) → PyData.showableAll (rows.map rowD) = true ∧ PyData.hasDictAll (rows.map rowD) = false ∧ PyData.depthAll (rows.map rowD) ≤ 1 ∧ PyData.leavesShortAll 13 (rows.map rowD) = true
  | [], _ => ⟨rfl, rfl, Nat.zero_le _, rfl⟩
  | r :: rows, g => by
    obtain ⟨h1, h2, h3, h4⟩ := good_row (g r List.mem_cons_self)
    obtain ⟨k1, k2, k3, k4⟩ := good_list fun x hx => g x (List.mem_cons_of_mem _ hx)
    rw [List.map_cons]
    refine ⟨?_, ?_, ?_, ?_⟩
    · unfold PyData.showableAll
      rw [h1, k1]
      rfl
    · unfold PyData.hasDictAll
      rw [h2, k2]
      rfl
    · unfold PyData.depthAll
      rw [h3]
      omega
    · unfold PyData.leavesShortAll
      rw [h4, k4]
      rfl
theorem adv_col2 : ∀ (t : L) (p : Nat × Nat), 1 ≤ p.2 → (adv p t).2 ≤ p.2 + t.length
  | [], p, _ => Nat.le_refl _
  | c :: r, p, h => by
    show (adv (if c = 10 then (p.1 + 1, 1) else (p.1, p.2 + 1)) r).2 ≤ _
    rw [List.length_cons]
    by_cases hc : c = 10
    · rw [if_pos hc]
      have := adv_col2 r (p.1 + 1, 1) (Nat.le_refl _)
      have e : ((p.1 + 1, 1) : Nat × Nat).2 = 1 := rfl
      omega
    · rw [if_neg hc]
      have := adv_col2 r (p.1, p.2 + 1) (by show 1 ≤ p.2 + 1; omega)
      have e : ((p.1, p.2 + 1) : Nat × Nat).2 = p.2 + 1 := rfl
      omega
theorem adv_row : ∀ (t : L) (p : Nat × Nat), (adv p t).1 ≤ p.1 + t.length
  | [], p => Nat.le_refl _
  | c :: r, p => by
    show (adv (if c = 10 then (p.1 + 1, 1) else (p.1, p.2 + 1)) r).1 ≤ _
    rw [List.length_cons]
    by_cases hc : c = 10
    · rw [if_pos hc]
      have := adv_row r (p.1 + 1, 1)
      have e : ((p.1 + 1, 1) : Nat × Nat).1 = p.1 + 1 := rfl
      omega
    · rw [if_neg hc]
      have := adv_row r (p.1, p.2 + 1)
      have e : ((p.1, p.2 + 1) : Nat × Nat).1 = p.1 := rfl
      omega
theorem dblq_ge (s : L) : s.length ≤ (dblq s).length ∧ ∀ c ∈ s, c ∈ dblq s := by
  induction s with
  | nil => exact ⟨Nat.le_refl _, fun c hc => hc⟩
  | cons c r ih =>
    rw [dblq_c]
    by_cases hc : c = 39
    · rw [if_pos hc]
      refine ⟨by simp only [List.length_cons]; omega, fun d hd => ?_⟩
      rcases List.mem_cons.mp hd with h | h
      · rw [h, hc]
        exact List.mem_cons_self
      · exact List.mem_cons_of_mem _ (List.mem_cons_of_mem _ (ih.2 d h))
    · rw [if_neg hc]
      refine ⟨by simp only [List.length_cons]; omega, fun d hd => ?_⟩
      rcases List.mem_cons.mp hd with h | h
      · rw [h]
        exact List.mem_cons_self
      · exact List.mem_cons_of_mem _ (ih.2 d h)
theorem lo_small {c : Nat} (h : c < 128) : lo c < 128 := by
  rw [lo_def]
  split <;> omega
theorem asc_mem {t : L} (h : asc t) : ∀ c ∈ t, c < 128 := by
  unfold asc at h
  rw [List.all_eq_true] at h
  exact fun c hc => of_decide_eq_true (h c hc)
/-- what a token tells -/
theorem tok_good {u : L} {so : String} {v : V} (h : TokOk u so v) (ha : asc u) : ((∃ t : L, v = VS t ∧ (∀ c ∈ t, c < 128) ∧ t.length ≤ u.length) ∨ ∃ n : Nat, v = .int (n : Int) ∧ n ≤ 2147483647) ∧ (∀ c ∈ codes so, c < 128) ∧ (codes so).length ≤ 6 := by
  have am := asc_mem ha
  have lom : ∀ c ∈ u.map lo, c < 128 := fun c hc => by
    obtain ⟨d, hd, rfl⟩ := List.mem_map.mp hc
    exact lo_small (am d hd)
  cases h with
  | word e hl hall hw => exact ⟨.inl ⟨_, rfl, lom, by rw [List.length_map]; exact Nat.le_refl _⟩, by decide +kernel, by decide +kernel⟩
  | name e hl hall hw => exact ⟨.inl ⟨_, rfl, lom, by rw [List.length_map]; exact Nat.le_refl _⟩, by decide +kernel, by decide +kernel⟩
  | num eu hm hk => exact ⟨.inr ⟨_, rfl, hm⟩, by decide +kernel, by decide +kernel⟩
  | @str _ x eu hx h10 =>
    obtain ⟨h1, h2⟩ := dblq_ge x
    subst eu
    refine ⟨.inl ⟨x, rfl, fun c hc => am c (List.mem_cons_of_mem _ (List.mem_append_left _ (h2 c hc))), ?_⟩, by decide +kernel, by decide +kernel⟩
    rw [List.length_cons, List.length_append]
    omega
  | one hc => exact ⟨.inl ⟨_, rfl, am, Nat.le_refl _⟩, by decide +kernel, by decide +kernel⟩
  | two hw => exact ⟨.inl ⟨_, rfl, am, Nat.le_refl _⟩, by decide +kernel, by decide +kernel⟩
def AllAsc (els : List El) : Prop := ∀ u so v, El.tok u so v ∈ els → asc u
theorem due_good : ∀ {els : List El} {p : Nat × Nat}, ElsOk els → AllAsc els → 1 ≤ p.2 → p.1 + (flat els).length ≤ 100000 → p.2 + (flat els).length ≤ 100000 → ∀ r ∈ due p els, Good r
  | [], p, _, _, _, _, _, r, hr => absurd hr List.not_mem_nil
  | .gap g :: els, p, ok, aa, h1, h2, h3, r, hr => by
    have hl : (flat (.gap g :: els)).length = g.length + (flat els).length := by rw [flat_cons, List.length_append]; rfl
    rw [hl] at h2 h3
    have a1 := adv_row g p
    have a2 := adv_col2 g p h1
    exact due_good (p := adv p g) ok.2 (fun u so v hm => aa u so v (List.mem_cons_of_mem _ hm)) (adv_pos h1 g) (by omega) (by omega) r hr
  | .tok w so v :: els, p, ok, aa, h1, h2, h3, r, hr => by
    have hl : (flat (.tok w so v :: els)).length = w.length + (flat els).length := by rw [flat_cons, List.length_append]; rfl
    rw [hl] at h2 h3
    have a1 := adv_row w p
    have a2 := adv_col2 w p h1
    rcases List.mem_cons.mp hr with hr | hr
    · subst hr
      obtain ⟨g1, g2, g3⟩ := tok_good ok.1 (aa w so v List.mem_cons_self)
      refine ⟨?_, by show p.1 ≤ _; omega, by show p.2 ≤ _; omega, g2, g3⟩
      rcases g1 with ⟨t, e, ht, _⟩ | ⟨n, e, hn⟩
      · exact .inl ⟨t, e, ht⟩
      · exact .inr ⟨n, e, hn⟩
    · exact due_good (p := adv p w) ok.2.2 (fun u so v hm => aa u so v (List.mem_cons_of_mem _ hm)) (adv_pos h1 w) (by omega) (by omega) r hr
theorem due_bulk : ∀ {els : List El} {p : Nat × Nat}, ElsOk els → AllAsc els → PyData.bulkAll ((due p els).map rowD) ≤ 20 * (flat els).length
  | [], p, _, _ => Nat.zero_le _
  | .gap g :: els, p, ok, aa => by
    have hl : (flat (.gap g :: els)).length = g.length + (flat els).length := by rw [flat_cons, List.length_append]; rfl
    have ih := due_bulk (p := adv p g) ok.2 (fun u so v hm => aa u so v (List.mem_cons_of_mem _ hm))
    rw [hl]
    exact Nat.le_trans ih (by omega)
  | .tok w so v :: els, p, ok, aa => by
    have hl : (flat (.tok w so v :: els)).length = w.length + (flat els).length := by rw [flat_cons, List.length_append]; rfl
    have ih := due_bulk (p := adv p w) ok.2.2 (fun u so v hm => aa u so v (List.mem_cons_of_mem _ hm))
    obtain ⟨g1, g2, g3⟩ := tok_good ok.1 (aa w so v List.mem_cons_self)
    have w1 := (tok_of ok.1 ok.2.1).2
    rw [hl]
    show PyData.bulkAll (rowD (so, v, p.1, p.2) :: (due (adv p w) els).map rowD) ≤ _
    unfold PyData.bulkAll
    have hv : (vD v).bulk ≤ w.length := by
      rcases g1 with ⟨t, e, ht, hl⟩ | ⟨n, e, hn⟩
      · rw [e]
        exact hl
      · rw [e]
        exact Nat.zero_le _
    have hs : (PyData.str (Str.ofString so)).bulk ≤ 6 := by
      rw [codes_S]
      exact g3
    have hr : (rowD (so, v, p.1, p.2)).bulk = (PyData.str (Str.ofString so)).bulk + 1 + ((vD v).bulk + 1 + (0 + 1 + (0 + 1 + 0))) := by
      unfold rowD
      rfl
    rw [hr]
    omega
/-- what repr shows of rows -/
def rowsS (rows : List Row) : Str := (rowsD rows).shown
theorem rows_fit {els : List El} (ok : ElsOk els) (aa : AllAsc els) (hl : (flat els).length ≤ 20000) : (rowsD (due (1, 1) els)).showable = true ∧ (rowsD (due (1, 1) els)).hasDict = false ∧ (rowsD (due (1, 1) els)).depth ≤ 20 ∧ (rowsD (due (1, 1) els)).shown.length ≤ sizeLine := by
  obtain ⟨k1, k2, k3, k4⟩ := good_list (due_good (p := (1, 1)) ok aa (Nat.le_refl _) (by show 1 + _ ≤ _; omega) (by show 1 + _ ≤ _; omega))
  have hb := due_bulk (p := (1, 1)) ok aa
  refine ⟨k1, k2, ?_, ?_⟩
  · show PyData.depthAll _ + 1 ≤ 20
    omega
  · refine PyData.shown_fits_bulk (B := 13) (by decide) (by decide) k4 ?_
    show PyData.bulkAll _ ≤ _
    have : (2 : Nat) ^ 20 = 1048576 := by decide
    omega
section
variable {K : PySem.W.Frag}
theorem dp_v {H : Hp} {r : Row} (g : Good r) : Dp K H r.2.1 (vD r.2.1) := by
  obtain ⟨h, _⟩ := g
  rcases h with ⟨x, e, _⟩ | ⟨n, e, _⟩
  · rw [e]; exact .str _
  · rw [e]; exact .int _
theorem dp_list {H : Hp} {ps : List Addr} {rows : List Row} (h : RowsAt H ps rows) (g : ∀ r ∈ rows, Good r) : DpAll K H (ps.map V.ref) (rows.map rowD) := by
  induction h with
  | nil => exact .nil
  | cons h1 _ ih =>
    refine .cons (.tup (.inl (.inl h1)) ?_) (ih fun x hx => g x (List.mem_cons_of_mem _ hx))
    exact .cons (.str _) (.cons (dp_v (g _ List.mem_cons_self)) (.cons (.int _) (.cons (.int _) .nil)))
theorem repr_of {H : Hp} {a : Addr} {ps : List Addr} {els : List El} {Q : VK} (ok : ElsOk els) (aa : AllAsc els) (hl : (flat els).length ≤ 20000) (ha : H a = some (.tup (ps.map V.ref))) (hr : RowsAt H ps (due (1, 1) els))
    (q : Q (.str (rowsS (due (1, 1) els))) H) : rRepr K [.ref a] H Q := by
  obtain ⟨k1, k2, k3, k4⟩ := rows_fit ok aa hl
  refine ⟨a, rowsD (due (1, 1) els), rfl, .tup (.inl (.inl ha)) (dp_list hr ?_), k1, k2, k3, k4, q⟩
  exact due_good (p := (1, 1)) ok aa (Nat.le_refl _) (by show 1 + _ ≤ _; omega) (by show 1 + _ ≤ _; omega)
/-- repr(tokens(text)) -/
theorem repr_tok {H : Hp} {els : List El} {Q : VK} {E : XK} (ok : ElsOk els) (aa : AllAsc els) (hl : (flat els).length ≤ 20000) (q : ∀ H', Same H H' → Q (.str (rowsS (due (1, 1) els))) H') : spTokens [VS (flat els)] H (fun x H' => rRepr K [x] H' Q) E := by
  have hbig : big = 1000000 := rfl
  exact ⟨els, rfl, ok, by omega, fun H' p ps sm _ ep rows => repr_of ok aa hl ep rows (q H' sm)⟩
/-- repr(tuple(list)) -/
theorem repr_tup {H : Hp} {m : Addr} {ps : List Addr} {els : List El} {Q : VK} (ok : ElsOk els) (aa : AllAsc els) (hl : (flat els).length ≤ 20000) (hm : H m = some (.lst (ps.map V.ref))) (hr : RowsAt H ps (due (1, 1) els))
    (q : ∀ H', Same H H' → Q (.str (rowsS (due (1, 1) els))) H') : ∃ p ys, [V.ref m] = [V.ref p] ∧ ((SqL K H p ys ∧ ∀ l, H l = none → rRepr K [.ref l] (upd H l (.tup ys)) Q) ∨ (SqT K H p ys ∧ rRepr K [.ref p] H Q)) := by
  refine ⟨m, _, rfl, .inl ⟨.inl (.inl hm), fun l hl' => ?_⟩⟩
  refine repr_of ok aa hl upd_same (rows_keep hr fun b z hz => ?_) (q _ (Same_new hl'))
  rw [upd_ne (ne_of_none hz hl')]
  exact hz
/-- tuple(list), as it is read -/
def rTupOf (K : PySem.W.Frag) : List V → Hp → VK → Prop := fun xs H Q => ∃ p ys, xs = [V.ref p] ∧ ((SqL K H p ys ∧ ∀ l, H l = none → Q (.ref l) (upd H l (.tup ys))) ∨ (SqT K H p ys ∧ Q (.ref p) H))
abbrev tTok (K : PySem.W.Frag) (te : TE) : TE := tCB (rRepr K) (tCons (tCall spTokens [] C8.E0 (tCons te tNil)) tNil)
abbrev tTup' (K : PySem.W.Frag) (tm : TE) : TE := tCB (rRepr K) (tCons (tCB (rTupOf K) (tCons tm tNil)) tNil)
theorem cmp_two {te tm : TE} {σ : L2.St} {H : Hp} {els : List El} {R : V → V → Hp → Prop} (ok : ElsOk els) (aa : AllAsc els) (hl : (flat els).length ≤ 20000)
    (ht : ∀ R : VK, (∀ H1, Same H H1 → R (VS (flat els)) H1) → te σ H R)
    (hm : ∀ (H' : Hp) (R : VK), Same H H' → (∀ (m : Addr) (H1 : Hp) (ps : List Addr), Same H' H1 → H1 m = some (.lst (ps.map V.ref)) → RowsAt H1 ps (due (1, 1) els) → R (.ref m) H1) → tm σ H' R)
    (q : ∀ H', Same H H' → R (.str (rowsS (due (1, 1) els))) (.str (rowsS (due (1, 1) els))) H') :
    tTok K te σ H fun x H1 => tTup' K tm σ H1 fun y H2 => R x y H2 := by
  have h1 : te σ H fun x H1 => spTokens [x] H1 (fun y H2 => rRepr K [y] H2 (fun x H1 => tTup' K tm σ H1 fun y H2 => R x y H2)) C8.E0 := by
    refine ht _ fun H1 sm1 => repr_tok ok aa hl fun H2 sm2 => ?_
    have h2 : tm σ H2 fun z H3 => rTupOf K [z] H3 fun w H4 => rRepr K [w] H4 (R (.str (rowsS (due (1, 1) els)))) := by
      refine hm H2 _ (sm1.trans sm2) fun m H3 ps sm3 em er => ?_
      exact repr_tup ok aa hl em er fun H5 sm5 => q H5 (((sm1.trans sm2).trans sm3).trans sm5)
    exact h2
  exact h1
theorem cmp_ne {te tm : TE} {σ : L2.St} {H : Hp} {els : List El} {Q : Bool → Hp → Prop} (ok : ElsOk els) (aa : AllAsc els) (hl : (flat els).length ≤ 20000)
    (ht : ∀ R : VK, (∀ H1, Same H H1 → R (VS (flat els)) H1) → te σ H R)
    (hm : ∀ (H' : Hp) (R : VK), Same H H' → (∀ (m : Addr) (H1 : Hp) (ps : List Addr), Same H' H1 → H1 m = some (.lst (ps.map V.ref)) → RowsAt H1 ps (due (1, 1) els) → R (.ref m) H1) → tm σ H' R)
    (q : ∀ H', Same H H' → Q false H') : tTest (tOp rNe (tTok K te) (tTup' K tm)) σ H Q :=
  cmp_two (K := K) (R := fun x y H2 => rNe x y H2 fun z H3 => ∃ k, z = .bl k ∧ Q k H3) ok aa hl ht hm fun H' sm => ⟨rfl, false, by rw [decide_eq_true rfl]; rfl, q H' sm⟩
theorem cmp_eq {te tm : TE} {σ : L2.St} {H : Hp} {els : List El} {Q : VK} (ok : ElsOk els) (aa : AllAsc els) (hl : (flat els).length ≤ 20000)
    (ht : ∀ R : VK, (∀ H1, Same H H1 → R (VS (flat els)) H1) → te σ H R)
    (hm : ∀ (H' : Hp) (R : VK), Same H H' → (∀ (m : Addr) (H1 : Hp) (ps : List Addr), Same H' H1 → H1 m = some (.lst (ps.map V.ref)) → RowsAt H1 ps (due (1, 1) els) → R (.ref m) H1) → tm σ H' R)
    (q : ∀ H', Same H H' → Q (.bl true) H') : tOp rEq (tTok K te) (tTup' K tm) σ H Q :=
  cmp_two (K := K) (R := fun x y H2 => rEq x y H2 Q) ok aa hl ht hm fun H' sm => ⟨rfl, by rw [decide_eq_true rfl]; exact q H' sm⟩
end
end K0

section
set_option maxHeartbeats 4000000
/-! k00: rows are told rightly -/
namespace K0
open PySem PySem.Spec PyProof.Rows L2 SX
abbrev sRight : Stmt := topS 36
def shf (k : Nat) (r : Row) : Row := (r.1, r.2.1, r.2.2.1 + k, r.2.2.2)
theorem adv_shift (k : Nat) : ∀ (t : L) (p : Nat × Nat), adv (p.1 + k, p.2) t = ((adv p t).1 + k, (adv p t).2)
  | [], p => rfl
  | c :: r, p => by
    show adv (if c = 10 then (p.1 + k + 1, 1) else (p.1 + k, p.2 + 1)) r = ((adv (if c = 10 then (p.1 + 1, 1) else (p.1, p.2 + 1)) r).1 + k, (adv (if c = 10 then (p.1 + 1, 1) else (p.1, p.2 + 1)) r).2)
    by_cases hc : c = 10
    · rw [if_pos hc, if_pos hc, show p.1 + k + 1 = p.1 + 1 + k by omega]
      exact adv_shift k r (p.1 + 1, 1)
    · rw [if_neg hc, if_neg hc]
      exact adv_shift k r (p.1, p.2 + 1)
theorem due_shift (k : Nat) : ∀ (els : List El) (p : Nat × Nat), due (p.1 + k, p.2) els = (due p els).map (shf k)
  | [], _ => rfl
  | .gap g :: r, p => by
    show due (adv (p.1 + k, p.2) g) r = (due (adv p g) r).map (shf k)
    rw [adv_shift]
    exact due_shift k r (adv p g)
  | .tok w so v :: r, p => by
    show _ :: due (adv (p.1 + k, p.2) w) r = shf k (so, v, p.1, p.2) :: (due (adv p w) r).map (shf k)
    rw [adv_shift, due_shift k r (adv p w)]
    rfl
def both (a b : List El) : List El := a ++ El.gap [10] :: b
theorem both_flat (a b : List El) : flat (both a b) = flat a ++ [10] ++ flat b := by
  unfold both
  rw [flat_app, flat_cons, List.append_assoc]
  rfl
theorem both_ok {a b : List El} (ha : ElsOk a) (hb : ElsOk b) : ElsOk (both a b) := by
  refine els_app ha ⟨.inr (.inl rfl), hb⟩ fun x w so v e => ?_
  have hw : TokOk w so v := by
    subst e
    clear hb
    induction x with
    | nil => exact ha.1
    | cons e x ih =>
      cases e with
      | gap g => exact ih ha.2
      | tok w2 so2 v2 => exact ih ha.2.2
  intro c hc
  obtain rfl := Option.some.inj hc
  exact may_four hw (by decide)
theorem both_asc {a b : List El} (ha : AllAsc a) (hb : AllAsc b) : AllAsc (both a b) := by
  intro u so v hm
  rcases List.mem_append.mp hm with hm | hm
  · exact ha u so v hm
  · rcases List.mem_cons.mp hm with hm | hm
    · cases hm
    · exact hb u so v hm
theorem both_due (a b : List El) : due (1, 1) (both a b) = due (1, 1) a ++ (due (1, 1) b).map (shf (adv (1, 1) (flat a)).1) := by
  unfold both
  rw [due_app]
  congr 1
  show due (adv (adv (1, 1) (flat a)) [10]) b = _
  have e : adv (adv (1, 1) (flat a)) [10] = (1 + (adv (1, 1) (flat a)).1, 1) := by
    show ((adv (1, 1) (flat a)).1 + 1, 1) = (1 + (adv (1, 1) (flat a)).1, 1)
    rw [Nat.add_comm]
  rw [e]
  exact due_shift _ b (1, 1)
theorem rows_app {H : Hp} {ps qs : List Addr} {a b : List Row} (h1 : RowsAt H ps a) (h2 : RowsAt H qs b) : RowsAt H (ps ++ qs) (a ++ b) := by
  induction h1 with
  | nil => exact h2
  | cons h _ ih => exact .cons h ih
theorem rows_get {H : Hp} {ps : List Addr} {rows : List Row} (h : RowsAt H ps rows) : ∀ {i : Nat} (hi : i < rows.length), ∃ q, ps[i]? = some q ∧ H q = some (.tup (rowV rows[i])) := by
  induction h with
  | nil => intro i hi; exact absurd hi (Nat.not_lt_zero _)
  | cons h _ ih =>
    intro i hi
    cases i with
    | zero => exact ⟨_, rfl, h⟩
    | succ i => exact ih (i := i) (Nat.lt_of_succ_lt_succ hi)
theorem plain_all : ∀ {els : List El}, AllAsc els → AllAsc (plainE els)
  | [], _ => fun u so v hm => absurd hm List.not_mem_nil
  | .gap g :: r, h => by
    intro u so v hm
    rcases List.mem_append.mp hm with hm | hm
    · obtain ⟨c, _, e⟩ := List.mem_map.mp hm
      cases e
    · exact plain_all (fun u so v hm => h u so v (List.mem_cons_of_mem _ hm)) u so v hm
  | .tok w so v :: r, h => by
    intro u so' v' hm
    rcases List.mem_cons.mp hm with hm | hm
    · injection hm with e1 e2 e3
      rw [e1]
      exact h w so v List.mem_cons_self
    · exact plain_all (fun u so v hm => h u so v (List.mem_cons_of_mem _ hm)) u so' v' hm
theorem low_asc {w : L} (h : asc w) : asc (low w) := by
  unfold low
  split
  · exact h
  · refine asc_of fun c hc => ?_
    obtain ⟨d, hd, rfl⟩ := List.mem_map.mp hc
    exact lo_small (asc_mem h d hd)
theorem low_all {els : List El} (h : AllAsc els) : AllAsc (lowE els) := by
  intro u so v hm
  obtain ⟨e, he, eq⟩ := List.mem_map.mp hm
  cases e with
  | gap g => cases eq
  | tok w so' v' =>
    injection eq with e1 e2 e3
    rw [← e1]
    exact low_asc (h w so' v' he)
section
variable {P : Program} {w : World} {K : PySem.W.Frag} {mg : Str → Option Value} {base : Heap} {aW aL : Addr}
def spRight : Sp := fun vs H Q _ => ∃ (p : Addr), vs = [.ref p] ∧ Pot H p 0 ∧ ∀ H', Kp p H H' → Q (.bl true) H'
theorem sc_right : FnScope ["pot", "one", "mine", "other", "its", "feeds", "later", "plain", "sort", "told", "line", "column"] ["pot"] (C8.fnScope sRight) := C8.fnScope_by (by decide +kernel)
theorem ok_right (nm : Nm w K mg aW aL) {f : Addr} {fd : FuncData} (D : C8.Def K mg "_law_right" sRight f fd) (b : Binds K fd ["pot"] []) (c__law_row : Cg P w K mg base 5 "_law_row" spRow)
    {f_t : Addr} {fd_t : FuncData} (F_tokens : Fg P w K mg base 4 f_t fd_t ["text"] spTokens) (g_tokens : mg "tokens" = some (.ref f_t)) (kp_tokens : PySem.W.keepIn K (.ref f_t) = true) (ck_tokens : Ck K fd_t "text") (c_tokens : Cg P w K mg base 4 "tokens" spTokens)
    (c__law_plain : Cg P w K mg base 1 "_law_plain" spPlain) (c__law_small : Cg P w K mg base 1 "_law_small" spSmall) :
    Cg P w K mg base 6 "_law_right" spRight := by
  refine cg0 D b sc_right (fun vs H Q E h => ?_) (fun cdv A outer s H vs Q E hr gg h => ?_)
  · obtain ⟨p, rfl, _⟩ := h
    rfl
  · obtain ⟨p, rfl, hp, q⟩ := h
    have nd := sc_right.nd
    have hbig : big = 1000000 := rfl
    have hu : (A.deeper (envOfC "_law_right" (C8.fnScope sRight) s.heap.objs.size f cdv)).units + 64 < cLine := by
      have := hr.un
      omega
    refine ⟨_, (C8.pss_cut (ps_asg (pe_g c__law_row hr (by decide) gg (by rfl) (pa_cons (pv 0) pa_nil)) (pg_tup rfl (pgs_cons (pg_name (i := 1) nd rfl (.inl rfl)) (pgs_cons (pg_name (i := 2) nd rfl (.inl rfl)) pgs_nil))))
  (C8.pss_cut (ps_asg (pe_g c__law_row hr (by decide) gg (by rfl) (pa_cons (pv 0) pa_nil)) (pg_tup rfl (pgs_cons (pg_name (i := 3) nd rfl (.inl rfl)) (pgs_cons (pg_name (i := 4) nd rfl (.inl rfl)) pgs_nil))))
  (C8.pss_cut (ps_if (pw_or (pt_cmpR op_ne (pe_callB (call_repr hu gg) (by rfl) nm.m_repr (by decide +kernel) (pa_cons (pe_g c_tokens hr (by decide) gg (by rfl) (pa_cons (pv 1) pa_nil)) pa_nil)) (pe_callB (call_repr hu gg) (by rfl) nm.m_repr (by decide +kernel) (pa_cons (pe_callTy call_tuple_of (by rfl) nm.m_tuple (by decide +kernel) (pa_cons (pv 2) pa_nil)) pa_nil)) (nomark _)) (pw_or1 (pt_cmpR op_ne (pe_callB (call_repr hu gg) (by rfl) nm.m_repr (by decide +kernel) (pa_cons (pe_gk F_tokens g_tokens kp_tokens ck_tokens hr (by decide) gg (by rfl) (pv 3)) pa_nil)) (pe_callB (call_repr hu gg) (by rfl) nm.m_repr (by decide +kernel) (pa_cons (pe_callTy call_tuple_of (by rfl) nm.m_tuple (by decide +kernel) (pa_cons (pv 4) pa_nil)) pa_nil)) (nomark _)))).pt
    (pss_one (ps_ret pe_bl)) pss_nil)
  (C8.pss_cut (ps_set (i := 5) nd rfl (.inr rfl) (pe_callB call_len_seq (by rfl) nm.m_len (by decide +kernel) (pa_cons (pe_bm PySem.F.plainAttrs_str PySem.F.slot_str_split PySem.F.type_str_split mt_split (pv 1) (pa_cons pe_str pa_nil)) pa_nil)))
  (C8.pss_cut (ps_setLc (i := 6) (own := [("sort", 8), ("told", 9), ("line", 10), ("column", 11)]) (tt := tYes) rfl nd rfl rfl (by rfl) (pi_list (pv 4)) (blkOk_by (N := ["pot", "one", "mine", "other", "its", "feeds", "later", "plain", "sort", "told", "line", "column"]) (sc := C8.fnScope (topS 36)) (by decide +kernel)) (fun _ _ _ _ _ => (pg_tupK (K := K) (n := 4) rfl rfl (pgs_cons (pg_name (i := 8) nd rfl (.inl rfl)) (pgs_cons (pg_name (i := 9) nd rfl (.inl rfl)) (pgs_cons (pg_name (i := 10) nd rfl (.inl rfl)) (pgs_cons (pg_name (i := 11) nd rfl (.inl rfl)) pgs_nil)))) rfl)) (fun _ _ _ _ _ => pts_nil) (fun _ _ _ _ _ => (pe_tup (pa_cons (pv 8) (pa_cons (pv 9) (pa_cons (pe_op op_add (pv 10) (pv 5)) (pa_cons (pv 11) pa_nil)))))))
  (C8.pss_cut (ps_if (pt_cmpR op_ne (pe_callB (call_repr hu gg) (by rfl) nm.m_repr (by decide +kernel) (pa_cons (pe_g c_tokens hr (by decide) gg (by rfl) (pa_cons (pe_op op_addS (pe_op op_addS (pv 1) pe_str) (pv 3)) pa_nil)) pa_nil)) (pe_callB (call_repr hu gg) (by rfl) nm.m_repr (by decide +kernel) (pa_cons (pe_callTy call_tuple_of (by rfl) nm.m_tuple (by decide +kernel) (pa_cons (pe_op op_cat (pv 2) (pv 6)) pa_nil)) pa_nil)) (nomark _))
    (pss_one (ps_ret pe_bl)) pss_nil)
  (C8.pss_cut (ps_set (i := 7) nd rfl (.inl rfl) (pe_g c__law_plain hr (by decide) gg (by rfl) (pa_cons (pv 1) pa_nil)))
  (C8.pss_cut (ps_if (pw_or (pt_cmpR op_ne (pe_callB (call_repr hu gg) (by rfl) nm.m_repr (by decide +kernel) (pa_cons (pe_g c_tokens hr (by decide) gg (by rfl) (pa_cons (pv 7) pa_nil)) pa_nil)) (pe_callB (call_repr hu gg) (by rfl) nm.m_repr (by decide +kernel) (pa_cons (pe_callTy call_tuple_of (by rfl) nm.m_tuple (by decide +kernel) (pa_cons (pv 2) pa_nil)) pa_nil)) (nomark _)) (pw_or1 (pt_cmpR op_ne (pe_callB (call_repr hu gg) (by rfl) nm.m_repr (by decide +kernel) (pa_cons (pe_g c_tokens hr (by decide) gg (by rfl) (pa_cons (pe_g c__law_small hr (by decide) gg (by rfl) (pa_cons (pv 7) pa_nil)) pa_nil)) pa_nil)) (pe_callB (call_repr hu gg) (by rfl) nm.m_repr (by decide +kernel) (pa_cons (pe_callTy call_tuple_of (by rfl) nm.m_tuple (by decide +kernel) (pa_cons (pv 2) pa_nil)) pa_nil)) (nomark _)))).pt
    (pss_one (ps_ret pe_bl)) pss_nil)
  (pss_one (ps_ret (pe_cmpR op_eq (pe_callB (call_repr hu gg) (by rfl) nm.m_repr (by decide +kernel) (pa_cons (pe_g c_tokens hr (by decide) gg (by rfl) (pa_cons (pv 1) pa_nil)) pa_nil)) (pe_callB (call_repr hu gg) (by rfl) nm.m_repr (by decide +kernel) (pa_cons (pe_callTy call_tuple_of (by rfl) nm.m_tuple (by decide +kernel) (pa_cons (pv 2) pa_nil)) pa_nil)) (nomark _)))))))))))), ?_⟩
    rw [show start ["pot", "one", "mine", "other", "its", "feeds", "later", "plain", "sort", "told", "line", "column"] [.ref p] = [some (.ref p), none, none, none, none, none, none, none, none, none, none, none] from rfl]
    refine ⟨fun σ H1 => ∃ (els1 : List El) (d1 : Addr) (ps1 : List Addr), σ = [some (.ref p), some (VS (flat els1)), some (.ref d1), none, none, none, none, none, none, none, none, none] ∧ Kp p H H1 ∧ Pot H1 p 3000 ∧ d1 ≠ p ∧ H1 d1 = some (.lst (ps1.map V.ref)) ∧ RowsAt H1 ps1 (due (1, 1) els1) ∧ ElsOk els1 ∧ (flat els1).length ≤ 4000 ∧ AllAsc els1, ?_, ?_⟩
    · refine ⟨_, rfl, p, 0, rfl, hp, by omega, fun H1 d t els1 ps1 k1 pot1 ht hd et ed rows ok len aa => ?_⟩
      refine ⟨t, _, rfl, .inl (.inl et), rfl, _, _, rfl, _, _, rfl, rfl, ?_⟩
      exact ⟨els1, d, ps1, rfl, k1, pot1.mono (by omega), ne_pot hp hd, ed, rows, ok, len, aa⟩
    rintro σ H1 ⟨els1, d1, ps1, rfl, k1, pot1, d1p, e1, rows1, ok1, len1, aa1⟩
    refine ⟨fun σ H2 => ∃ (els2 : List El) (d2 : Addr) (ps2 : List Addr), σ = [some (.ref p), some (VS (flat els1)), some (.ref d1), some (VS (flat els2)), some (.ref d2), none, none, none, none, none, none, none] ∧ Kp p H1 H2 ∧ H2 d2 = some (.lst (ps2.map V.ref)) ∧ RowsAt H2 ps2 (due (1, 1) els2) ∧ ElsOk els2 ∧ (flat els2).length ≤ 4000 ∧ AllAsc els2, ?_, ?_⟩
    · refine ⟨_, rfl, p, 3000, rfl, pot1, by omega, fun H2 d t els2 ps2 k2 pot2 ht hd et ed rows ok len aa => ?_⟩
      refine ⟨t, _, rfl, .inl (.inl et), rfl, _, _, rfl, _, _, rfl, rfl, ?_⟩
      exact ⟨els2, d, ps2, rfl, k2, ed, rows, ok, len, aa⟩
    rintro σ H2 ⟨els2, d2, ps2, rfl, k2, e2, rows2, ok2, len2, aa2⟩
    have kH : Kp p H H2 := k1.trans k2
    have f1 := k2 d1 _ d1p e1
    have fr1 : RowsAt H2 ps1 (due (1, 1) els1) := rows_keep rows1 fun b z hz => k2 b _ (fun e => by
      subst e
      obtain ⟨a, m', c, e2, _⟩ := pot1.ex
      rw [e2] at hz
      cases hz) hz
    clear rows1 e1 pot1 k1 k2
    have keep : ∀ {H3 : Hp} {ps : List Addr} {rows : List Row}, Same H2 H3 → RowsAt H2 ps rows → RowsAt H3 ps rows := fun sm h => rows_keep h fun b z hz => sm _ _ hz
    refine ⟨fun σ H3 => Same H2 H3 ∧ σ = [some (.ref p), some (VS (flat els1)), some (.ref d1), some (VS (flat els2)), some (.ref d2), none, none, none, none, none, none, none], ?_, ?_⟩
    · have t1 : ∀ {H0 : Hp}, Same H2 H0 → ∀ R : VK, (∀ H1, Same H0 H1 → R (VS (flat els1)) H1) → tVar 1 [some (.ref p), some (VS (flat els1)), some (.ref d1), some (VS (flat els2)), some (.ref d2), none, none, none, none, none, none, none] H0 R := fun _ R h => ⟨_, rfl, h _ (Same.refl _)⟩
      refine cmp_ne ok1 aa1 (by omega) (fun R h => ⟨_, rfl, h _ (Same.refl _)⟩) (fun H' R sm h => ⟨_, rfl, h _ _ ps1 (Same.refl _) (sm _ _ f1) (keep sm fr1)⟩) fun H3 sm3 => ?_
      refine cmp_ne ok2 aa2 (by omega) (fun R h => ⟨_, rfl, h _ (Same.refl _)⟩) (fun H' R sm h => ⟨_, rfl, h _ _ ps2 (Same.refl _) ((sm3.trans sm) _ _ e2) (keep (sm3.trans sm) rows2)⟩) fun H4 sm4 => ?_
      exact ⟨sm3.trans sm4, rfl⟩
    rintro σ H3 ⟨sm3, rfl⟩
    refine ⟨fun σ H4 => Same H2 H4 ∧ σ = [some (.ref p), some (VS (flat els1)), some (.ref d1), some (VS (flat els2)), some (.ref d2), some (.int (((adv (1, 1) (flat els1)).1 : Nat) : Int)), none, none, none, none, none, none], ?_, ?_⟩
    · obtain ⟨ini, last, es, el1, el2, el3⟩ := feeds (flat els1) [] (1, 1) rfl
      have es2 : Txt.split (S (flat els1)) (Str.ofString "\n") = (ini ++ [last]).map S := by
        rw [s_nl, split_S (by decide) (by decide), es]
      refine ⟨_, rfl, rfl, _, _, rfl, rfl, by rw [s_nl]; decide, by rw [S_len]; exact Nat.le_trans (show _ ≤ 1000000 by omega) (by decide), fun d5 hd5 => ?_⟩
      rw [es2]
      refine ⟨d5, _, rfl, .inl (.inl (.inl upd_same)), ?_⟩
      refine ⟨sm3.trans (Same_new hd5), ?_⟩
      rw [← el1, List.length_map, List.length_map, List.length_append, List.length_singleton]
      rfl
    rintro σ H4 ⟨sm4, rfl⟩
    refine ⟨fun σ H5 => ∃ (d5 : Addr) (qs : List Addr), Same H2 H5 ∧ H5 d5 = some (.lst (qs.map V.ref)) ∧ RowsAt H5 qs ((due (1, 1) els2).map (shf (adv (1, 1) (flat els1)).1)) ∧ σ = [some (.ref p), some (VS (flat els1)), some (.ref d1), some (VS (flat els2)), some (.ref d2), some (.int (((adv (1, 1) (flat els1)).1 : Nat) : Int)), some (.ref d5), none, none, none, none, none], ?_, ?_⟩
    · have e2' := sm4 _ _ e2
      have rows2' := keep sm4 rows2
      generalize (adv (1, 1) (flat els1)).1 = kf
      obtain ⟨rs, hrs⟩ : ∃ rs, rs = due (1, 1) els2 := ⟨_, rfl⟩
      have rl : rs.length ≤ 10000 := by
        rw [hrs]
        have h1 := due_len (1, 1) els2
        have h2 := els_len els2 ok2
        omega
      rw [← hrs] at rows2' ⊢
      have pl2' : ps2.length = rs.length := rows2'.length
      refine ⟨_, rfl, d2, rfl, ⟨_, .inl (.inl e2')⟩, fun D hD => ?_⟩
      refine lc_n (J := Itl K d2) (n := rs.length) (fun i H' => Same H4 H' ∧ ∃ qs : List Addr, H' D = some (.lst (qs.map V.ref)) ∧ RowsAt H' qs ((rs.take i).map (shf kf)))
        ⟨Same_new hD, [], upd_same, .nil⟩ ?_ ?_ ?_ ?_
      · rintro i H' hi ⟨sm, _⟩
        exact ⟨_, _, .inl (.inl (sm _ _ e2')), by rw [List.getElem?_map, List.getElem?_eq_getElem (by omega)]; rfl⟩
      · rintro H' ⟨sm, _⟩
        exact ⟨_, .inl (.inl (sm _ _ e2')), by rw [List.length_map]; omega⟩
      · rintro i x H' H'' hi ⟨sm, qs, hqs, hrows⟩ ⟨rfl, hx⟩
        have hx2 := hx _ (.inl (.inl (sm _ _ e2')))
        obtain ⟨z, hz, ez⟩ := rows_get rows2' hi
        rw [List.getElem?_map, hz] at hx2
        obtain rfl := Option.some.inj hx2
        have ez2 := sm _ _ ez
        generalize hr : rs[i] = r at ez2
        refine ⟨z, _, rfl, .inl (.inl ez2), rfl, _, _, rfl, _, _, rfl, _, _, rfl, _, _, rfl, rfl, rfl, ?_⟩
        simp only [tRet, tRetN, tOrV, tAndV, tNotV, tChain, tVar, tC, rI0, rI, tOp, tUn, rU, tCons, tNil, tCB, tTup, tLst, tSeq, tNext, tIfS, tTest, tAnd, tOr, tNot, tB, tSl, tPart, tBM, tBM0, tCall, rEq, rNe, scal, gName, tAsg, tAug, ipI, tIf, tDrop, C8.rSlX, List.getElem?_cons_zero, List.getElem?_cons_succ, Option.some.injEq, V.str.injEq, V.int.injEq, V.bl.injEq, V.ref.injEq, exists_eq_left, exists_eq_left', exists_eq_right, exists_eq_right', exists_and_left, exists_and_right, exists_eq, true_and, and_true, List.set_cons_zero, List.set_cons_succ, List.append_nil, List.nil_append, List.cons_append, List.cons.injEq, reduceIte, Bool.false_eq_true, if_true, if_false, decide_eq_true_eq, lt1, Nat.add_sub_cancel_left, decide_not, Bool.not_eq_true', Bool.not_true, Bool.not_false, decide_eq_false_iff_not, Nat.not_lt, Nat.not_le, tCh, rSlN, rInTS, S_eq, n1, n2, nn, nl, nle, ty_s, slotI, wipe, List.map_cons, List.map_nil, Int.toNat_natCast, and_assoc, tNoPart, tPar, tPar3, tYes]
        refine ⟨Nat.le_of_ble_eq_true rfl, fun q2 hq2 => ?_⟩
        have Dq : D ≠ q2 := ne_of_none hqs hq2
        refine ⟨_, by rw [upd_ne Dq]; exact hqs, ?_, ?_, qs ++ [q2], ?_, ?_⟩
        · rw [List.length_map, hrows.length, List.length_map, List.length_take]
          exact Nat.lt_of_le_of_lt (show _ ≤ 10000 by omega) (by decide)
        · intro b o e
          rw [upd_ne (ne_of_none e hD), upd_ne (ne_of_none (sm _ _ e) hq2)]
          exact sm _ _ e
        · rw [upd_same, List.map_append]
          rfl
        · rw [List.take_add_one, List.getElem?_eq_getElem hi, hr]
          show RowsAt _ _ ((rs.take i ++ [r]).map (shf kf))
          rw [List.map_append]
          refine Paired.snoc (rows_keep hrows fun b o e => ?_) ?_
          · rw [upd_ne (ne_of e hqs (fun x => by cases x)), upd_ne (ne_of_none e hq2)]
            exact e
          · rw [upd_ne Dq.symm, upd_same]
            show some (HO.tup [V.str (Str.ofString r.1), r.2.1, V.int ((r.2.2.1 : Int) + (kf : Int)), V.int (r.2.2.2 : Int)]) = some (HO.tup [V.str (Str.ofString r.1), r.2.1, V.int ((r.2.2.1 + kf : Nat) : Int), V.int (r.2.2.2 : Int)])
            rw [Int.natCast_add]
      · rintro H' ⟨sm, qs, hqs, hrows⟩
        rw [List.take_length] at hrows
        exact ⟨D, qs, sm4.trans sm, hqs, hrows, rfl⟩
    rintro σ H5 ⟨d5, qs, sm5, e5, rows5, rfl⟩
    refine ⟨fun σ H6 => Same H2 H6 ∧ σ = [some (.ref p), some (VS (flat els1)), some (.ref d1), some (VS (flat els2)), some (.ref d2), some (.int (((adv (1, 1) (flat els1)).1 : Nat) : Int)), some (.ref d5), none, none, none, none, none], ?_, ?_⟩
    · refine cmp_ne (both_ok ok1 ok2) (both_asc aa1 aa2) (by rw [both_flat, List.length_append, List.length_append, List.length_singleton]; omega) ?_ ?_ fun H6 sm6 => ?_
      · intro R h
        refine ⟨_, rfl, flat els1, [10], rfl, congrArg V.str s_nl, by rw [List.length_singleton]; omega, ?_⟩
        refine ⟨_, rfl, flat els1 ++ [10], flat els2, rfl, rfl, by rw [List.length_append, List.length_singleton]; omega, ?_⟩
        rw [← both_flat]
        exact h _ (Same.refl _)
      · intro H' R sm h
        refine ⟨_, rfl, _, rfl, d1, d5, _, _, rfl, rfl, (sm5.trans sm) _ _ f1, sm _ _ e5, ?_, fun l hl => ?_⟩
        · have h1 := due_len (1, 1) els1
          have h2 := els_len els1 ok1
          have h3 := due_len (1, 1) els2
          have h4 := els_len els2 ok2
          rw [List.length_map, List.length_map, fr1.length, rows5.length, List.length_map]
          exact Nat.le_trans (show _ ≤ 20000 by omega) (by decide)
        refine h l _ (ps1 ++ qs) (Same_new hl) (by rw [upd_same, List.map_append]) ?_
        rw [both_due]
        refine rows_app ?_ ?_
        · exact rows_keep (keep (sm5.trans sm) fr1) fun b z hz => by
            rw [upd_ne (ne_of_none hz hl)]
            exact hz
        · refine rows_keep rows5 fun b z hz => ?_
          rw [upd_ne (ne_of_none (sm _ _ hz) hl)]
          exact sm _ _ hz
      · exact ⟨sm5.trans sm6, rfl⟩
    rintro σ H6 ⟨sm6, rfl⟩
    refine ⟨fun σ H7 => Same H2 H7 ∧ σ = [some (.ref p), some (VS (flat els1)), some (.ref d1), some (VS (flat els2)), some (.ref d2), some (.int (((adv (1, 1) (flat els1)).1 : Nat) : Int)), some (.ref d5), some (VS (flat (plainE els1))), none, none, none, none], ?_, ?_⟩
    · refine ⟨_, rfl, flat els1, rfl, by omega, fun H7 sm7 => ?_⟩
      rw [plain_flat ok1]
      exact ⟨sm6.trans sm7, rfl⟩
    rintro σ H7 ⟨sm7, rfl⟩
    have pok := plain_ok ok1
    have pl1 := flat_len_plain ok1
    have paa : AllAsc (plainE els1) := plain_all aa1
    have pdu := plain_due els1 (1, 1)
    have lok := low_ok pok (bare_plain els1)
    have laa : AllAsc (lowE (plainE els1)) := low_all paa
    have ldu := low_due (plainE els1) (1, 1)
    have lfl := low_flat pok (bare_plain els1)
    have ll := flat_len_low (plainE els1)
    refine ⟨fun σ H8 => Same H2 H8 ∧ σ = [some (.ref p), some (VS (flat els1)), some (.ref d1), some (VS (flat els2)), some (.ref d2), some (.int (((adv (1, 1) (flat els1)).1 : Nat) : Int)), some (.ref d5), some (VS (flat (plainE els1))), none, none, none, none], ?_, ?_⟩
    · refine cmp_ne pok paa (by omega) (fun R h => ⟨_, rfl, h _ (Same.refl _)⟩) (fun H' R sm h => ⟨_, rfl, h _ _ ps1 (Same.refl _) ((sm7.trans sm) _ _ f1) (by rw [pdu]; exact keep (sm7.trans sm) fr1)⟩) fun H8 sm8 => ?_
      refine cmp_ne lok laa (by omega) (fun R h => ?_) (fun H' R sm h => ⟨_, rfl, h _ _ ps1 (Same.refl _) (((sm7.trans sm8).trans sm) _ _ f1) (by rw [ldu, pdu]; exact keep ((sm7.trans sm8).trans sm) fr1)⟩) fun H9 sm9 => ?_
      · refine ⟨_, rfl, flat (plainE els1), rfl, by omega, plain_asc aa1, fun H' sm' => ?_⟩
        rw [lfl]
        exact h _ sm'
      · exact ⟨(sm7.trans sm8).trans sm9, rfl⟩
    rintro σ H8 ⟨sm8, rfl⟩
    refine cmp_eq ok1 aa1 (by omega) (fun R h => ⟨_, rfl, h _ (Same.refl _)⟩) (fun H' R sm h => ⟨_, rfl, h _ _ ps1 (Same.refl _) ((sm8.trans sm) _ _ f1) (keep (sm8.trans sm) fr1)⟩) fun H9 sm9 => ?_
    exact q _ (kH.trans (Kp.of_same (sm8.trans sm9)))
end
end K0
end

/-! k00: the law -/
namespace K0
open PySem PySem.Spec PyProof.Rows L2 SX
abbrev sLaw : Stmt := topS 37
theorem same_seq {K : PySem.W.Frag} {q : Addr} {H H' : Hp} {xs : List V} (h : Same H H') (r : SqL K H q xs) : SqL K H' q xs := by
  rcases r with (r | ⟨o, r⟩) | r
  · exact .inl (.inl (h _ _ r))
  · exact .inl (.inr ⟨o, h _ _ r⟩)
  · exact .inr r
section
variable {P : Program} {w : World} {K : PySem.W.Frag} {mg : Str → Option Value} {base : Heap} {aW aL : Addr}
def spLaw (K : PySem.W.Frag) : Sp := fun vs H Q _ => ∃ (a : Addr) (ns : List Int), vs = [.ref a] ∧ SqL K H a (ns.map V.int) ∧ ∀ H', Q (.bl true) H'
theorem sc_law : FnScope ["script", "place"] ["script"] (C8.fnScope sLaw) := C8.fnScope_by (by decide +kernel)
theorem ok_law (nm : Nm w K mg aW aL) {f : Addr} {fd : FuncData} (D : C8.Def K mg "law" sLaw f fd) (c__law_cells : Cg P w K mg base 1 "_law_cells" (spCells (K := K))) (c__law_pot : Cg P w K mg base 1 "_law_pot" (spPot (K := K)))
    (c__law_right : Cg P w K mg base 6 "_law_right" spRight) :
    Fg P w K mg base 7 f fd ["script"] (spLaw K) := by
  refine g0 D.fn sc_law (fun vs H Q E h => ?_) (fun cdv A outer s H vs Q E hr gg h => ?_)
  · obtain ⟨a, ns, rfl, _⟩ := h
    rfl
  · obtain ⟨a, ns, rfl, hs, q⟩ := h
    have nd := sc_law.nd
    have hbig : big = 1000000 := rfl
    refine ⟨_, (pss_one (ps_ret (pe_callB (cr_all rfl) (by rfl) nm.m_all (by decide +kernel) (pa_cons (pe_lc (own := [("place", 1)]) (tt := tYes) rfl nd (pi_list (pe_g c__law_cells hr (by decide) gg (by rfl) (pa_cons (pv 0) (pa_cons pe_int pa_nil)))) (blkOk_by (N := ["script", "place"]) (sc := C8.fnScope (topS 37)) (by decide +kernel)) (fun _ _ _ _ _ => (pg_name (i := 1) nd rfl (.inl rfl))) (fun _ _ _ _ _ => pts_nil) (fun _ _ _ _ _ => (pe_g c__law_right hr (by decide) gg (by rfl) (pa_cons (pe_g c__law_pot hr (by decide) gg (by rfl) (pa_cons (pv 0) (pa_cons (pv 1) pa_nil))) pa_nil)))) pa_nil)))), ?_⟩
    rw [show start ["script", "place"] [.ref a] = [some (.ref a), none] from rfl]
    refine ⟨_, rfl, a, ns, rfl, hs, fun H1 d m sm1 hd hm ed => ?_⟩
    refine ⟨d, rfl, ⟨_, .inl (.inl ed)⟩, fun D hD => ?_⟩
    refine lc_n (J := Itl K d) (n := m) (fun i H' => Same H1 H' ∧ H' D = some (.lst ((List.replicate i true).map V.bl))) ⟨Same_new hD, upd_same⟩ ?_ ?_ ?_ ?_
    · rintro i H' hi ⟨sm, _⟩
      exact ⟨_, _, .inl (.inl (sm _ _ ed)), by rw [List.getElem?_map, List.getElem?_range hi]; rfl⟩
    · rintro H' ⟨sm, _⟩
      exact ⟨_, .inl (.inl (sm _ _ ed)), by rw [List.length_map, List.length_range]; exact Nat.le_refl _⟩
    · rintro i x H' H'' hi ⟨sm, hD'⟩ ⟨rfl, hx⟩
      have hx2 := hx _ (.inl (.inl (sm _ _ ed)))
      rw [List.getElem?_map, List.getElem?_range hi] at hx2
      obtain rfl := Option.some.inj hx2
      refine ⟨rfl, ?_⟩
      simp only [tYes, if_true]
      refine ⟨_, rfl, _, rfl, a, ns, i, rfl, same_seq (sm1.trans sm) hs, by omega, fun H2 p sm2 hp pot => ?_⟩
      refine ⟨p, rfl, pot, fun H3 k3 => ?_⟩
      have sm3 : Same H'' H3 := fun b o e => k3 b o (ne_of_none e hp) (sm2 _ _ e)
      refine ⟨_, sm3 _ _ hD', ?_, ?_, ?_⟩
      · rw [List.length_map, List.length_replicate]
        exact Nat.lt_of_le_of_lt (show i ≤ 10 by omega) (by decide)
      · intro b o e
        rw [upd_ne (ne_of_none e hD)]
        exact sm3 _ _ (sm _ _ e)
      · rw [upd_same, List.replicate_succ', List.map_append]
        rfl
    · rintro H' ⟨sm, hD'⟩
      refine ⟨D, List.replicate m true, rfl, .inl (.inl hD'), ?_⟩
      have e : (List.replicate m true).all id = true := by
        rw [List.all_eq_true]
        intro x hx
        rw [(List.mem_replicate.mp hx).2]
        rfl
      rw [e]
      exact q H'
end
end K0

/-! k00: what the top has written -/
namespace K0
open PySem PySem.Spec PyProof.Rows L2 SX
/-- a def of the module as the top leaves it -/
structure DF (K : PySem.W.Frag) (x : Str) (st : Stmt) : Prop where
  ex : ∃ (f : Addr) (oc : Value) (od : Option Addr) (kV doc pm : Value) (an : Option Addr) (cdv ct : Value) (osl : Array (Option Value)),
    PySem.W.nsIn K mainGlobals x = some (some (.ref f)) ∧ K.lookup f = some ⟨oc, od, .func (PySem.W.fnOf x x (C8.fnArgs st) (C8.fnBody st) (C8.fnScope st) .none kV doc pm an cdv ct), osl⟩ ∧ PySem.W.codeIn K cdv x = true ∧ PySem.W.keepIn K (.ref f) = true
theorem df_mk {K : PySem.W.Frag} {x : Str} {st : Stmt} {f : Addr} {oc : Value} {od an : Option Addr} {kV doc pm cdv ct : Value} {osl : Array (Option Value)} (a : PySem.W.nsIn K mainGlobals x = some (some (.ref f)))
    (l : K.lookup f = some ⟨oc, od, .func (PySem.W.fnOf x x (C8.fnArgs st) (C8.fnBody st) (C8.fnScope st) .none kV doc pm an cdv ct), osl⟩) (c : PySem.W.codeIn K cdv x = true) (k : PySem.W.keepIn K (.ref f) = true) : DF K x st :=
  ⟨⟨f, oc, od, kV, doc, pm, an, cdv, ct, osl, a, l, c, k⟩⟩
theorem DF.to {K : PySem.W.Frag} {x : Str} {st : Stmt} {h : Heap} {mg : Str → Option Value} (d : DF K x st) (X : K.In h) (G : h.Ns mainGlobals mg) :
    ∃ (f : Addr) (kV doc pm : Value) (an : Option Addr) (cdv ct : Value), C8.Def K mg x st f (PySem.W.fnOf x x (C8.fnArgs st) (C8.fnBody st) (C8.fnScope st) .none kV doc pm an cdv ct) := by
  obtain ⟨f, oc, od, kV, doc, pm, an, cdv, ct, osl, a, l, c, k⟩ := d.ex
  exact ⟨f, kV, doc, pm, an, cdv, ct, ⟨⟨oc, od, .none, kV, doc, pm, an, cdv, ct, osl, rfl, l, c⟩, PySem.W.mg_of X G a, k⟩⟩
/-- a tuple as the top leaves it -/
def TupK (K : PySem.W.Frag) (a : Addr) (xs : List V) : Prop := ∃ (o : Obj) (its : Array Value) (n : Nat), K.lookup a = some o ∧ o.cls = .type "tuple" ∧ o.data = .seq its n ∧ its.size ≤ sizeLine ∧ Vals xs its.toList
def tokOf : Value → Tok
  | .str _ t => t
  | _ => 0
theorem vals_chk : ∀ (ws : List String) (us : List Value), us = List.zipWith (fun w t => Value.str (Str.ofString w) t) ws (us.map tokOf) → ws.length = us.length → Vals ((ws.map codes).map VS) us
  | [], [], _, _ => .nil
  | w :: ws, u :: us, h, hl => by
    have h1 := (List.cons.inj h).1
    have h2 := (List.cons.inj h).2
    refine .cons ⟨tokOf u, ?_⟩ (vals_chk ws us h2 (Nat.succ.inj hl))
    rw [← codes_S]
    exact h1
  | [], _ :: _, _, hl => nomatch hl
  | _ :: _, [], _, hl => nomatch hl
theorem tup_mk {K : PySem.W.Frag} {a : Addr} {xs : List V} {od : Option Addr} {its : Array Value} {n : Nat} {sl : Array (Option Value)} (l : K.lookup a = some ⟨.type "tuple", od, .seq its n, sl⟩) (s : its.size ≤ sizeLine) (v : Vals xs its.toList) : TupK K a xs := ⟨_, its, n, l, rfl, rfl, s, v⟩
/-- a dict of written texts as the top leaves it -/
theorem dic_mk {w : World} {K : PySem.W.Frag} {a : Addr} {ws : List String} {es : Array DictEntry} {n : Nat} (l : K.lookup a = some ⟨.type "dict", none, .dict es n, #[]⟩) (r : es.toList.map He.keyOf = He.keysIn w.params (ws.map Str.ofString)) (s : (a == sysModules) = false) : DicT w K a (ws.map codes) := by
  refine ⟨⟨es, n, l, He.keysLit_of r, s⟩, fun z => ?_⟩
  have key : ∀ (es : List DictEntry) (ws : List String), es.map He.keyOf = He.keysIn w.params (ws.map Str.ofString) → es.any (·.refKey) = false ∧ (es.find? (·.key.isStr (S z))).isSome = decide (z ∈ ws.map codes) := by
    intro es
    induction es with
    | nil =>
      intro ws h
      cases ws with
      | nil => exact ⟨rfl, rfl⟩
      | cons _ _ => cases h
    | cons e r ih =>
      intro ws h
      cases ws with
      | nil => cases h
      | cons u us =>
        have h1 : He.keyOf e :: r.map He.keyOf = some (Str.ofString u, PyData.keyHash w.params (Str.ofString u)) :: He.keysIn w.params (us.map Str.ofString) := h
        injection h1 with h2 h3
        obtain ⟨i1, i2⟩ := ih us h3
        obtain ⟨hs, k, v⟩ := e
        unfold He.keyOf at h2
        cases k with
        | str x t =>
          have hx : x = S (codes u) := by
            have h4 := (Prod.mk.inj (Option.some.inj h2)).1
            rw [← codes_S]
            exact h4
          subst hx
          refine ⟨?_, ?_⟩
          · rw [List.any_cons, i1]
            rfl
          · have hb : Value.isStr (.str (S (codes u)) t) (S z) = decide (codes u = z) := S_beq_eq
            by_cases hz : codes u = z
            · rw [List.find?_cons_of_pos (by show Value.isStr (.str (S (codes u)) t) (S z) = true; rw [hb, decide_eq_true hz])]
              rw [decide_eq_true (by rw [← hz]; exact List.mem_map_of_mem List.mem_cons_self)]
              rfl
            · rw [List.find?_cons_of_neg (by show ¬ Value.isStr (.str (S (codes u)) t) (S z) = true; rw [hb, decide_eq_false hz]; exact Bool.false_ne_true), i2]
              rw [decide_eq_decide, List.map_cons, List.mem_cons]
              exact ⟨.inr, fun h => h.resolve_left fun e => hz e.symm⟩
        | _ => cases h2
  obtain ⟨k1, k2⟩ := key es.toList ws r
  unfold PySem.W.nsIn
  rw [l]
  dsimp only
  cases q : es.toList.find? (·.key.isStr (S z)) with
  | some e => exact ⟨_, rfl, by rw [q] at k2; exact k2⟩
  | none =>
    refine ⟨none, by rw [k1]; rfl, by rw [q] at k2; exact k2⟩
theorem all_mk {P : Program} {w : World} {K : PySem.W.Frag} {h : Heap} {mg : Str → Option Value} {fa aW aL : Addr} (X : K.In h) (G : h.Ns mainGlobals mg) (hfa : mg "law" = some (.ref fa))
    (d0 : DF K "tokens" sTokens)
    (d1 : DF K "gap_end" sGapEnd)
    (d2 : DF K "comment_end" sCommentEnd)
    (d3 : DF K "token_at" sTokenAt)
    (d4 : DF K "is_figure" sIsFigure)
    (d5 : DF K "number_at" sNumberAt)
    (d6 : DF K "number_of" sNumberOf)
    (d7 : DF K "string_at" sStringAt)
    (d8 : DF K "_law_pot" sPot)
    (d9 : DF K "_law_take" sTake)
    (d10 : DF K "_law_of" sOf)
    (d11 : DF K "_law_cells" sCells)
    (d12 : DF K "_law_name" sName)
    (d13 : DF K "_law_words" sWords)
    (d14 : DF K "_law_spelt" sSpelt)
    (d15 : DF K "_law_string" sString)
    (d16 : DF K "_law_number" sNumber)
    (d17 : DF K "_law_token" sToken)
    (d18 : DF K "_law_may_touch" sTouch)
    (d19 : DF K "_law_comment" sComment)
    (d20 : DF K "_law_gap" sGap)
    (d21 : DF K "_law_row" sRow)
    (d22 : DF K "_law_plain" sPlain)
    (d23 : DF K "_law_small" sSmall)
    (d24 : DF K "_law_right" sRight)
    (d25 : DF K "law" sLaw)
    (z0 : PySem.W.nsIn K mainGlobals "len" = some none)
    (z1 : PySem.W.nsIn K mainGlobals "range" = some none)
    (z2 : PySem.W.nsIn K mainGlobals "isinstance" = some none)
    (z3 : PySem.W.nsIn K mainGlobals "str" = some none)
    (z4 : PySem.W.nsIn K mainGlobals "int" = some none)
    (z5 : PySem.W.nsIn K mainGlobals "tuple" = some none)
    (z6 : PySem.W.nsIn K mainGlobals "list" = some none)
    (z7 : PySem.W.nsIn K mainGlobals "abs" = some none)
    (z8 : PySem.W.nsIn K mainGlobals "sum" = some none)
    (z9 : PySem.W.nsIn K mainGlobals "max" = some none)
    (z10 : PySem.W.nsIn K mainGlobals "min" = some none)
    (z11 : PySem.W.nsIn K mainGlobals "repr" = some none)
    (z12 : PySem.W.nsIn K mainGlobals "all" = some none)
    (z13 : PySem.W.nsIn K mainGlobals "enumerate" = some none)
    {t1 t2 t3 t4 t5 : Tok} (u1 : PySem.W.nsIn K mainGlobals "MAXINT" = some (some (.int 2147483647 t1))) (u2 : PySem.W.nsIn K mainGlobals "SHORT_SIGNS" = some (some (.str (Str.ofString "+-*=<>()[].,:;^") t2)))
    (u3 : PySem.W.nsIn K mainGlobals "WORDS" = some (some (.ref aW))) (u4 : PySem.W.nsIn K mainGlobals "LONG_SIGNS" = some (some (.ref aL)))
    (u5 : DicT w K aW wordsL) (u6 : TupK K aL (pairsL.map VS))
    (u7 : PySem.W.nsIn K mainGlobals "LETTERS" = some (some (.str (Str.ofString "abcdefghijklmnopqrstuvwxyzABCDEFGHIJKLMNOPQRSTUVWXYZ") t3))) (u8 : PySem.W.nsIn K mainGlobals "NAME_SIGNS" = some (some (.str (Str.ofString "abcdefghijklmnopqrstuvwxyzABCDEFGHIJKLMNOPQRSTUVWXYZ0123456789") t4)))
    (u9 : PySem.W.nsIn K mainGlobals "SINGLE_SIGNS" = some (some (.str (Str.ofString "+-*=)[],;^") t5))) :
    ∃ fd : FuncData, (∀ (s : Shared) (v : Value), BindsTo s fd ⟨[v], []⟩ [("script", v)]) ∧ ∀ base : Heap, K.In base → base.Ns mainGlobals mg → Fg P w K mg base 7 fa fd ["script"] (spLaw K) := by
  have nm : Nm w K mg aW aL := ⟨PySem.W.mg_none_of X G z0, PySem.W.mg_none_of X G z1, PySem.W.mg_none_of X G z2, PySem.W.mg_none_of X G z3, PySem.W.mg_none_of X G z4, PySem.W.mg_none_of X G z5, PySem.W.mg_none_of X G z6, PySem.W.mg_none_of X G z7, PySem.W.mg_none_of X G z8, PySem.W.mg_none_of X G z9, PySem.W.mg_none_of X G z10, PySem.W.mg_none_of X G z11, PySem.W.mg_none_of X G z12, PySem.W.mg_none_of X G z13, ⟨_, PySem.W.mg_of X G u1, ⟨t1, rfl⟩⟩, ⟨_, PySem.W.mg_of X G u2, ⟨t2, by rw [codes_S]; rfl⟩⟩, ⟨_, PySem.W.mg_of X G u9, ⟨t5, by rw [codes_S]; rfl⟩⟩, ⟨_, PySem.W.mg_of X G u3, rfl⟩, ⟨_, PySem.W.mg_of X G u4, rfl⟩, ⟨_, PySem.W.mg_of X G u7, ⟨t3, by rw [s_52]⟩⟩, ⟨_, PySem.W.mg_of X G u8, ⟨t4, by rw [s_62]⟩⟩, u5, fun H => .inr u6⟩
  obtain ⟨f_tokens, v1_tokens, v2_tokens, v3_tokens, v4_tokens, v5_tokens, v6_tokens, D_tokens⟩ := d0.to X G
  obtain ⟨f_gap_end, v1_gap_end, v2_gap_end, v3_gap_end, v4_gap_end, v5_gap_end, v6_gap_end, D_gap_end⟩ := d1.to X G
  obtain ⟨f_comment_end, v1_comment_end, v2_comment_end, v3_comment_end, v4_comment_end, v5_comment_end, v6_comment_end, D_comment_end⟩ := d2.to X G
  obtain ⟨f_token_at, v1_token_at, v2_token_at, v3_token_at, v4_token_at, v5_token_at, v6_token_at, D_token_at⟩ := d3.to X G
  obtain ⟨f_is_figure, v1_is_figure, v2_is_figure, v3_is_figure, v4_is_figure, v5_is_figure, v6_is_figure, D_is_figure⟩ := d4.to X G
  obtain ⟨f_number_at, v1_number_at, v2_number_at, v3_number_at, v4_number_at, v5_number_at, v6_number_at, D_number_at⟩ := d5.to X G
  obtain ⟨f_number_of, v1_number_of, v2_number_of, v3_number_of, v4_number_of, v5_number_of, v6_number_of, D_number_of⟩ := d6.to X G
  obtain ⟨f_string_at, v1_string_at, v2_string_at, v3_string_at, v4_string_at, v5_string_at, v6_string_at, D_string_at⟩ := d7.to X G
  obtain ⟨f__law_pot, v1__law_pot, v2__law_pot, v3__law_pot, v4__law_pot, v5__law_pot, v6__law_pot, D__law_pot⟩ := d8.to X G
  obtain ⟨f__law_take, v1__law_take, v2__law_take, v3__law_take, v4__law_take, v5__law_take, v6__law_take, D__law_take⟩ := d9.to X G
  obtain ⟨f__law_of, v1__law_of, v2__law_of, v3__law_of, v4__law_of, v5__law_of, v6__law_of, D__law_of⟩ := d10.to X G
  obtain ⟨f__law_cells, v1__law_cells, v2__law_cells, v3__law_cells, v4__law_cells, v5__law_cells, v6__law_cells, D__law_cells⟩ := d11.to X G
  obtain ⟨f__law_name, v1__law_name, v2__law_name, v3__law_name, v4__law_name, v5__law_name, v6__law_name, D__law_name⟩ := d12.to X G
  obtain ⟨f__law_words, v1__law_words, v2__law_words, v3__law_words, v4__law_words, v5__law_words, v6__law_words, D__law_words⟩ := d13.to X G
  obtain ⟨f__law_spelt, v1__law_spelt, v2__law_spelt, v3__law_spelt, v4__law_spelt, v5__law_spelt, v6__law_spelt, D__law_spelt⟩ := d14.to X G
  obtain ⟨f__law_string, v1__law_string, v2__law_string, v3__law_string, v4__law_string, v5__law_string, v6__law_string, D__law_string⟩ := d15.to X G
  obtain ⟨f__law_number, v1__law_number, v2__law_number, v3__law_number, v4__law_number, v5__law_number, v6__law_number, D__law_number⟩ := d16.to X G
  obtain ⟨f__law_token, v1__law_token, v2__law_token, v3__law_token, v4__law_token, v5__law_token, v6__law_token, D__law_token⟩ := d17.to X G
  obtain ⟨f__law_may_touch, v1__law_may_touch, v2__law_may_touch, v3__law_may_touch, v4__law_may_touch, v5__law_may_touch, v6__law_may_touch, D__law_may_touch⟩ := d18.to X G
  obtain ⟨f__law_comment, v1__law_comment, v2__law_comment, v3__law_comment, v4__law_comment, v5__law_comment, v6__law_comment, D__law_comment⟩ := d19.to X G
  obtain ⟨f__law_gap, v1__law_gap, v2__law_gap, v3__law_gap, v4__law_gap, v5__law_gap, v6__law_gap, D__law_gap⟩ := d20.to X G
  obtain ⟨f__law_row, v1__law_row, v2__law_row, v3__law_row, v4__law_row, v5__law_row, v6__law_row, D__law_row⟩ := d21.to X G
  obtain ⟨f__law_plain, v1__law_plain, v2__law_plain, v3__law_plain, v4__law_plain, v5__law_plain, v6__law_plain, D__law_plain⟩ := d22.to X G
  obtain ⟨f__law_small, v1__law_small, v2__law_small, v3__law_small, v4__law_small, v5__law_small, v6__law_small, D__law_small⟩ := d23.to X G
  obtain ⟨f__law_right, v1__law_right, v2__law_right, v3__law_right, v4__law_right, v5__law_right, v6__law_right, D__law_right⟩ := d24.to X G
  obtain ⟨f_law, v1_law, v2_law, v3_law, v4_law, v5_law, v6_law, D_law⟩ := d25.to X G
  have e := hfa.symm.trans D_law.mgf
  cases e
  have b_comment_end := D_comment_end.fn.binds (ps := ["text", "begin", "inside"]) rfl fun _ _ _ _ _ _ us hl => match us, hl with | [_, _, _], _ => rfl
  have b_gap_end := D_gap_end.fn.binds (ps := ["text", "at"]) rfl fun _ _ _ _ _ _ us hl => match us, hl with | [_, _], _ => rfl
  have b_is_figure := D_is_figure.fn.binds (ps := ["sign"]) rfl fun _ _ _ _ _ _ us hl => match us, hl with | [_], _ => rfl
  have b_number_of := D_number_of.fn.binds (ps := ["figures"]) rfl fun _ _ _ _ _ _ us hl => match us, hl with | [_], _ => rfl
  have b_number_at := D_number_at.fn.binds (ps := ["text", "at"]) rfl fun _ _ _ _ _ _ us hl => match us, hl with | [_, _], _ => rfl
  have b_string_at := D_string_at.fn.binds (ps := ["text", "at"]) rfl fun _ _ _ _ _ _ us hl => match us, hl with | [_, _], _ => rfl
  have b_token_at := D_token_at.fn.binds (ps := ["text", "at"]) rfl fun _ _ _ _ _ _ us hl => match us, hl with | [_, _], _ => rfl
  have b__law_take := D__law_take.fn.binds (ps := ["pot", "upto"]) rfl fun _ _ _ _ _ _ us hl => match us, hl with | [_, _], _ => rfl
  have b__law_of := D__law_of.fn.binds (ps := ["pot", "some"]) rfl fun _ _ _ _ _ _ us hl => match us, hl with | [_, _], _ => rfl
  have b__law_words := D__law_words.fn.binds (ps := []) rfl fun _ _ _ _ _ _ us hl => match us, hl with | [], _ => rfl
  have b__law_spelt := D__law_spelt.fn.binds (ps := ["pot", "word"]) rfl fun _ _ _ _ _ _ us hl => match us, hl with | [_, _], _ => rfl
  have b__law_name := D__law_name.fn.binds (ps := ["pot"]) rfl fun _ _ _ _ _ _ us hl => match us, hl with | [_], _ => rfl
  have b__law_string := D__law_string.fn.binds (ps := ["pot"]) rfl fun _ _ _ _ _ _ us hl => match us, hl with | [_], _ => rfl
  have b__law_number := D__law_number.fn.binds (ps := ["pot"]) rfl fun _ _ _ _ _ _ us hl => match us, hl with | [_], _ => rfl
  have b__law_token := D__law_token.fn.binds (ps := ["pot"]) rfl fun _ _ _ _ _ _ us hl => match us, hl with | [_], _ => rfl
  have b__law_may_touch := D__law_may_touch.fn.binds (ps := ["one", "other"]) rfl fun _ _ _ _ _ _ us hl => match us, hl with | [_, _], _ => rfl
  have b__law_comment := D__law_comment.fn.binds (ps := ["pot"]) rfl fun _ _ _ _ _ _ us hl => match us, hl with | [_], _ => rfl
  have b__law_gap := D__law_gap.fn.binds (ps := ["pot", "one", "other"]) rfl fun _ _ _ _ _ _ us hl => match us, hl with | [_, _, _], _ => rfl
  have b__law_row := D__law_row.fn.binds (ps := ["pot"]) rfl fun _ _ _ _ _ _ us hl => match us, hl with | [_], _ => rfl
  have b__law_plain := D__law_plain.fn.binds (ps := ["text"]) rfl fun _ _ _ _ _ _ us hl => match us, hl with | [_], _ => rfl
  have b__law_small := D__law_small.fn.binds (ps := ["text"]) rfl fun _ _ _ _ _ _ us hl => match us, hl with | [_], _ => rfl
  have b__law_pot := D__law_pot.fn.binds (ps := ["script", "place"]) rfl fun _ _ _ _ _ _ us hl => match us, hl with | [_, _], _ => rfl
  have b__law_cells := D__law_cells.fn.binds (ps := ["script", "most"]) rfl fun _ _ _ _ _ _ us hl => match us, hl with | [_, _], _ => rfl
  have b_tokens := D_tokens.fn.binds (ps := ["text"]) rfl fun _ _ _ _ _ _ us hl => match us, hl with | [_], _ => rfl
  refine ⟨PySem.W.fnOf "law" "law" (C8.fnArgs sLaw) (C8.fnBody sLaw) (C8.fnScope sLaw) .none v1_law v2_law v3_law v4_law v5_law v6_law, fun s v => .of_eq rfl, fun base KB _ => ?_⟩
  have c_comment_end := ok_commentEnd (P := P) (w := w) (base := base) nm D_comment_end b_comment_end 
  have c_gap_end := ok_gapEnd (P := P) (w := w) (base := base) nm D_gap_end b_gap_end c_comment_end
  have c_is_figure := ok_isFigure (P := P) (w := w) (base := base) D_is_figure b_is_figure 
  have c_number_of := ok_numberOf (P := P) (w := w) (base := base) nm D_number_of b_number_of 
  have c_number_at := ok_numberAt (P := P) (w := w) (base := base) nm D_number_at b_number_at c_number_of c_is_figure
  have c_string_at := ok_stringAt (P := P) (w := w) (base := base) nm D_string_at b_string_at 
  have c_token_at := ok_tokenAt (P := P) (w := w) (base := base) nm D_token_at b_token_at c_is_figure c_number_at c_string_at
  have c__law_take := ok_take (P := P) (w := w) (base := base) nm D__law_take b__law_take 
  have c__law_of := ok_of (P := P) (w := w) (base := base) nm D__law_of b__law_of c__law_take
  have c__law_words := ok_words (P := P) (w := w) (base := base) nm D__law_words b__law_words 
  have c__law_spelt := ok_spelt (P := P) (w := w) (base := base) nm D__law_spelt b__law_spelt c__law_take
  have c__law_name := ok_name (P := P) (w := w) (base := base) nm D__law_name b__law_name c__law_of c__law_words
  have c__law_string := ok_string (P := P) (w := w) (base := base) nm D__law_string b__law_string c__law_of c__law_take
  have c__law_number := ok_number (P := P) (w := w) (base := base) nm D__law_number b__law_number c__law_of c__law_take
  have c__law_token := ok_token (P := P) (w := w) (base := base) nm D__law_token b__law_token c__law_of c__law_take c__law_words c__law_spelt c__law_name c__law_string c__law_number
  have c__law_may_touch := ok_touch (P := P) (w := w) (base := base) nm D__law_may_touch b__law_may_touch 
  have c__law_comment := ok_comment (P := P) (w := w) (base := base) nm D__law_comment b__law_comment c__law_of c__law_take
  have c__law_gap := ok_gap (P := P) (w := w) (base := base) nm D__law_gap b__law_gap c__law_of c__law_take c__law_may_touch c__law_comment
  have c__law_row := ok_row (P := P) (w := w) (base := base) nm D__law_row b__law_row c__law_of c__law_take c__law_token c__law_gap
  have c__law_plain := ok_plain (P := P) (w := w) (base := base) nm D__law_plain b__law_plain 
  have c__law_small := ok_small (P := P) (w := w) (base := base) nm D__law_small b__law_small 
  have c__law_pot := ok_pot (P := P) (w := w) (base := base) nm D__law_pot b__law_pot 
  have c__law_cells := ok_cells (P := P) (w := w) (base := base) nm D__law_cells b__law_cells 
  have F_tokens := ok_tokens (P := P) (w := w) (base := base) nm D_tokens c_gap_end c_token_at
  have c_tokens : Cg P w K mg base 4 "tokens" spTokens := ⟨_, _, _, F_tokens, D_tokens.mgf, D_tokens.kp, b_tokens⟩
  have ck : Ck K (PySem.W.fnOf "tokens" "tokens" (C8.fnArgs sTokens) (C8.fnBody sTokens) (C8.fnScope sTokens) .none v1_tokens v2_tokens v3_tokens v4_tokens v5_tokens v6_tokens) "text" := ⟨fun s u _ => .of_eq rfl⟩
  have c_right := ok_right (P := P) (w := w) (base := base) nm D__law_right (D__law_right.fn.binds (ps := ["pot"]) rfl fun _ _ _ _ _ _ us hl => match us, hl with | [_], _ => rfl) c__law_row F_tokens D_tokens.mgf D_tokens.kp ck c_tokens c__law_plain c__law_small
  exact ok_law nm D_law c__law_cells c__law_pot c_right
end K0

open PySem PySem.W PyProof.Rows
set_option maxHeartbeats 0 in
theorem PySem.Challenge.cw_begunended_k00_whole_tokens_of_drawn_row_holds : PySem.Challenge.rw_begunended_k00_whole_tokens_of_drawn_row.Holds := by
  w_on; o_law; k_head; (case hw => w_witness2)
  k_fill
  refine K0.walk_g (l := PySem.Challenge.rw_begunended_k00_whole_tokens_of_drawn_row) (n := 63) (k := 7) (x := "script") (sp := fun K => K0.spLaw K) rfl (by decide) rfl ⟨rfl, by decide, by decide⟩ (fun w h Y => PySem.W.kIn_of Y) ?F (fun K H a ns _ _ hS => ⟨a, ns, rfl, hS, fun _ => rfl⟩)
  case F =>
    intro w mg fa h KX G hmg
    refine' K0.all_mk KX G hmg ?d0 ?d1 ?d2 ?d3 ?d4 ?d5 ?d6 ?d7 ?d8 ?d9 ?d10 ?d11 ?d12 ?d13 ?d14 ?d15 ?d16 ?d17 ?d18 ?d19 ?d20 ?d21 ?d22 ?d23 ?d24 ?d25 ?z0 ?z1 ?z2 ?z3 ?z4 ?z5 ?z6 ?z7 ?z8 ?z9 ?z10 ?z11 ?z12 ?z13 ?u1 ?u2 ?u3 ?u4 ?u5 ?u6 ?u7 ?u8 ?u9
    (case d0 => refine' K0.df_mk ?a ?l ?c ?k; (case a => k_is); (case l => k_is); (case c => k_is); (case k => k_is))
    (case d1 => refine' K0.df_mk ?a ?l ?c ?k; (case a => k_is); (case l => k_is); (case c => k_is); (case k => k_is))
    (case d2 => refine' K0.df_mk ?a ?l ?c ?k; (case a => k_is); (case l => k_is); (case c => k_is); (case k => k_is))
    (case d3 => refine' K0.df_mk ?a ?l ?c ?k; (case a => k_is); (case l => k_is); (case c => k_is); (case k => k_is))
    (case d4 => refine' K0.df_mk ?a ?l ?c ?k; (case a => k_is); (case l => k_is); (case c => k_is); (case k => k_is))
    (case d5 => refine' K0.df_mk ?a ?l ?c ?k; (case a => k_is); (case l => k_is); (case c => k_is); (case k => k_is))
    (case d6 => refine' K0.df_mk ?a ?l ?c ?k; (case a => k_is); (case l => k_is); (case c => k_is); (case k => k_is))
    (case d7 => refine' K0.df_mk ?a ?l ?c ?k; (case a => k_is); (case l => k_is); (case c => k_is); (case k => k_is))
    (case d8 => refine' K0.df_mk ?a ?l ?c ?k; (case a => k_is); (case l => k_is); (case c => k_is); (case k => k_is))
    (case d9 => refine' K0.df_mk ?a ?l ?c ?k; (case a => k_is); (case l => k_is); (case c => k_is); (case k => k_is))
    (case d10 => refine' K0.df_mk ?a ?l ?c ?k; (case a => k_is); (case l => k_is); (case c => k_is); (case k => k_is))
    (case d11 => refine' K0.df_mk ?a ?l ?c ?k; (case a => k_is); (case l => k_is); (case c => k_is); (case k => k_is))
    (case d12 => refine' K0.df_mk ?a ?l ?c ?k; (case a => k_is); (case l => k_is); (case c => k_is); (case k => k_is))
    (case d13 => refine' K0.df_mk ?a ?l ?c ?k; (case a => k_is); (case l => k_is); (case c => k_is); (case k => k_is))
    (case d14 => refine' K0.df_mk ?a ?l ?c ?k; (case a => k_is); (case l => k_is); (case c => k_is); (case k => k_is))
    (case d15 => refine' K0.df_mk ?a ?l ?c ?k; (case a => k_is); (case l => k_is); (case c => k_is); (case k => k_is))
    (case d16 => refine' K0.df_mk ?a ?l ?c ?k; (case a => k_is); (case l => k_is); (case c => k_is); (case k => k_is))
    (case d17 => refine' K0.df_mk ?a ?l ?c ?k; (case a => k_is); (case l => k_is); (case c => k_is); (case k => k_is))
    (case d18 => refine' K0.df_mk ?a ?l ?c ?k; (case a => k_is); (case l => k_is); (case c => k_is); (case k => k_is))
    (case d19 => refine' K0.df_mk ?a ?l ?c ?k; (case a => k_is); (case l => k_is); (case c => k_is); (case k => k_is))
    (case d20 => refine' K0.df_mk ?a ?l ?c ?k; (case a => k_is); (case l => k_is); (case c => k_is); (case k => k_is))
    (case d21 => refine' K0.df_mk ?a ?l ?c ?k; (case a => k_is); (case l => k_is); (case c => k_is); (case k => k_is))
    (case d22 => refine' K0.df_mk ?a ?l ?c ?k; (case a => k_is); (case l => k_is); (case c => k_is); (case k => k_is))
    (case d23 => refine' K0.df_mk ?a ?l ?c ?k; (case a => k_is); (case l => k_is); (case c => k_is); (case k => k_is))
    (case d24 => refine' K0.df_mk ?a ?l ?c ?k; (case a => k_is); (case l => k_is); (case c => k_is); (case k => k_is))
    (case d25 => refine' K0.df_mk ?a ?l ?c ?k; (case a => k_is); (case l => k_is); (case c => k_is); (case k => k_is))
    (case z0 => k_is)
    (case z1 => k_is)
    (case z2 => k_is)
    (case z3 => k_is)
    (case z4 => k_is)
    (case z5 => k_is)
    (case z6 => k_is)
    (case z7 => k_is)
    (case z8 => k_is)
    (case z9 => k_is)
    (case z10 => k_is)
    (case z11 => k_is)
    (case z12 => k_is)
    (case z13 => k_is)
    (case u1 => k_is); (case u2 => k_is); (case u3 => k_is); (case u4 => k_is)
    (case u7 => k_is); (case u8 => k_is); (case u9 => k_is)
    (case u5 => refine' K0.dic_mk (ws := K0.wordsS) ?l ?r ?s; (case l => k_is); (case r => rfl); (case s => rfl))
    (case u6 => refine' K0.tup_mk ?l ?s ?v; (case l => k_is); (case s => decide); (case v => exact K0.vals_chk K0.pairsS _ rfl rfl))
