"""Primes: one by which unlike numbers leave unlike rests."""


def is_prime(number):
    divisor = 2
    while divisor * divisor <= number:
        if number % divisor == 0:
            return False
        divisor += 1
    return True


def keeps_apart(divisor, numbers):
    return len(set([number % divisor for number in numbers])) == len(set(numbers))


def parting_prime(numbers, least):
    # There is one: few primes divide a number that is not 0, such as that between two unlike numbers.
    prime = least
    while not is_prime(prime) or not keeps_apart(prime, numbers):
        prime += 1
    return prime
